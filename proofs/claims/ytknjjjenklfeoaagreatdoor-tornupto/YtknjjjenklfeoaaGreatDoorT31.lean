import Derived.Test.YtknjjjenklfeoaaGreatDoorT30
set_option maxHeartbeats 8000000
set_option maxRecDepth 100000
namespace Go.Proofs.YtknjjjenklfeoaaGreatDoor
def badC (U:List Nat) (k:List UInt8) (T n:Nat):Bool:=decide (byteAt k n<U.getD n 0) || (decide (254<byteAt k n) || (decide (T≤n) && decide (byteAt k n≠0)))
def countsP (U:List Nat) (k:List UInt8) (T:Nat):Nat→Nat→Int
 | 0,_=> -1
 | m+1,n=>if badC U k T n then (n:Int) else countsP U k T m (n+1)
def markP (k:List UInt8) (s:SpotN):Bool:=decide (32768≤s.number) && decide (byteAt k (s.number%32768)≠1)
def badTab:Option SpotN→Int
 | none=> -1
 | some s=>(s.table:Int)
def marksP (C:List Clus) (k:List UInt8) (fs:List Nat):Int:=badTab ((fs.flatMap fun f=>toldFrom C f 32 0).find? (markP k))
theorem countsP_eq {U:List Nat} {k:List UInt8} {T:Nat} {R:FileR}: ∀ m n,(∀ j,n≤j→j<n+m→badC U k T j=badCount R j)→countsP U k T m n=countsFrom R m n
 | 0,_,_=>rfl
 | m+1,n,h=>by rw [countsP,countsFrom,h n (by omega) (by omega),countsP_eq m (n+1) (fun j h1 h2=>h j (by omega) (by omega))]
theorem countsFrom_ge (R:FileR): ∀ m n,countsFrom R m n= -1∨0≤countsFrom R m n
 | 0,_=>Or.inl rfl
 | m+1,n=>by
   rw [countsFrom]
   split
   · exact Or.inr (by omega)
   · exact countsFrom_ge R m (n+1)
theorem countsFrom_none {R:FileR}: ∀ m n,countsFrom R m n= -1→ ∀ j,n≤j→j<n+m→badCount R j=false
 | 0,_,_,j,h1,h2=>by omega
 | m+1,n,h,j,h1,h2=>by
   rw [countsFrom] at h
   split at h
   · omega
   · rename_i h0
     by_cases e:j=n
     · rw [e];simpa using h0
     · exact countsFrom_none m (n+1) h j (by omega) (by omega)
theorem marksFrom_pos (R:FileR): ∀ m i b,0≤b→marksFrom R m i b=b
 | 0,_,_,_=>rfl
 | m+1,i,b,h=>by rw [marksFrom,if_neg (by omega)]
section
variable {L:List Clus} {rs:List RootR} {b:Int} {R:FileR}
theorem spFrom_mem (C:List Clus) (t:Nat) (s:SpotN): ∀ m k,s ∈ spFrom C t m k→s.table=t∧k≤s.index∧s.index<k+m∧s.number=nm C t s.index∧s.number≠0
 | 0,_,h=>by simp [spFrom] at h
 | m+1,k,h=>by
   rw [spFrom] at h
   rcases List.mem_append.1 h with y | y
   · split at y
     · simp at y
     · rename_i h0
       rw [List.mem_singleton.1 y]
       exact ⟨rfl,Nat.le_refl _,by show k<_;omega,rfl,h0⟩
   · obtain ⟨h1,h2,h3,h4⟩:=spFrom_mem C t s m (k+1) y
     exact ⟨h1,by omega,by omega,h4⟩
theorem toldFrom_two {C:List Clus} {t:Nat} (hz: ∀ i,1<i→i<32→nm C t i=0):toldFrom C t 32 0=toldFrom C t 2 0:=by
 have key: ∀ m i,2≤i→i+m=32→toldFrom C t m i=[]:=by
   intro m
   induction m with
   | zero=>intro i _ _;rfl
   | succ m ih=>intro i h1 h2;rw [toldFrom,if_pos (hz i (by omega) (by omega)),ih (i+1) (by omega) (by omega)];rfl
 have h2:=key 30 2 (by omega) (by omega)
 show (if nm C t 0=0 then [] else _)++((if nm C t 1=0 then [] else _)++toldFrom C t 30 2)=_
 rw [h2]
 rfl
theorem find_none_tab {p:SpotN→Bool} {l:List SpotN} {t:Nat} (ht: ∀ s ∈ l,s.table=t):badTab (l.find? p)=if (l.find? p).isNone then -1 else (t:Int):=by
 cases h:l.find? p with
 | none=>rfl
 | some s=>show (s.table:Int)=t;rw [ht s (List.mem_of_find?_eq_some h)]
theorem markedIn_find (k:List UInt8) (t:Nat): ∀ m j acc,(∀ i,j≤i→i<j+m→nm R.L t i≠0→ ∀ tb ix,markBad R (nm R.L t i)=markP k ⟨tb,ix,nm R.L t i⟩)→(markedIn R t m j acc).isNone= !((spFrom R.L t m j).find? (markP k)).isNone
 | 0,_,_,_=>rfl
 | m+1,j,acc,h=>by
   rw [markedIn,spFrom]
   by_cases h0:num (cl R.L t) (2*j)=0
   · rw [if_pos h0,if_pos h0,List.nil_append]
     exact markedIn_find k t m (j+1) acc (fun i h1 h2=>h i (by omega) (by omega))
   · have e:=h j (by omega) (by omega) h0 t j
     rw [if_neg h0,if_neg h0,List.singleton_append,List.find?_cons,← e]
     cases hb:markBad R (num (cl R.L t) (2*j)) with
     | true=>rfl
     | false=>exact markedIn_find k t m (j+1) _ (fun i h1 h2=>h i (by omega) (by omega))
theorem markedOut_find (k:List UInt8) (t:Nat): ∀ m i acc,(∀ s ∈ toldFrom R.L t m i,markBad R s.number=markP k s)→(markedOut R t m i acc).1=badTab ((toldFrom R.L t m i).find? (markP k))
 | 0,_,_,_=>rfl
 | m+1,i,acc,h=>by
   rw [toldFrom] at h
   rw [markedOut,toldFrom]
   by_cases h0:num (cl R.L t) (2*i)=0
   · rw [if_pos h0] at h
     rw [if_pos h0,if_pos h0,List.nil_append]
     exact markedOut_find k t m (i+1) acc h
   · rw [if_neg h0] at h
     have e:=h ⟨t,i,nm R.L t i⟩ (by simp)
     have hin: ∀ s ∈ spFrom R.L (nm R.L t i%32768) 32 0,markBad R s.number=markP k s:=fun s hs=>h s (by simp [hs])
     have hrest: ∀ s ∈ toldFrom R.L t m (i+1),markBad R s.number=markP k s:=fun s hs=>h s (by simp [hs])
     rw [if_neg h0,if_neg h0,List.cons_append,List.find?_cons,← e]
     cases hb:markBad R (num (cl R.L t) (2*i)) with
     | true=>rfl
     | false=>
       have e3:=markedIn_find (R:=R) k (nm R.L t i%32768) 32 0 (acc+markNone R (nm R.L t i)) (fun j h1 h2 h3 tb ix=>by
         have hm:(⟨nm R.L t i%32768,j,nm R.L (nm R.L t i%32768) j⟩:SpotN) ∈ spFrom R.L (nm R.L t i%32768) 32 0:=by
           have key: ∀ m k,k≤j→j<k+m→(⟨nm R.L t i%32768,j,nm R.L (nm R.L t i%32768) j⟩:SpotN) ∈ spFrom R.L (nm R.L t i%32768) m k:=by
             intro m
             induction m with
             | zero=>intro k h4 h5;omega
             | succ m ih=>
               intro k h4 h5
               rw [spFrom]
               by_cases e:j=k
               · subst e;rw [if_neg h3];simp
               · exact List.mem_append.2 (Or.inr (ih (k+1) (by omega) (by omega)))
           exact key 32 0 h1 h2
         exact (hin _ hm).trans rfl)
       have e4:=find_none_tab (p:=markP k) (l:=spFrom R.L (nm R.L t i%32768) 32 0) (fun s hs=>(spFrom_mem _ _ _ _ _ hs).1)
       simp only [Bool.false_eq_true,if_false]
       rw [List.find?_append]
       cases hx:markedIn R (num (cl R.L t) (2*i)%32768) 32 0 (acc+markNone R (num (cl R.L t) (2*i))) with
       | none=>
         change markedIn R (nm R.L t i%32768) 32 0 (acc+markNone R (nm R.L t i))=none at hx
         rw [hx] at e3
         cases hf:(spFrom R.L (nm R.L t i%32768) 32 0).find? (markP k) with
         | none=>rw [hf] at e3;cases e3
         | some s=>
           rw [hf] at e4
           show _=badTab (some s)
           rw [e4];rfl
       | some a=>
         change markedIn R (nm R.L t i%32768) 32 0 (acc+markNone R (nm R.L t i))=some a at hx
         rw [hx] at e3
         cases hf:(spFrom R.L (nm R.L t i%32768) 32 0).find? (markP k) with
         | none=>exact markedOut_find k t m (i+1) a hrest
         | some s=>rw [hf] at e3;cases e3
theorem marksFrom_find (k:List UInt8) (hR:R.roots=rs) (hz: ∀ r ∈ rs,∀ i,1<i→i<32→nm R.L r.N i=0) (h: ∀ r ∈ rs,∀ s ∈ toldFrom R.L r.N 32 0,markBad R s.number=markP k s): ∀ m i,i+m=rs.length→marksFrom R m i (-1)=marksP R.L k ((rs.drop i).map (·.N))
 | 0,i,hi=>by rw [List.drop_of_length_le (by omega)];rfl
 | m+1,i,hi=>by
   have hlt:i<rs.length:=by omega
   have hro:rootOf R i=rs[i]:=by unfold rootOf;rw [hR,List.getD_eq_getElem?_getD,List.getElem?_eq_getElem hlt];rfl
   have hm:rs[i] ∈ rs:=List.getElem_mem hlt
   have e2:=toldFrom_two (hz _ hm)
   rw [marksFrom,if_pos (by decide),hro,List.drop_eq_getElem_cons hlt]
   unfold marksP
   rw [List.map_cons,List.flatMap_cons,List.find?_append]
   have e:=markedOut_find (R:=R) k rs[i].N 2 0 0 (by rw [← e2];exact h _ hm)
   unfold marked
   rw [e,e2]
   cases hf:(toldFrom R.L rs[i].N 2 0).find? (markP k) with
   | none=>
     have:=marksFrom_find k hR hz h m (i+1) (by omega)
     rw [Option.none_or]
     exact this
   | some s=>
     rw [Option.some_or]
     exact marksFrom_pos R m (i+1) _ (by show (0:Int)≤(s.table:Int);omega)
end
theorem held_sum {C:List Clus} (n:Nat): ∀ rs:List RootR,(∀ r ∈ rs,∀ i,1<i→i<32→nm C r.N i=0)→((rs.map (·.N)).flatMap (heldAll C)).count n=useOf C rs n
 | [],_=>rfl
 | r :: t,hz=>by
   have h1:=held_sum n t (fun x hx=>hz x (List.mem_cons_of_mem _ hx))
   have h2:=count_held (hz r (List.mem_cons_self ..)) n
   rw [List.map_cons,List.flatMap_cons,List.count_append,h1,h2]
   simp [useOf]
theorem uses_gen {V:VolR} {rs:List RootR} (hf:firstsOf V=rs.map (·.N)) (hz: ∀ r ∈ rs,∀ i,1<i→i<32→nm V.C r.N i=0) (n:Nat) (hn:n<256):(usesOf V).getD n 0=base6 n+useOf V.C rs n:=by
 unfold usesOf useAll
 rw [bumps_get _ _ _ (by rw [onesTo_length 6 (by omega)];exact hn),onesTo6 n,hf,held_sum n rs hz]
theorem cnts_gen {C:List Clus} (hl: ∀ c ∈ C,c.length=64) (h5:5≤C.length):(cntsOf C).length=256∧ ∀ n,n<256→byteAt (cntsOf C) n=countOf C n:=⟨cntsOf_length C hl h5,fun n hn=>byteAt_cnts hl h5 n hn⟩
section
variable {L:List Clus} {rs:List RootR} {R:FileR}
structure TreesL (L:List Clus) (rs:List RootR):Prop where
 len:L.length≤256
 six:6≤L.length
 ok:OkT L (allTells L rs rs.length 0)
 zero: ∀ r ∈ rs,∀ i,1<i→i<32→nm L r.N i=0
theorem TreesL.fst (h:TreesL L rs) {t:Nat} (hf:IsFst rs t):6≤t∧t<L.length:=by
 have:=h.ok.lo (t,1) ((mem_all h.zero _).2 (Or.inl ⟨rfl,hf⟩))
 exact ⟨this.1,this.2.1⟩
theorem TreesL.sec (h:TreesL L rs) {t:Nat} (hf:IsSec L rs t):6≤t∧t<L.length:=by
 have:=h.ok.lo (t,2) ((mem_all h.zero _).2 (Or.inr (Or.inl ⟨rfl,hf⟩)))
 exact ⟨this.1,this.2.1⟩
theorem TreesL.blk (h:TreesL L rs) {t:Nat} (hf:IsBlk L rs t):6≤t∧t<L.length:=by
 have:=h.ok.lo (t,3) ((mem_all h.zero _).2 (Or.inr (Or.inr ⟨rfl,hf⟩)))
 exact ⟨this.1,this.2.1⟩
theorem TreesL.firstOK {V:VolR} (h:TreesL V.C rs) {f:Nat} (hf:f ∈ rs.map (·.N)):FirstOK V f:=by
 obtain ⟨r,hr,rfl⟩:=List.mem_map.1 hf
 have nums: ∀ (Pc:Nat→Prop) (t:Nat),(∀ j,j<32→num (cl V.C t) (2*j)≠0→Pc (num (cl V.C t) (2*j)%32768))→NumsOK Pc V.C t:=by
   intro Pc t hp j
   by_cases hj:j<32
   · rw [numsOf_get _ _ hj];exact ⟨num_lt _ _,hp j hj⟩
   · rw [List.getD_eq_getElem?_getD,List.getElem?_eq_none (by rw [numsOf_length];omega)]
     exact ⟨by decide,fun x=>absurd rfl x⟩
 have two: ∀ j,j<32→nm V.C r.N j≠0→j<2:=fun j hj h0=>by
   rcases Nat.lt_or_ge j 2 with x | x
   · exact x
   · exact absurd (h.zero r hr j (by omega) hj) h0
 have hsec: ∀ j,j<32→nm V.C r.N j≠0→InR V (nm V.C r.N j%32768):=fun j hj h0=>h.sec ⟨r,hr,j,two j hj h0,h0,rfl⟩
 exact ⟨⟨h.fst ⟨r,hr,rfl⟩,nums _ _ hsec⟩,nums _ _ fun j hj h0=>⟨hsec j hj h0,nums _ _ fun k hk h1=>h.blk ⟨_,⟨r,hr,j,two j hj h0,h0,rfl⟩,k,hk,h1,rfl⟩⟩⟩
theorem TreesL.used (h:TreesL L rs) {b:Int} (hT:Told L rs b base6 (allTells L rs rs.length 0) R) (n:Nat) (hn:n<256):R.used.getD n 0=base6 n+useOf L rs n:=by
 rw [hT.used n hn,← occ_allTells h.zero];rfl
theorem TreesL.past (h:TreesL L rs) (n:Nat) (hn:L.length≤n):base6 n+useOf L rs n=0:=by
 have h6:=h.six
 rw [base6_eq,if_neg (by omega),Nat.zero_add,← occ_allTells h.zero]
 unfold occ
 rw [List.count_eq_zero]
 intro hm
 obtain ⟨x,hx,rfl⟩:=List.mem_map.1 hm
 have:=(h.ok.lo x hx).2.1
 omega
theorem TreesL.counts {V:VolR} (h:TreesL V.C rs) (hl: ∀ c ∈ V.C,c.length=64) (hf:firstsOf V=rs.map (·.N)) {b:Int} (hT:Told V.C rs b base6 (allTells V.C rs rs.length 0) R):
   countsP (usesOf V) (cntsOf V.C) V.C.length 256 0=countsFrom R 256 0:=by
 obtain ⟨_,k2⟩:=cnts_gen hl (by have:=h.six;omega)
 refine countsP_eq 256 0 fun j _ hj=> ?_
 have hj:j<256:=by omega
 have hu:=h.used hT j hj
 have hb:=h.past j
 have hc:countOf V.C j<256:=byteAt_lt _ _
 unfold badC badCount usedOf
 rw [uses_gen hf h.zero j hj,k2 j hj,hu,hT.hL]
 rw [Bool.eq_iff_iff]
 simp only [Bool.or_eq_true,Bool.and_eq_true,decide_eq_true_iff,beq_iff_eq,bne_iff_ne]
 constructor
 · rintro (x | x | ⟨x,y⟩)
   · left
     refine ⟨?_,x⟩
     rcases Nat.lt_or_ge j V.C.length with z | z
     · exact z
     · have:=hb z;omega
   · right;left;omega
   · right;right;exact ⟨x,y⟩
 · rintro (⟨_,x⟩ | x | ⟨x,y⟩)
   · left;exact x
   · right;left;omega
   · right;right;exact ⟨x,y⟩
theorem TreesL.mark {V:VolR} (h:TreesL V.C rs) (hl: ∀ c ∈ V.C,c.length=64) {b:Int} (hT:Told V.C rs b base6 (allTells V.C rs rs.length 0) R) (hc:countsFrom R 256 0= -1):
   ∀ r ∈ rs,∀ s ∈ toldFrom V.C r.N 32 0,markBad R s.number=markP (cntsOf V.C) s:=by
 intro r hr s hs
 obtain ⟨_,k2⟩:=cnts_gen hl (by have:=h.six;omega)
 rw [toldFrom_two (h.zero r hr)] at hs
 have hs': ∃ j,j<2∧nm V.C r.N j≠0∧(s=⟨r.N,j,nm V.C r.N j⟩∨s ∈ spFrom V.C (nm V.C r.N j%32768) 32 0):=by
   rw [toldFrom,toldFrom,toldFrom,List.append_nil] at hs
   rcases List.mem_append.1 hs with y | y
   · split at y
     · simp at y
     · rename_i h0;exact ⟨0,by omega,h0,List.mem_cons.1 y⟩
   · split at y
     · simp at y
     · rename_i h0;exact ⟨1,by omega,h0,List.mem_cons.1 y⟩
 obtain ⟨j,hj,h0,hd⟩:=hs'
 have key:s.number%32768<V.C.length∧1≤useOf V.C rs (s.number%32768):=by
   rcases hd with rfl | hm
   · have hs:IsSec V.C rs (nm V.C r.N j%32768):=⟨r,hr,j,hj,h0,rfl⟩
     exact ⟨(h.sec hs).2,use_sec hs⟩
   · obtain ⟨h1,_,h3,h4,h5⟩:=spFrom_mem _ _ _ _ _ hm
     have hb:IsBlk V.C rs (s.number%32768):=⟨_,⟨r,hr,j,hj,h0,rfl⟩,s.index,by omega,by rw [← h4];exact h5,by rw [← h4]⟩
     exact ⟨(h.blk hb).2,use_blk hb⟩
 have h256:=h.len
 have hn:s.number%32768<256:=by omega
 have hu:=h.used hT _ hn
 have hbc:=countsFrom_none 256 0 hc (s.number%32768) (by omega) (by omega)
 unfold badCount usedOf at hbc
 rw [hT.hL,hu,Bool.or_eq_false_iff,Bool.and_eq_false_iff] at hbc
 have hle:base6 (s.number%32768)+useOf V.C rs (s.number%32768)≤countOf V.C (s.number%32768):=by
   rcases hbc.1 with x | x
   · have:=of_decide_eq_false x;omega
   · have:=of_decide_eq_false x;omega
 unfold markBad markP
 rw [k2 _ hn,hT.hL,hu]
 by_cases hm:32768≤s.number
 · rw [if_pos hm,decide_eq_true hm,Bool.true_and]
   by_cases h1:countOf V.C (s.number%32768)=1
   · have:base6 (s.number%32768)+useOf V.C rs (s.number%32768)=1:=by omega
     rw [this,h1];rfl
   · rw [decide_eq_true h1]
     simp [h1]
 · rw [if_neg hm,decide_eq_false hm,Bool.false_and]
theorem find_noneM {p:SpotN→Bool} {l:List SpotN} (h:badTab (l.find? p)= -1): ∀ s ∈ l,p s=false:=by
 cases hf:l.find? p with
 | none=>intro s hs;simpa using List.find?_eq_none.1 hf s hs
 | some s=>rw [hf] at h;change (s.table:Int)= -1 at h;omega
theorem told_mem1 {C:List Clus} {t j:Nat} (hj:j<2) (h0:nm C t j≠0) (s:SpotN) (hs:s=⟨t,j,nm C t j⟩∨s ∈ spFrom C (nm C t j%32768) 32 0):s ∈ toldFrom C t 2 0:=by
 rw [toldFrom,toldFrom,toldFrom,List.append_nil]
 have:j=0∨j=1:=by omega
 rcases this with rfl | rfl
 · rw [if_neg h0];exact List.mem_append.2 (Or.inl (List.mem_cons.2 hs))
 · rw [if_neg h0];exact List.mem_append.2 (Or.inr (List.mem_cons.2 hs))
theorem spFrom_in {C:List Clus} {t j:Nat} (h0:nm C t j≠0): ∀ m k,k≤j→j<k+m→(⟨t,j,nm C t j⟩:SpotN) ∈ spFrom C t m k
 | 0,k,h4,h5=>by omega
 | m+1,k,h4,h5=>by
   rw [spFrom]
   by_cases e:j=k
   · subst e;rw [if_neg h0];simp
   · exact List.mem_append.2 (Or.inr (spFrom_in h0 m (k+1) (by omega) (by omega)))
theorem TreesL.sound {V:VolR} (h:TreesL V.C rs) (hl: ∀ c ∈ V.C,c.length=64) {b:Int} (hT:Told V.C rs b base6 (allTells V.C rs rs.length 0) R) (hc:countsFrom R 256 0= -1) (hm:marksP V.C (cntsOf V.C) (rs.map (·.N))= -1):SoundL V.C rs:=by
 obtain ⟨_,k2⟩:=cnts_gen hl (by have:=h.six;omega)
 have h256:=h.len
 have hbad:=countsFrom_none 256 0 hc
 have hcnt: ∀ n,n<256→(n<V.C.length→base6 n+useOf V.C rs n≤countOf V.C n)∧countOf V.C n≠255∧(V.C.length≤n→countOf V.C n=0):=by
   intro n hn
   have hbc:=hbad n (by omega) (by omega)
   unfold badCount usedOf at hbc
   rw [hT.hL,h.used hT n hn,Bool.or_eq_false_iff,Bool.and_eq_false_iff,Bool.or_eq_false_iff,Bool.and_eq_false_iff] at hbc
   obtain ⟨h1,h2,h3⟩:=hbc
   refine ⟨fun hlt=> ?_,by simpa using h2,fun hge=> ?_⟩
   · rcases h1 with x | x
     · have:=of_decide_eq_false x;omega
     · have:=of_decide_eq_false x;omega
   · rcases h3 with x | x
     · have:=of_decide_eq_false x;omega
     · simpa using x
 have hall:=find_noneM hm
 have hmk: ∀ r ∈ rs,∀ s ∈ toldFrom V.C r.N 2 0,32768≤s.number→s.number%32768<256→countOf V.C (s.number%32768)=1:=by
   intro r hr s hs hmm hlt
   have h1:=hall s (List.mem_flatMap.2 ⟨r.N,List.mem_map.2 ⟨r,hr,rfl⟩,by rw [toldFrom_two (h.zero r hr)];exact hs⟩)
   unfold markP at h1
   rw [decide_eq_true hmm,Bool.true_and,k2 _ hlt] at h1
   have:=of_decide_eq_false h1
   omega
 have kinds: ∀ a b t,(t,a) ∈ allTells V.C rs rs.length 0→(t,b) ∈ allTells V.C rs rs.length 0→a=b:=fun a b t h1 h2=>h.ok.kind _ h1 _ h2 rfl
 refine ⟨h.len,h.six,fun r hr=>h.fst ⟨r,hr,rfl⟩,?_,h.zero,fun s hs=>h.sec hs,fun s hs=>h.blk hs,fun t h1 h2=> ?_,fun t h1 h2=> ?_,fun t h1 h2=> ?_,fun n hn=> ?_,fun n hn=> ?_,fun n hn hL=>(hcnt n hn).2.2 hL,fun r hr j hj hmm=> ?_,fun s hs k hk hmm=> ?_⟩
 · rw [List.nodup_iff_count]
   intro n
   rw [← count_all1 (L:=V.C) n rs h.zero,← allTells_all]
   exact h.ok.once n
 · have:=kinds 1 2 t ((mem_all h.zero _).2 (Or.inl ⟨rfl,h1⟩)) ((mem_all h.zero _).2 (Or.inr (Or.inl ⟨rfl,h2⟩)))
   omega
 · have:=kinds 1 3 t ((mem_all h.zero _).2 (Or.inl ⟨rfl,h1⟩)) ((mem_all h.zero _).2 (Or.inr (Or.inr ⟨rfl,h2⟩)))
   omega
 · have:=kinds 2 3 t ((mem_all h.zero _).2 (Or.inr (Or.inl ⟨rfl,h1⟩))) ((mem_all h.zero _).2 (Or.inr (Or.inr ⟨rfl,h2⟩)))
   omega
 · rcases Nat.lt_or_ge n V.C.length with z | z
   · exact (hcnt n hn).1 z
   · rw [h.past n z];exact Nat.zero_le _
 · have:=(hcnt n hn).2.1
   have:countOf V.C n<256:=byteAt_lt _ _
   omega
 · have h0:nm V.C r.N j≠0:=by intro e;rw [e] at hmm;omega
   have:=(h.sec ⟨r,hr,j,hj,h0,rfl⟩).2
   exact hmk r hr ⟨r.N,j,nm V.C r.N j⟩ (told_mem1 hj h0 _ (Or.inl rfl)) hmm (by show nm V.C r.N j%32768<256;omega)
 · obtain ⟨r,hr,j,hj,h0,rfl⟩:=hs
   have h1:nm V.C (nm V.C r.N j%32768) k≠0:=by intro e;rw [e] at hmm;omega
   have:=(h.blk ⟨_,⟨r,hr,j,hj,h0,rfl⟩,k,hk,h1,rfl⟩).2
   exact hmk r hr ⟨nm V.C r.N j%32768,k,nm V.C (nm V.C r.N j%32768) k⟩ (told_mem1 hj h0 _ (Or.inr (spFrom_in h1 32 0 (by omega) (by omega)))) hmm (by show nm V.C (nm V.C r.N j%32768) k%32768<256;omega)
end
def openV (file:List Clus):VolR:=⟨padTo file (num (cl file 0) 4),[],false,decide (file.length<num (cl file 0) 4)⟩
def openBad (file:List Clus):Int:=
 if headGood file=false then 0
 else if listGood (cl (openV file).C 5)=false then 5
 else if (foldF (firstsOf (openV file)) 0 (R2of file)).1=false then (foldF (firstsOf (openV file)) 0 (R2of file)).2.bad
 else if 0≤countsP (usesOf (openV file)) (cntsOf (openV file).C) (openV file).C.length 256 0 then countsP (usesOf (openV file)) (cntsOf (openV file).C) (openV file).C.length 256 0
 else marksP (openV file).C (cntsOf (openV file).C) (firstsOf (openV file))
theorem headGood_parts {file:List Clus} (h:headGood file=true):6≤file.length∧file.length≤256∧(cl file 0).take 4=velm∧7≤num (cl file 0) 4∧num (cl file 0) 4≤256∧file.length≤num (cl file 0) 4∧restZero (cl file 0) 56 8=true:=by
 unfold headGood at h
 simp only [Bool.and_eq_true,decide_eq_true_iff] at h
 exact h
section
variable {file:List Clus}
theorem openV_len (file:List Clus):(openV file).C.length=num (cl file 0) 4:=padTo_length _ _
theorem openV_lens (hl: ∀ c ∈ file,c.length=64): ∀ c ∈ (openV file).C,c.length=64:=padTo_lens hl _
theorem openV_cl (h:headGood file=true) (t:Nat) (ht:t<file.length):cl (openV file).C t=cl file t:=by
 obtain ⟨_,_,_,_,_,h6,_⟩:=headGood_parts h
 show cl (padTo file _) t=_
 rw [cl_padTo _ _ _ (by omega),vw_at ht]
theorem fileE_of (h:headGood file=true) (hl: ∀ c ∈ file,c.length=64) (hg:listGood (cl (openV file).C 5)=true): ∃ E,FileE file (num (cl file 0) 4) (num (cl file 0) 6) E:=by
 obtain ⟨h1,h2,h3,h4,h5,h6,h7⟩:=headGood_parts h
 have hc0:(cl file 0).length=64:=cl_length hl (by omega)
 rw [openV_cl h 5 (by omega)] at hg
 obtain ⟨E,hE,he⟩:=(listGood_iff (cl_length hl (by omega))).1 hg
 have hh:headB (cl file 0)=true:=by rw [headB_iff hc0,h7,decide_eq_true h3];rfl
 exact ⟨E,hl,h1,h6,h4,h5,num_lt _ _,(of_decide_eq_true hh).symm,he,hE⟩
theorem listOf_eq (h:headGood file=true) (hl: ∀ c ∈ file,c.length=64):(listOf (R1of file)).1=listGood (cl (openV file).C 5):=by
 obtain ⟨h1,_,_,h4,_,_,_⟩:=headGood_parts h
 exact (listGood_eq (cl_length (openV_lens hl) (by rw [openV_len];omega)) _).symm
variable {T N0:Nat} {E:List EntR}
theorem FileE.openC (h:FileE file T N0 E):(openV file).C=padTo file T:=by show padTo file _=_;rw [h.num4]
theorem FileE.cl5 (h:FileE file T N0 E) (t:Nat) (ht:t<file.length):cl (padTo file T) t=cl file t:=by rw [cl_padTo _ _ _ (by have:=h.le;omega),vw_at ht]
theorem FileE.openFirsts (h:FileE file T N0 E):firstsOf (openV file)=(rsOf N0 E).map (·.N):=by
 have h6:=h.six
 unfold firstsOf
 rw [h.openC,h.cl5 0 (by omega),h.num6,h.ents.picFirsts (by rw [h.cl5 5 (by omega)];exact h.list)]
 simp [rsOf,rootE]
theorem FileE.R2 (h:FileE file T N0 E):R2of file=⟨padTo file T,rsOf N0 E,zeros256,used6,-1⟩:=by
 show (⟨(R1of file).L,(Go.Proofs.YtknjjjenklfeoaaGreatDoor.listOf (R1of file)).2,_,_,_⟩:FileR)=_
 rw [h.listOf,h.pad]
 rfl
theorem FileE.nums (h:FileE file T N0 E):R3of file=foldF ((rsOf N0 E).map (·.N)) 0 (R2of file):=by
 have hm:=h.most
 have key:=foldF_trees (rsOf N0 E) 0 (rsOf N0 E).length 0 (R2of file) (by omega) (by rw [h.R2]) (by rw [h.R2];show (padTo file T).length≤zeros256.length;rw [padTo_length,zeros256_length];exact hm) (fun j _ hj=>by
   by_cases e:j=0
   · subst e;rfl
   · rw [if_neg e]
     obtain ⟨q,rfl⟩: ∃ q,j=q+1:=⟨j - 1,by omega⟩
     unfold rsOf at hj ⊢
     rw [List.getD_cons_succ,List.getD_eq_getElem?_getD,List.getElem?_map,List.getElem?_eq_getElem (by simpa using hj)]
     rfl)
 rw [List.drop_zero] at key
 rw [key]
 unfold R3of
 rw [h.R2]
theorem FileE.told0 (h:FileE file T N0 E):Told (padTo file T) (rsOf N0 E) (-1) base6 [] (R2of file):=by
 rw [h.R2]
 exact ⟨rfl,rfl,rfl,zeros256_length,used6_length,fun x hx=>by simp at hx,fun n _=>by
     show zeros256.getD n 0=0
     unfold zeros256
     rw [List.getD_eq_getElem?_getD,List.getElem?_replicate]
     split <;> rfl,fun n _=>rfl⟩
theorem FileE.trees (h:FileE file T N0 E) (h3:(R3of file).1=true):TreesL (padTo file T) (rsOf N0 E)∧Told (padTo file T) (rsOf N0 E) (-1) base6 (allTells (padTo file T) (rsOf N0 E) (rsOf N0 E).length 0) (R3of file).2:=by
 have hm:=h.most
 have h7:=h.seven
 have e:R3of file=treesFrom (rsOf N0 E).length 0 (R2of file):=by unfold R3of;rw [h.R2]
 rw [e] at h3 ⊢
 obtain ⟨h4,h5,h6⟩:=treesFrom_back (rs:=rsOf N0 E) (b:= -1) (base:=base6) (L:=padTo file T) (by rw [padTo_length];exact hm) (rsOf N0 E).length 0 [] (R2of file) (by omega) h.told0 ⟨fun x hx=>by simp at hx,fun x hx=>by simp at hx,fun n=>by simp⟩ h3
 rw [List.nil_append] at h4 h6
 refine ⟨⟨by rw [padTo_length];exact hm,by rw [padTo_length];omega,h4,fun r hr i hi1 hi2=> ?_⟩,h6⟩
 obtain ⟨j,hj,rfl⟩:=List.getElem_of_mem hr
 have:=h5 j (by omega) (by omega) i hi1 hi2
 rw [List.getD_eq_getElem?_getD,List.getElem?_eq_getElem hj] at this
 exact this
theorem look_openBad (hl: ∀ c ∈ file,c.length=64):(look file).bad=openBad file:=by
 unfold openBad
 by_cases hh:headGood file=false
 · rw [if_pos hh]
   unfold look
   rw [if_pos hh]
 · rw [if_neg hh]
   have hh':headGood file=true:=by simpa using hh
   have hlo:=listOf_eq hh' hl
   by_cases hg:listGood (cl (openV file).C 5)=false
   · rw [if_pos hg]
     unfold look
     rw [if_neg hh,hlo,if_pos hg]
   · rw [if_neg hg]
     have hg':listGood (cl (openV file).C 5)=true:=by simpa using hg
     obtain ⟨E,hE⟩:=fileE_of hh' hl hg'
     have hn:=hE.nums
     have hf:=hE.openFirsts
     have hC:=hE.openC
     have e0:look file=if (R3of file).1=false then (R3of file).2 else { (R3of file).2 with bad:=marksFrom (R3of file).2 (R3of file).2.roots.length 0 (countsFrom (R3of file).2 256 0) }:=by
       unfold look
       rw [if_neg hh,hlo,if_neg hg]
     rw [e0,hf,← hn]
     by_cases h3:(R3of file).1=false
     · rw [if_pos h3,if_pos h3]
     · rw [if_neg h3,if_neg h3]
       have h3':(R3of file).1=true:=by simpa using h3
       obtain ⟨ht,hT⟩:=hE.trees h3'
       rw [← hC] at ht hT
       have hc:=ht.counts (openV_lens hl) hf hT
       have hvl:=openV_lens hl
       clear e0 hn
       generalize R3of file=Q at*
       generalize openV file=V at*
       show marksFrom Q.2 Q.2.roots.length 0 (countsFrom Q.2 256 0)=_
       rw [hc]
       rcases countsFrom_ge Q.2 256 0 with hx | hx
       · rw [if_neg (by omega),hx,hT.hR]
         have:=marksFrom_find (cntsOf V.C) hT.hR (by rw [hT.hL];exact ht.zero) (by rw [hT.hL];exact ht.mark hvl hT hx) (rsOf (num (cl file 0) 6) E).length 0 (by omega)
         rw [this,hT.hL,List.drop_zero]
       · rw [if_pos hx]
         exact marksFrom_pos _ _ _ _ hx
theorem open_sound (hl: ∀ c ∈ file,c.length=64) (h:openBad file= -1): ∃ N0 E,FileE file (num (cl file 0) 4) N0 E∧headGood file=true∧SoundL (openV file).C (rsOf N0 E)∧Vol (openV file).C (openV file) N0 E:=by
 unfold openBad at h
 by_cases hh:headGood file=false
 · rw [if_pos hh] at h;omega
 · rw [if_neg hh] at h
   have hh':headGood file=true:=by simpa using hh
   by_cases hg:listGood (cl (openV file).C 5)=false
   · rw [if_pos hg] at h;omega
   · rw [if_neg hg] at h
     have hg':listGood (cl (openV file).C 5)=true:=by simpa using hg
     obtain ⟨E,hE⟩:=fileE_of hh' hl hg'
     have hn:=hE.nums
     have hf:=hE.openFirsts
     have hC:=hE.openC
     rw [hf,← hn] at h
     by_cases h3:(R3of file).1=false
     · rw [if_pos h3] at h
       have hb:0≤(R3of file).2.bad:=by
         rw [hn] at h3 ⊢
         have key: ∀ (fs:List Nat) (a:Nat) (R:FileR),(foldF fs a R).1=false→0≤(foldF fs a R).2.bad:=by
           intro fs
           induction fs with
           | nil=>intro a R hx;cases hx
           | cons f fs ih=>
             intro a R hx
             rw [foldF] at hx ⊢
             by_cases h2:(treeP f a R).1=true
             · rw [if_pos h2] at hx ⊢;exact ih _ _ hx
             · rw [if_neg h2] at hx ⊢
               have h2':(treeP f a R).1=false:=by simpa using h2
               show 0≤(treeP f a R).2.bad
               unfold treeP at h2' ⊢
               by_cases h4:(tell R f 1 a).1=true
               · rw [if_pos h4] at h2' ⊢
                 have key2: ∀ (ss:List SpotN) (R:FileR),(foldT f ss R).1=false→0≤(foldT f ss R).2.bad:=by
                   intro ss
                   induction ss with
                   | nil=>intro R hy;cases hy
                   | cons s ss ih2=>
                     intro R hy
                     rw [foldT] at hy ⊢
                     by_cases h5:(tellSp R f s).1=true
                     · rw [if_pos h5] at hy ⊢;exact ih2 _ hy
                     · rw [if_neg h5] at hy ⊢
                       show 0≤(tellSp R f s).2.bad
                       rw [tellSp_bad (by simpa using h5)];omega
                 exact key2 _ _ h2'
               · rw [if_neg h4] at h2' ⊢
                 show 0≤(tell R f 1 a).2.bad
                 rw [tell_bad (by simpa using h4)];omega
         exact key _ _ _ h3
       omega
     · rw [if_neg h3] at h
       have h3':(R3of file).1=true:=by simpa using h3
       obtain ⟨ht,hT⟩:=hE.trees h3'
       rw [← hC] at ht hT
       have hc:=ht.counts (openV_lens hl) hf hT
       rw [hc] at h
       rcases countsFrom_ge (R3of file).2 256 0 with hx | hx
       · rw [if_neg (by omega)] at h
         have hs:=ht.sound (openV_lens hl) hT hx h
         obtain ⟨h1,h2,_,h4,h5,h6,_⟩:=headGood_parts hh'
         refine ⟨_,E,hE,hh',hs,⟨⟨openV_lens hl,by rw [openV_len];omega,Nat.le_refl _,by rw [openV_len];exact h4,by rw [openV_len];exact h5,hE.n0,?_,?_,hE.ents⟩,hs,rfl,⟨fun _=>by rw [openV_len];omega,rfl,fun x hx=>(by cases hx),fun _=>Or.inl rfl⟩⟩⟩
         · rw [openV_cl hh' 0 (by omega),openV_len];exact hE.head
         · rw [openV_cl hh' 5 (by omega)];exact hE.list
       · rw [if_pos hx] at h;omega
end
section
variable {base:List Clus} {V:VolR} {N0:Nat} {E:List EntR} {R:FileR}
theorem cntTo_ext {p q:Nat→Bool} (a:Nat) (h: ∀ n,n<a→p n=q n): ∀ m,(∀ n,a≤n→n<a+m→p n=false)→cntTo p (a+m)=cntTo q a
 | 0,_=>by rw [Nat.add_zero];exact cntTo_cong a h
 | m+1,h2=>by rw [Nat.add_succ,cntTo,cntTo_ext a h m (fun n h3 h4=>h2 n h3 (by omega)),h2 (a+m) (by omega) (by omega)];rfl
theorem lacks_cons (M:List Nat) (n:Nat) (ns:List Nat):lacks M (n :: ns)=(if lackB M n then 1 else 0)+lacks M ns:=by
 have:=lacks_app M [n] ns
 rw [List.singleton_append] at this
 rw [this]
 congr 1
 unfold lacks
 cases h:lackB M n <;> simp [h]
theorem rawBy_take (C:List Clus) (t:Nat):rawBy (numsOf (cl C t))=(spFrom C t 32 0).map (·.number):=by
 have key: ∀ m k,k+m=32→rawBy ((numsOf (cl C t)).drop k)=(spFrom C t m k).map (·.number):=by
   intro m
   induction m with
   | zero=>intro k hk;rw [List.drop_of_length_le (by rw [numsOf_length];omega)];rfl
   | succ m ih=>
     intro k hk
     have hlt:k<(numsOf (cl C t)).length:=by rw [numsOf_length];omega
     have hg:(numsOf (cl C t))[k]=nm C t k:=by
       have:=numsOf_get (cl C t) k (by omega)
       rw [List.getD_eq_getElem?_getD,List.getElem?_eq_getElem hlt] at this
       exact this
     rw [List.drop_eq_getElem_cons hlt,spFrom,List.map_append,← ih (k+1) (by omega),hg]
     unfold rawBy
     rw [List.filter_cons]
     by_cases h0:nm C t k=0
     · rw [if_neg (by simp [h0]),if_pos h0];rfl
     · rw [if_pos (by simp [h0]),if_neg h0];rfl
 have:=key 32 0 (by omega)
 rw [List.drop_zero] at this
 exact this
theorem markedIn_lack (M:List Nat) (t:Nat): ∀ m k acc,(∀ j,k≤j→j<k+m→nm R.L t j≠0→markBad R (nm R.L t j)=false∧markNone R (nm R.L t j)=if lackB M (nm R.L t j) then 1 else 0)→markedIn R t m k acc=some (acc+lacks M ((spFrom R.L t m k).map (·.number)))
 | 0,_,acc,_=>rfl
 | m+1,k,acc,h=>by
   rw [markedIn,spFrom]
   by_cases h0:num (cl R.L t) (2*k)=0
   · rw [if_pos h0,if_pos h0,List.nil_append]
     exact markedIn_lack M t m (k+1) acc (fun j h1 h2=>h j (by omega) (by omega))
   · obtain ⟨h1,h2⟩:=h k (by omega) (by omega) h0
     change markBad R (num (cl R.L t) (2*k))=false at h1
     change markNone R (num (cl R.L t) (2*k))=_ at h2
     rw [if_neg h0,if_neg h0,h1,h2,List.singleton_append,List.map_cons,lacks_cons]
     simp only [Bool.false_eq_true,if_false]
     rw [markedIn_lack M t m (k+1) _ (fun j h1 h2=>h j (by omega) (by omega)),Nat.add_assoc]
theorem markedOut_lack (M:List Nat) (t:Nat): ∀ m i acc,(∀ s ∈ toldFrom R.L t m i,markBad R s.number=false∧markNone R s.number=if lackB M s.number then 1 else 0)→markedOut R t m i acc=(-1,acc+lacks M ((toldFrom R.L t m i).map (·.number)))
 | 0,_,acc,_=>rfl
 | m+1,i,acc,h=>by
   rw [toldFrom] at h
   rw [markedOut,toldFrom]
   by_cases h0:num (cl R.L t) (2*i)=0
   · rw [if_pos h0] at h
     rw [if_pos h0,if_pos h0,List.nil_append]
     exact markedOut_lack M t m (i+1) acc h
   · rw [if_neg h0] at h
     obtain ⟨h1,h2⟩:=h ⟨t,i,nm R.L t i⟩ (by simp)
     have hin:=markedIn_lack (R:=R) M (nm R.L t i%32768) 32 0 (acc+if lackB M (nm R.L t i) then 1 else 0) (fun j j1 j2 j3=>h ⟨nm R.L t i%32768,j,nm R.L (nm R.L t i%32768) j⟩ (by
       have:=spFrom_in (C:=R.L) (t:=nm R.L t i%32768) (j:=j) j3 32 0 j1 j2
       simp [this]))
     change markBad R (num (cl R.L t) (2*i))=false at h1
     change markNone R (num (cl R.L t) (2*i))=_ at h2
     rw [if_neg h0,if_neg h0,h1,h2]
     simp only [Bool.false_eq_true,if_false]
     change markedIn R (num (cl R.L t) (2*i)%32768) 32 0 _=_ at hin
     rw [hin]
     show markedOut R t m (i+1) _=_
     rw [markedOut_lack M t m (i+1) _ (fun s hs=>h s (by simp [hs])),List.cons_append,List.map_cons,List.map_append,lacks_cons,lacks_app]
     show ((-1:Int),_)=_
     congr 1
     dsimp only
     omega
theorem told_rawAll (C:List Clus) (f:Nat):rawAll C f=(toldFrom C f 32 0).map (·.number):=by
 have key: ∀ m i,i+m=32→((rawBy ((numsOf (cl C f)).drop i)).flatMap fun s=>s :: rawBy (numsOf (cl C (s%32768))))=(toldFrom C f m i).map (·.number):=by
   intro m
   induction m with
   | zero=>intro k hk;rw [List.drop_of_length_le (by rw [numsOf_length];omega)];rfl
   | succ m ih=>
     intro k hk
     have hlt:k<(numsOf (cl C f)).length:=by rw [numsOf_length];omega
     have hg:(numsOf (cl C f))[k]=nm C f k:=by
       have:=numsOf_get (cl C f) k (by omega)
       rw [List.getD_eq_getElem?_getD,List.getElem?_eq_getElem hlt] at this
       exact this
     rw [List.drop_eq_getElem_cons hlt,toldFrom,List.map_append,← ih (k+1) (by omega),hg]
     unfold rawBy
     rw [List.filter_cons]
     by_cases h0:nm C f k=0
     · rw [if_neg (by simp [h0]),if_pos h0];rfl
     · rw [if_pos (by simp [h0]),if_neg h0,List.flatMap_cons]
       congr 1
       rw [List.map_cons,← rawBy_take]
       rfl
 have:=key 32 0 (by omega)
 rw [List.drop_zero] at this
 exact this
theorem Vol.state (h:Vol base V N0 E) (hL:R.L=V.C) (hR:R.roots=rsOf N0 E) (hu: ∀ n,n<256→R.used.getD n 0=base6 n+useOf V.C (rsOf N0 E) n):checkR V=stateOf R:=by
 obtain ⟨k1,k2⟩:=h.ok.cnts rfl
 have hlen:=h.sound.len
 have huse:=h.uses
 have hpast: ∀ n,V.C.length≤n→base6 n+useOf V.C (rsOf N0 E) n=0:=fun n hn=>by
   have h6:=h.sound.six
   rw [base6_eq,if_neg (by omega),Nat.zero_add,← occ_allTells h.sound.zero]
   unfold occ
   rw [List.count_eq_zero]
   intro hm
   obtain ⟨x,hx,rfl⟩:=List.mem_map.1 hm
   have:=(h.sound.ok.lo x hx).2.1
   omega
 have e256:256=V.C.length+(256 - V.C.length):=by omega
 have e1:cntTo (usedM (usesOf V)) 256=cntTo (usedB R) V.C.length:=by
   rw [e256]
   refine cntTo_ext _ (fun n hn=> ?_) _ (fun n h1 h2=> ?_)
   · unfold usedM usedB;rw [huse n (by omega),hu n (by omega)]
   · unfold usedM;rw [huse n (by omega),hpast n h1];rfl
 have e2:cntTo (lostM (usesOf V) (cntsOf V.C)) 256=cntTo (lostB R) V.C.length:=by
   rw [e256]
   refine cntTo_ext _ (fun n hn=> ?_) _ (fun n h1 h2=> ?_)
   · unfold lostM lostB;rw [huse n (by omega),hu n (by omega),k2 n (by omega),hL]
   · unfold lostM;rw [k2 n (by omega),h.sound.none n (by omega) h1];simp
 have e3:cntTo (overM (usesOf V) (cntsOf V.C)) 256=cntTo (overB R) V.C.length:=by
   rw [e256]
   refine cntTo_ext _ (fun n hn=> ?_) _ (fun n h1 h2=> ?_)
   · unfold overM overB;rw [huse n (by omega),hu n (by omega),k2 n (by omega),hL]
   · unfold overM;rw [k2 n (by omega),h.sound.none n (by omega) h1];simp
 have hfind: ∀ r ∈ rsOf N0 E,∀ s ∈ toldFrom V.C r.N 2 0,markBad R s.number=false∧markNone R s.number=if lackB (usesOf V) s.number then 1 else 0:=by
   intro r hr s hs
   have hsr:s.number%32768<256∧1≤useOf V.C (rsOf N0 E) (s.number%32768)∧(32768≤s.number→countOf V.C (s.number%32768)=1):=by
     have hs': ∃ j,j<2∧nm V.C r.N j≠0∧(s=⟨r.N,j,nm V.C r.N j⟩∨s ∈ spFrom V.C (nm V.C r.N j%32768) 32 0):=by
       rw [toldFrom,toldFrom,toldFrom,List.append_nil] at hs
       rcases List.mem_append.1 hs with y | y
       · split at y
         · simp at y
         · rename_i h0;exact ⟨0,by omega,h0,List.mem_cons.1 y⟩
       · split at y
         · simp at y
         · rename_i h0;exact ⟨1,by omega,h0,List.mem_cons.1 y⟩
     obtain ⟨j,hj,h0,hd⟩:=hs'
     have hsec:IsSec V.C (rsOf N0 E) (nm V.C r.N j%32768):=⟨r,hr,j,hj,h0,rfl⟩
     rcases hd with rfl | hm
     · have:=(h.sound.sec _ hsec).2
       exact ⟨by show nm V.C r.N j%32768<256;omega,use_sec hsec,fun hmm=>h.sound.mark1 r hr j hj hmm⟩
     · obtain ⟨h1,_,h3,h4,h5⟩:=spFrom_mem _ _ _ _ _ hm
       have hb:IsBlk V.C (rsOf N0 E) (s.number%32768):=⟨_,hsec,s.index,by omega,by rw [← h4];exact h5,by rw [← h4]⟩
       have:=(h.sound.blk _ hb).2
       exact ⟨by omega,use_blk hb,fun hmm=>by rw [h4] at hmm ⊢;exact h.sound.mark2 _ hsec s.index (by omega) hmm⟩
   obtain ⟨g1,g2,g3⟩:=hsr
   have hle:=h.sound.cnt _ g1
   unfold markBad markNone lackB
   rw [hu _ g1,huse _ g1,hL]
   by_cases hm:32768≤s.number
   · have:=g3 hm
     have h1:base6 (s.number%32768)+useOf V.C (rsOf N0 E) (s.number%32768)=1:=by omega
     rw [if_pos hm,if_pos hm,h1,this,decide_eq_true hm]
     exact ⟨rfl,rfl⟩
   · rw [if_neg hm,if_neg hm,decide_eq_false hm]
     refine ⟨rfl,?_⟩
     by_cases h1:base6 (s.number%32768)+useOf V.C (rsOf N0 E) (s.number%32768)=1
     · rw [if_pos h1,decide_eq_true h1];rfl
     · rw [if_neg h1,decide_eq_false h1];rfl
 have e4:lackAll V (usesOf V) (firstsOf V)=unmTo R R.roots.length:=by
   rw [h.firsts,hR]
   have key: ∀ k,k≤(rsOf N0 E).length→lackAll V (usesOf V) (((rsOf N0 E).take k).map (·.N))=unmTo R k:=by
     intro k
     induction k with
     | zero=>intro _;rfl
     | succ k ih=>
       intro hk
       have hlt:k<(rsOf N0 E).length:=by omega
       have hm:(rsOf N0 E)[k] ∈ rsOf N0 E:=List.getElem_mem hlt
       have hro:rootOf R k=(rsOf N0 E)[k]:=by unfold rootOf;rw [hR,List.getD_eq_getElem?_getD,List.getElem?_eq_getElem hlt];rfl
       rw [List.take_succ_eq_append_getElem hlt,List.map_append,List.map_singleton,lackAll_snoc,ih (by omega),unmTo,hro]
       congr 1
       have:=markedOut_lack (R:=R) (usesOf V) ((rsOf N0 E)[k]).N 2 0 0 (by rw [hL];exact hfind _ hm)
       unfold marked
       rw [this,hL,told_rawAll,toldFrom_two (h.sound.zero _ hm),Nat.zero_add]
   have:=key _ (Nat.le_refl _)
   rw [List.take_length] at this
   exact this
 unfold checkR stateOf
 rw [e1,e2,e3,e4,h.file.num4,hL]
end
section
variable {base:List Clus} {V:VolR} {N0:Nat} {E:List EntR}
theorem cntTo_pos {p:Nat→Bool} {n:Nat} (hp:p n=true): ∀ k,n<k→0<cntTo p k
 | 0,h=>by omega
 | k+1,h=>by
   rw [cntTo]
   by_cases e:n=k
   · subst e;rw [hp,if_pos rfl];omega
   · have:=cntTo_pos hp k (by omega);omega
theorem Vol.exact_of (h:Vol base V N0 E) (h1:(checkR V).lost=0) (h2:(checkR V).over=0) (h3:(checkR V).unmarked=0):ExactS V.C (rsOf N0 E):=by
 obtain ⟨k1,k2⟩:=h.ok.cnts rfl
 have hlen:=h.sound.len
 have huse:=h.uses
 have h1:cntTo (lostM (usesOf V) (cntsOf V.C)) 256=0:=h1
 have h2:cntTo (overM (usesOf V) (cntsOf V.C)) 256=0:=h2
 have h3:lackAll V (usesOf V) (firstsOf V)=0:=h3
 have heq: ∀ n,n<256→countOf V.C n=base6 n+useOf V.C (rsOf N0 E) n:=by
   intro n hn
   have hc:=h.sound.cnt n hn
   have hl:lostM (usesOf V) (cntsOf V.C) n=false:=by
     cases e:lostM (usesOf V) (cntsOf V.C) n with
     | false=>rfl
     | true=>have:=cntTo_pos e 256 hn;omega
   have ho:overM (usesOf V) (cntsOf V.C) n=false:=by
     cases e:overM (usesOf V) (cntsOf V.C) n with
     | false=>rfl
     | true=>have:=cntTo_pos e 256 hn;omega
   unfold lostM at hl
   unfold overM at ho
   rw [huse n hn,k2 n hn] at hl ho
   rw [Bool.and_eq_false_iff] at hl ho
   rcases Nat.eq_zero_or_pos (base6 n+useOf V.C (rsOf N0 E) n) with hz | hz
   · rcases hl with x | x
     · rw [hz] at x;cases x
     · have:=of_decide_eq_false x;omega
   · rcases ho with x | x
     · have:=of_decide_eq_false x;omega
     · have:=of_decide_eq_false x;omega
 have hno: ∀ r ∈ rsOf N0 E,∀ s ∈ toldFrom V.C r.N 2 0,lackB (usesOf V) s.number=false:=by
   intro r hr s hs
   unfold lackAll lacks at h3
   rw [List.length_eq_zero_iff,List.filter_eq_nil_iff] at h3
   have:=h3 s.number (List.mem_flatMap.2 ⟨r.N,by rw [h.firsts];exact List.mem_map.2 ⟨r,hr,rfl⟩,by rw [told_rawAll,toldFrom_two (h.sound.zero r hr)];exact List.mem_map.2 ⟨s,hs,rfl⟩⟩)
   simpa using this
 have key: ∀ r ∈ rsOf N0 E,∀ s ∈ toldFrom V.C r.N 2 0,s.number%32768<256→countOf V.C (s.number%32768)=1→32768≤s.number:=by
   intro r hr s hs hlt hc
   have:=hno r hr s hs
   unfold lackB at this
   rw [huse _ hlt,← heq _ hlt,hc,decide_eq_true rfl,Bool.true_and] at this
   rcases Nat.lt_or_ge s.number 32768 with x | x
   · rw [decide_eq_false (by omega)] at this;cases this
   · exact x
 refine ⟨heq,fun r hr j hj h0 hc=> ?_,fun s hs k hk h0 hc=> ?_⟩
 · have:=(h.sound.sec _ ⟨r,hr,j,hj,h0,rfl⟩).2
   exact key r hr ⟨r.N,j,nm V.C r.N j⟩ (told_mem1 hj h0 _ (Or.inl rfl)) (by show nm V.C r.N j%32768<256;omega) hc
 · obtain ⟨r,hr,j,hj,h1',rfl⟩:=hs
   have:=(h.sound.blk _ ⟨_,⟨r,hr,j,hj,h1',rfl⟩,k,hk,h0,rfl⟩).2
   exact key r hr ⟨nm V.C r.N j%32768,k,nm V.C (nm V.C r.N j%32768) k⟩ (told_mem1 hj h1' _ (Or.inr (spFrom_in h0 32 0 (by omega) (by omega)))) (by show nm V.C (nm V.C r.N j%32768) k%32768<256;omega) hc
end
structure Opened (file:List Clus) (N0:Nat) (E:List EntR):Prop where
 head:headGood file=true
 vol:Vol (openV file).C (openV file) N0 E
 bad:(look file).bad= -1
 L:(look file).L=(openV file).C
 roots:(look file).roots=rsOf N0 E
 low:Low 1000 (look file)
 state:checkR (openV file)=stateOf (look file)
 disk:diskOf (look file)=dskOf (openV file).C N0 E
 exact:exactB (look file)=true→ExactS (openV file).C (rsOf N0 E)
theorem opened_of {file:List Clus} (hl: ∀ c ∈ file,c.length=64) (h:openBad file= -1): ∃ N0 E,Opened file N0 E:=by
 obtain ⟨N0,E,hE,hh,hs,hv⟩:=open_sound hl h
 have hC:=hE.openC
 have hs':SoundL (padTo file (num (cl file 0) 4)) (rsOf N0 E):=by rw [← hC];exact hs
 obtain ⟨l1,l2,l3,l4,l5⟩:=hE.look hs'
 have hst:checkR (openV file)=stateOf (look file):=hv.state (by rw [l2,hC]) l3 (fun n hn=>by rw [l4 n hn,hC])
 refine ⟨N0,E,hh,hv,l1,by rw [l2,hC],l3,l5,hst,by rw [hE.disk hs',hC],fun hx=> ?_⟩
 unfold exactB at hx
 rw [← hst] at hx
 simp only [Bool.and_eq_true,beq_iff_eq] at hx
 exact hv.exact_of hx.1 hx.2.1 hx.2.2
end Go.Proofs.YtknjjjenklfeoaaGreatDoor
