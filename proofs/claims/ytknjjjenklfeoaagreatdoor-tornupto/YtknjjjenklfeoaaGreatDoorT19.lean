import Derived.Test.YtknjjjenklfeoaaGreatDoorT18
import Derived.Test.YtknjjjenklfeoaaGreatDoorT05
import Derived.Test.YtknjjjenklfeoaaGreatDoorT00
import Derived.Test.YtknjjjenklfeoaaGreatDoorT03
import Derived.Test.YtknjjjenklfeoaaGreatDoorT17
set_option maxHeartbeats 8000000
set_option maxRecDepth 100000
namespace Go.Proofs.YtknjjjenklfeoaaGreatDoor
section
variable {L L':List Clus} {rs:List RootR} {r:RootR} {j s k n:Nat}
theorem use_none (h:SoundL L rs) {n:Nat} (un: ¬ IsFst rs n∧ ¬ IsSec L rs n∧ ¬ IsBlk L rs n):useOf L rs n=0:=by
 by_cases z:useOf L rs n=0
 · exact z
 · exfalso
   have h4:0<useOf L rs n:=by omega
   rw [← occ_allTells h.zero] at h4
   unfold occ at h4
   obtain ⟨y,hy,e⟩:=List.mem_map.1 (List.count_pos_iff.1 h4)
   rcases (mem_all h.zero y).1 hy with ⟨_,k1⟩ | ⟨_,k1⟩ | ⟨_,k1⟩
   · rw [e] at k1;exact un.1 k1
   · rw [e] at k1;exact un.2.1 k1
   · rw [e] at k1;exact un.2.2 k1
def oldNum (L:List Clus) (t j q:Nat):Nat:=if nm L t j=0 then 0 else nm L (nm L t j%32768) q
structure TabIn (L L':List Clus) (rs:List RootR) (r:RootR) (j s k n:Nat):Prop where
 put:PutN L L' r.N j (s+32768)
 hr:r ∈ rs
 hj:j<2
 hk:k<32
 tk:nm L s k=n+32768
 tq: ∀ q,q<32→q≠k→nm L s q=oldNum L r.N j q
 ne:s≠n
 sin:6≤s∧s<L.length
 nin:6≤n∧n<L.length
 cs:countOf L s=1
 cn:countOf L n=1
 us: ¬ IsFst rs s∧ ¬ IsSec L rs s∧ ¬ IsBlk L rs s
 un: ¬ IsFst rs n∧ ¬ IsSec L rs n∧ ¬ IsBlk L rs n
theorem TabIn.ls (b:TabIn L L' rs r j s k n) (hL:L.length≤256):(s+32768)%32768=s:=by have:=b.sin;omega
theorem TabIn.ln (b:TabIn L L' rs r j s k n) (hL:L.length≤256):(n+32768)%32768=n:=by have:=b.nin;omega
theorem TabIn.other (h:SoundL L rs) (b:TabIn L L' rs r j s k n) {x:Nat} (hx:IsSec L rs x∨x=s):cl L' x=cl L x:=by
 refine b.put.same x fun e=> ?_
 rcases hx with y | y
 · exact h.fs _ ⟨r,b.hr,e.symm⟩ y
 · exact b.us.1 ⟨r,b.hr,by rw [← e];exact y⟩
theorem TabIn.fst (b:TabIn L L' rs r j s k n) {r':RootR} (hne:r'.N≠r.N):cl L' r'.N=cl L r'.N:=b.put.same _ hne
theorem TabIn.isSec (h:SoundL L rs) (b:TabIn L L' rs r j s k n) (x:Nat) (hx:IsSec L' rs x):IsSec L rs x∨x=s:=by
 obtain ⟨r',hr',q,hq,h0,e⟩:=hx
 by_cases e1:r'.N=r.N
 · rw [e1] at h0 e
   by_cases e2:q=j
   · subst e2
     rw [b.put.now,b.ls h.len] at e
     exact Or.inr e.symm
   · rw [b.put.oth q (by omega) e2] at h0 e
     exact Or.inl ⟨r,b.hr,q,hq,h0,e⟩
 · unfold nm at h0 e
   rw [b.fst e1] at h0 e
   exact Or.inl ⟨r',hr',q,hq,h0,e⟩
theorem TabIn.isBlk (h:SoundL L rs) (b:TabIn L L' rs r j s k n) (x:Nat) (hx:IsBlk L' rs x):IsBlk L rs x∨x=n:=by
 obtain ⟨s',hs',q,hq,h0,e⟩:=hx
 have hs:=b.isSec h s' hs'
 unfold nm at h0 e
 rw [b.other h hs] at h0 e
 rcases hs with y | y
 · exact Or.inl ⟨s',y,q,hq,h0,e⟩
 · subst y
   by_cases e2:q=k
   · subst e2
     have:=b.tk
     unfold nm at this
     rw [this,b.ln h.len] at e
     exact Or.inr e.symm
   · have:=b.tq q hq e2
     unfold nm oldNum at this
     rw [this] at h0 e
     split at h0
     · exact absurd rfl h0
     · rename_i h3
       rw [if_neg h3] at e
       exact Or.inl ⟨_,⟨r,b.hr,j,b.hj,h3,rfl⟩,q,hq,h0,e⟩
theorem hit_plus {n m:Nat} (hn:(n+32768)%32768=n):hit (n+32768) m=if n=m then 1 else 0:=by
 unfold hit
 rw [hn]
 by_cases e:n=m
 · rw [if_pos e,if_pos ⟨by omega,e⟩]
 · rw [if_neg e,if_neg (fun z=>e z.2)]
theorem inOcc_old (L:List Clus) (t j m:Nat):sumFrom (fun q=>hit (oldNum L t j q) m) 32 0=if nm L t j=0 then 0 else inOcc L (nm L t j%32768) m:=by
 unfold oldNum inOcc
 by_cases e:nm L t j=0
 · simp only [e,if_true]
   exact sumFrom_zero _ _ fun q _ _=>hit_zero m
 · simp only [e,if_false]
theorem TabIn.use (h:SoundL L rs) (b:TabIn L L' rs r j s k n) (m:Nat):
   useOf L' rs m+(hit (nm L r.N j) m+hit (oldNum L r.N j k) m)=useOf L rs m+((if s=m then 1 else 0)+if n=m then 1 else 0):=by
 have hin:inOcc L s m+hit (oldNum L r.N j k) m=(if nm L r.N j=0 then 0 else inOcc L (nm L r.N j%32768) m)+hit (n+32768) m:=by
   have:=sumFrom_one (f:=fun q=>hit (nm L s q) m) (g:=fun q=>hit (oldNum L r.N j q) m) (a:=k) 32 0 (by omega) (by have:=b.hk;omega) (fun q _ hq hne=>by rw [b.tq q (by omega) hne])
   simp only [b.tk] at this
   rw [inOcc_old] at this
   exact this
 have hsec: ∀ r' ∈ rs,∀ q,q<2→(r'.N≠r.N∨q≠j)→secOcc L' r'.N q m=secOcc L r'.N q m:=by
   intro r' hr' q hq hne
   have e:nm L' r'.N q=nm L r'.N q:=by
     by_cases e1:r'.N=r.N
     · rw [e1];exact b.put.oth q (by omega) (by rcases hne with z | z;exact absurd e1 z;exact z)
     · unfold nm;rw [b.fst e1]
   refine secOcc_same (by rw [e];exact SameN.refl _) fun h0 k' hk'=> ?_
   unfold nm
   rw [b.other h (Or.inl ⟨r',hr',q,hq,h0,rfl⟩)]
   exact SameN.refl _
 have hat:secOcc L' r.N j m+(hit (nm L r.N j) m+hit (oldNum L r.N j k) m)=secOcc L r.N j m+((if s=m then 1 else 0)+if n=m then 1 else 0):=by
   rw [← hit_plus (b.ls h.len),← hit_plus (b.ln h.len)]
   have e:inOcc L' s m=inOcc L s m:=inOcc_same fun q hq=>by unfold nm;rw [b.other h (Or.inr rfl)];exact SameN.refl _
   unfold secOcc
   rw [b.put.now,if_neg (by omega),b.ls h.len,e]
   by_cases z:nm L r.N j=0
   · rw [if_pos z] at hin ⊢
     rw [z,hit_zero]
     omega
   · rw [if_neg z] at hin ⊢
     omega
 exact use_change h.nodup ⟨r,b.hr,rfl⟩ (fun r' hr' hne=>by
   unfold treeOcc
   rw [hsec r' hr' 0 (by omega) (Or.inl hne),hsec r' hr' 1 (by omega) (Or.inl hne)]) (tree_change b.hj (fun q hq hne=>hsec r b.hr q hq (Or.inr hne)) hat)
theorem TabIn.sound (h:SoundL L rs) (b:TabIn L L' rs r j s k n):SoundL L' rs:=by
 have hf:=h.fst r b.hr
 have hc:=fun m hm=>b.put.count hf.1 m hm
 have hlen:=h.len
 have hj:=b.hj
 refine ⟨by rw [b.put.len];exact h.len,by rw [b.put.len];exact h.six,fun r' hr'=>by rw [b.put.len];exact h.fst r' hr',h.nodup,fun r' hr' i h1 h2=> ?_,fun x hx=> ?_,fun x hx=> ?_,fun t ht x=> ?_,fun t ht x=> ?_,fun t ht x=> ?_,fun m hm=> ?_,fun m hm=>by rw [hc m hm];exact h.top m hm,fun m hm hl=>by rw [hc m hm];exact h.none m hm (by rw [← b.put.len];exact hl),fun r' hr' q hq hm=> ?_,fun x hx q hq hm=> ?_⟩
 · by_cases e1:r'.N=r.N
   · rw [e1,b.put.oth i h2 (by omega),← e1];exact h.zero r' hr' i h1 h2
   · unfold nm;rw [b.fst e1];exact h.zero r' hr' i h1 h2
 · rw [b.put.len]
   rcases b.isSec h x hx with y | y
   · exact h.sec x y
   · rw [y];exact b.sin
 · rw [b.put.len]
   rcases b.isBlk h x hx with y | y
   · exact h.blk x y
   · rw [y];exact b.nin
 · rcases b.isSec h t x with y | y
   · exact h.fs t ht y
   · rw [y] at ht;exact b.us.1 ht
 · rcases b.isBlk h t x with y | y
   · exact h.fb t ht y
   · rw [y] at ht;exact b.un.1 ht
 · rcases b.isSec h t ht with z | z
   · rcases b.isBlk h t x with y | y
     · exact h.sb t z y
     · rw [y] at z;exact b.un.2.1 z
   · rcases b.isBlk h t x with y | y
     · rw [z] at y;exact b.us.2.2 y
     · exact b.ne (z.symm.trans y)
 · rw [hc m hm]
   have h1:=b.use h m
   have h2:=h.cnt m hm
   have e1:=b.sin
   have e2:=b.nin
   have e3:=b.ne
   have e4:=b.cs
   have e5:=b.cn
   by_cases z:s=m
   · subst z
     rw [if_pos rfl,if_neg (fun e=>e3 e.symm),use_none h b.us] at h1
     rw [base6_eq,if_neg (by omega)]
     omega
   · rw [if_neg z] at h1
     by_cases z2:n=m
     · subst z2
       rw [if_pos rfl,use_none h b.un] at h1
       rw [base6_eq,if_neg (by omega)]
       omega
     · rw [if_neg z2] at h1;omega
 · by_cases e1:r'.N=r.N
   · rw [e1] at hm ⊢
     by_cases e2:q=j
     · subst e2
       rw [b.put.now,b.ls h.len,hc _ (by have:=b.sin;omega)]
       exact b.cs
     · rw [b.put.oth q (by omega) e2] at hm ⊢
       have hx:=h.sec _ ⟨r,b.hr,q,hq,by omega,rfl⟩
       rw [hc _ (by omega)]
       exact h.mark1 r b.hr q hq hm
   · have e:nm L' r'.N q=nm L r'.N q:=by unfold nm;rw [b.fst e1]
     rw [e] at hm ⊢
     have hx:=h.sec _ ⟨r',hr',q,hq,by omega,rfl⟩
     rw [hc _ (by omega)]
     exact h.mark1 r' hr' q hq hm
 · have hs:=b.isSec h x hx
   have e:nm L' x q=nm L x q:=by unfold nm;rw [b.other h hs]
   rw [e] at hm ⊢
   rcases hs with y | y
   · have hy:=h.blk _ ⟨x,y,q,hq,by omega,rfl⟩
     rw [hc _ (by omega)]
     exact h.mark2 x y q hq hm
   · subst y
     by_cases e2:q=k
     · subst e2
       rw [b.tk,b.ln h.len,hc _ (by have:=b.nin;omega)]
       exact b.cn
     · rw [b.tq q hq e2] at hm ⊢
       unfold oldNum at hm ⊢
       split at hm
       · omega
       · rename_i h3
         rw [if_neg h3]
         have hss:IsSec L rs (nm L r.N j%32768):=⟨r,b.hr,j,b.hj,h3,rfl⟩
         have hy:=h.blk _ ⟨_,hss,q,hq,by omega,rfl⟩
         rw [hc _ (by omega)]
         exact h.mark2 _ hss q hq hm
theorem TabIn.content (h:SoundL L rs) (b:TabIn L L' rs r j s k n) {r':RootR} (hr':r' ∈ rs):
   contentOf L' r'.N=if r'.N=r.N then (contentOf L r'.N).set (32*j+k) (cl L n) else contentOf L r'.N:=by
 have hbl: ∀ x,IsBlk L rs x→cl L' x=cl L x:=fun x hx=>b.put.same x fun e=>h.fb _ ⟨r,b.hr,e.symm⟩ hx
 have hn:cl L' n=cl L n:=b.put.same n fun e=>b.un.1 ⟨r,b.hr,e.symm⟩
 have hj:=b.hj
 have hk:=b.hk
 have hss:=b.other h (Or.inr rfl:IsSec L rs s∨s=s)
 have key: ∀ c,c<64→(r'.N≠r.N∨c≠32*j+k)→blkOf L' r'.N c=blkOf L r'.N c:=by
   intro c hc hne
   have e:numAt L' r'.N c=numAt L r'.N c:=by
     by_cases e1:r'.N=r.N
     · by_cases e2:c / 32=j
       · have hq:c%32≠k:=by rcases hne with z | z;exact absurd e1 z;omega
         have h1:=b.put.now
         have h2:=b.tq (c%32) (by omega) hq
         unfold nm oldNum at h2
         unfold nm at h1
         unfold numAt
         rw [e1,e2,h1,if_neg (by omega),b.ls h.len,hss,h2]
       · have h1:=b.put.oth (c / 32) (by omega) e2
         unfold nm at h1
         unfold numAt
         rw [e1,h1]
         by_cases h0:num (cl L r.N) (2*(c / 32))=0
         · rw [if_pos h0,if_pos h0]
         · rw [if_neg h0,if_neg h0,b.other h (Or.inl ⟨r,b.hr,c / 32,by omega,h0,rfl⟩)]
     · unfold numAt
       rw [b.fst e1]
       by_cases h0:num (cl L r'.N) (2*(c / 32))=0
       · rw [if_pos h0,if_pos h0]
       · rw [if_neg h0,if_neg h0,b.other h (Or.inl ⟨r',hr',c / 32,by omega,h0,rfl⟩)]
   exact blkOf_same (by rw [e];exact SameN.refl _) (fun h0=>hbl _ (numAt_isBlk hr' hc h0))
 by_cases e:r'.N=r.N
 · rw [if_pos e]
   apply List.ext_getElem?
   intro c
   rw [List.getElem?_set]
   by_cases hc:c<64
   · by_cases e2:32*j+k=c
     · rw [if_pos e2,if_pos (by rw [contentOf_length];omega),contentOf_get _ _ _ hc,blkOf_numAt]
       have e3:numAt L' r'.N c=n+32768:=by
         have h1:=b.put.now
         have h2:=b.tk
         unfold nm at h1 h2
         unfold numAt
         rw [e,show c / 32=j by omega,show c%32=k by omega,h1,if_neg (by omega),b.ls h.len,hss]
         exact h2
       rw [e3,if_neg (by omega),b.ln h.len,hn]
     · rw [if_neg e2,contentOf_get _ _ _ hc,contentOf_get _ _ _ hc,key c hc (Or.inr (fun z=>e2 z.symm))]
   · rw [if_neg (by omega),List.getElem?_eq_none (by rw [contentOf_length];omega),List.getElem?_eq_none (by rw [contentOf_length];omega)]
 · rw [if_neg e]
   exact content_ext fun c hc=>key c hc (Or.inl e)
end
section
variable {L:List Clus} {rs:List RootR} {b:Int} {R:FileR}
theorem SoundL.isBlk1 {L:List Clus} {rs:List RootR} {r:RootR} (hr:r ∈ rs) {j k:Nat} (hj:j<2) (hk:k<32) (h0:nm L r.N j≠0) (h1:nm L (nm L r.N j%32768) k≠0):IsBlk L rs (nm L (nm L r.N j%32768) k%32768):=
 ⟨_,⟨r,hr,j,hj,h0,rfl⟩,k,hk,h1,rfl⟩
theorem SoundL.used (h:SoundL L rs) (hT:Told L rs b base6 (allTells L rs rs.length 0) R) (n:Nat) (hn:n<256):R.used.getD n 0=base6 n+useOf L rs n:=by
 rw [hT.used n hn,← occ_allTells h.zero];rfl
theorem SoundL.counts (h:SoundL L rs) (hT:Told L rs b base6 (allTells L rs rs.length 0) R):countsFrom R 256 0= -1:=by
 refine countsFrom_good 256 0 fun j _ hj=> ?_
 have h1:=h.used hT j (by omega)
 have h2:=h.top j (by omega)
 have h3:=h.cnt j (by omega)
 unfold badCount usedOf
 rw [h1,hT.hL]
 have e1:decide (countOf L j<base6 j+useOf L rs j)=false:=by simp;omega
 have e2:(countOf L j == 255)=false:=by rw [beq_eq_false_iff_ne];omega
 rw [e1,e2,Bool.and_false,Bool.false_or,Bool.false_or]
 by_cases hl:L.length≤j
 · rw [h.none j (by omega) hl];simp
 · rw [decide_eq_false hl];rfl
theorem notBad (h:SoundL L rs) (hT:Told L rs b base6 (allTells L rs rs.length 0) R) (x:Nat) (hx:x%32768<256) (hu:1≤useOf L rs (x%32768)) (hm:32768≤x→countOf L (x%32768)=1):markBad R x=false:=by
 unfold markBad
 by_cases e:32768≤x
 · have h1:=h.used hT _ hx
   have h2:=h.cnt _ hx
   have h3:=hm e
   rw [if_pos e,hT.hL,h3,show R.used.getD (x%32768) 0=1 by omega]
   rfl
 · rw [if_neg e]
theorem markedIn_sound (t:Nat) (hx: ∀ k,k<32→num (cl R.L t) (2*k)≠0→markBad R (num (cl R.L t) (2*k))=false): ∀ (m k acc:Nat),k+m≤32→ ∃ a,markedIn R t m k acc=some a
 | 0,_,acc,_=>⟨acc,rfl⟩
 | m+1,k,acc,hm=>by
   rw [markedIn]
   by_cases h0:num (cl R.L t) (2*k)=0
   · rw [if_pos h0];exact markedIn_sound t hx m (k+1) acc (by omega)
   · rw [if_neg h0,hx k (by omega) h0]
     exact markedIn_sound t hx m (k+1) _ (by omega)
theorem markedOut_sound (t:Nat) (hx: ∀ i,i<2→num (cl R.L t) (2*i)≠0→markBad R (num (cl R.L t) (2*i))=false∧ ∀ k,k<32→num (cl R.L (num (cl R.L t) (2*i)%32768)) (2*k)≠0→markBad R (num (cl R.L (num (cl R.L t) (2*i)%32768)) (2*k))=false): ∀ (m i acc:Nat),i+m≤2→(markedOut R t m i acc).1= -1
 | 0,_,_,_=>rfl
 | m+1,i,acc,hm=>by
   rw [markedOut]
   by_cases h0:num (cl R.L t) (2*i)=0
   · rw [if_pos h0];exact markedOut_sound t hx m (i+1) acc (by omega)
   · obtain ⟨h1,h2⟩:=hx i (by omega) h0
     obtain ⟨a,ha⟩:=markedIn_sound (R:=R) _ h2 32 0 (acc+markNone R (num (cl R.L t) (2*i))) (by omega)
     rw [if_neg h0,h1,ha]
     exact markedOut_sound t hx m (i+1) a (by omega)
theorem SoundL.marked (h:SoundL L rs) (hT:Told L rs b base6 (allTells L rs rs.length 0) R) (i:Nat) (hi:i<rs.length):(marked R (rootOf R i)).1= -1:=by
 have hr:rootOf R i=rs.getD i ⟨0,0,[]⟩:=by unfold rootOf;rw [hT.hR]
 have hmem:rs.getD i ⟨0,0,[]⟩ ∈ rs:=by
   rw [List.getD_eq_getElem?_getD,List.getElem?_eq_getElem hi]
   exact List.getElem_mem hi
 have hl:=h.len
 unfold Go.Proofs.YtknjjjenklfeoaaGreatDoor.marked
 refine markedOut_sound _ (fun j hj h0=> ?_) 2 0 0 (by omega)
 rw [hr] at h0 ⊢
 rw [hT.hL] at h0 ⊢
 have hs:IsSec L rs (nm L (rs.getD i ⟨0,0,[]⟩).N j%32768):=⟨_,hmem,j,hj,h0,rfl⟩
 have hsr:=h.sec _ hs
 refine ⟨notBad h hT _ (by unfold nm at hsr;omega) (use_sec hs) (fun hm=>h.mark1 _ hmem j hj hm),fun k hk h1=> ?_⟩
 have hb:=SoundL.isBlk1 hmem hj hk h0 h1
 have hbr:=h.blk _ hb
 exact notBad h hT _ (by unfold nm at hbr;omega) (use_blk hb) (fun hm=>h.mark2 _ hs k hk hm)
theorem SoundL.marks (h:SoundL L rs) (hT:Told L rs b base6 (allTells L rs rs.length 0) R): ∀ (m i:Nat),i+m≤rs.length→marksFrom R m i (-1)= -1
 | 0,_,_=>rfl
 | m+1,i,hm=>by
   rw [marksFrom,if_pos (by decide),h.marked hT i (by omega)]
   exact h.marks hT m (i+1) (by omega)
theorem look_sound {file:List Clus} (hh:headGood file=true) (hl:(listOf (R1of file)).1=true) (hx:SoundL (R1of file).L (listOf (R1of file)).2):
   (look file).bad= -1∧(look file).L=(R1of file).L∧(look file).roots=(listOf (R1of file)).2∧(∀ n,n<256→(look file).used.getD n 0=base6 n+useOf (R1of file).L (listOf (R1of file)).2 n)∧Low 1000 (look file):=by
 have T0:Told (R1of file).L (listOf (R1of file)).2 (-1) base6 [] (R2of file):=
   ⟨rfl,rfl,rfl,zeros256_length,used6_length,fun x hx=>by simp at hx,fun n _=>by
     show zeros256.getD n 0=0
     unfold zeros256
     rw [List.getD_eq_getElem?_getD,List.getElem?_replicate]
     split <;> rfl,fun n _=>rfl⟩
 obtain ⟨h1,h2⟩:=treesFrom_told hx.len hx.zero (listOf (R1of file)).2.length 0 [] (R2of file) (by omega) T0 hx.ok
 rw [List.nil_append] at h2
 have h1':(R3of file).1=true:=h1
 have h2':Told (R1of file).L (listOf (R1of file)).2 (-1) base6 (allTells (R1of file).L (listOf (R1of file)).2 (listOf (R1of file)).2.length 0) (R3of file).2:=h2
 have e:look file={ (R3of file).2 with bad:=marksFrom (R3of file).2 (R3of file).2.roots.length 0 (countsFrom (R3of file).2 256 0) }:=by
   unfold look
   rw [if_neg (by rw [hh];decide),if_neg (by rw [hl];decide),if_neg (by rw [h1'];decide)]
 clear h1 h2 T0 h1'
 generalize R3of file=Q at h2' e
 have h3:Told (R1of file).L (listOf (R1of file)).2 (-1) base6 (allTells (R1of file).L (listOf (R1of file)).2 (listOf (R1of file)).2.length 0) (look file):=by
   rw [e,hx.counts h2',h2'.hR,hx.marks h2' _ 0 (by omega)]
   exact ⟨h2'.hL,h2'.hR,rfl,h2'.tl,h2'.ul,h2'.told,h2'.none,h2'.used⟩
 refine ⟨h3.hB,h3.hL,h3.hR,fun n hn=>hx.used h3 n hn,fun n=> ?_⟩
 by_cases hn:n<256
 · rw [hx.used h3 n hn]
   have:=hx.top n hn
   have:=hx.cnt n hn
   omega
 · rw [List.getD_eq_getElem?_getD,List.getElem?_eq_none (by rw [h3.ul];omega)]
   exact Nat.zero_le _
theorem SoundL.inFile (h:SoundL L rs) {r:RootR} (hr:r ∈ rs):InFile L r.N:=by
 refine ⟨(h.fst r hr).2,fun i hi h0=>(h.sec _ ⟨r,hr,i,hi,h0,rfl⟩).2,fun i hi h0 k hk=> ?_⟩
 by_cases h1:nm L (nm L r.N i%32768) k=0
 · unfold nm at h1
   rw [h1]
   have:=h.six
   omega
 · exact (h.blk _ (SoundL.isBlk1 hr hi hk h0 h1)).2
end
end Go.Proofs.YtknjjjenklfeoaaGreatDoor
namespace Go.Proofs.YtknjjjenklfeoaaGreatDoor
open Go.RowKit
attribute [local go_sem ↓] loadVar_clus storeVar_clus zeroValue_clus loadVar_cont storeVar_cont zeroValue_cont build_disk equalIn_cont
attribute [local go_sem] run_loadClus run_storeClus run_zeroClus run_storeClus_new run_loadClus_new zc_length run_loadCont run_storeCont run_zeroCont run_bDisk
def diskOf (R:FileR):DiskR:=⟨contentOf R.L (rootOf R 0).N,(List.range (R.roots.length - 1)).map fun i=>⟨(rootOf R (i+1)).name,contentOf R.L (rootOf R (i+1)).N⟩⟩
end Go.Proofs.YtknjjjenklfeoaaGreatDoor
namespace Go.Proofs.YtknjjjenklfeoaaGreatDoor
open Go.RowKit
theorem picCells_length {p:PicR} (h:Cont p.C):(picCells p).length=4097:=by simp [picCells,h.flat]
def loadPic (a:Addr):Sem Value:=loadVar 139 a
theorem loadVar_pic (a:Addr):loadVar 139 a=loadPic a:=rfl
theorem run_loadPic {w:World} {b o:Nat} (h:HasAt w b o 4097):(loadPic ⟨b,o,none⟩).run Tryz.prog w= .ok (.agg (cellsAt w b o 4097).toArray) w:=
 run_loadVar_has h 139 _ Tryz.underlying139 rfl (by kernel_rfl)
def bsPic (parts:Array (Nat × Value)):Sem Value:=Instr.buildSlice 68 1 parts
theorem buildSlice_pic (parts:Array (Nat × Value)):Instr.buildSlice 68 1 parts=bsPic parts:=rfl
theorem run_bsPic {w:World} {p:PicR} (h:Cont p.C):(bsPic #[(0,.agg (picCells p).toArray)]).run Tryz.prog w= .ok (.slice (some ⟨w.heap.size,0,none⟩) 1 1) (w.alloc (.cells (picCells p).toArray 139)):=
 run_buildSlice_one w 68 139 4097 (.agg (picCells ⟨[],zD⟩).toArray) (.agg (picCells p).toArray) Tryz.underlying68 (by kernel_rfl) (by omega) (by omega) (by simp [Value.cells,picCells_length h])
def zpic:PicR:=⟨[],zD⟩
def picAt (Ps:List PicR) (k:Nat):PicR:=Ps.getD k zpic
def eqPic (x y:Value):Sem Bool:=Op.equalIn 10000 139 x y
theorem equalIn_pic (x y:Value):Op.equalIn 10000 139 x y=eqPic x y:=rfl
end Go.Proofs.YtknjjjenklfeoaaGreatDoor
namespace Go.Proofs.YtknjjjenklfeoaaGreatDoor
open Go.RowKit
attribute [local go_sem ↓] loadVar_clus storeVar_clus zeroValue_clus loadVar_cont storeVar_cont zeroValue_cont build_disk equalIn_cont loadVar_pic buildSlice_pic equalIn_pic build_pic
attribute [local go_sem] run_loadClus run_storeClus run_zeroClus run_storeClus_new run_loadClus_new zc_length run_loadCont run_storeCont run_zeroCont run_bDisk run_loadPic run_bsPic run_bPic
def refFindFrom (Ps:List PicR) (s:ByteArray):Nat→Nat→Int
 | 0,_=> -1
 | m+1,k=>if txt (picAt Ps k).name=s then (k:Int) else refFindFrom Ps s m (k+1)
def refFind (D:DiskR) (s:ByteArray):Int:=refFindFrom D.L s D.L.length 0
def thereR (D:DiskR) (s:ByteArray):Int × Nat:=if isNameB s.data.toList=false then (-1,2) else if refFind D s<0 then (-1,4) else (refFind D s,0)
def refReadOf (D:DiskR) (s:ByteArray) (n:Int):Clus × Nat:=
 if (thereR D s).2=0 then if blockB n then (cl (picAt D.L (thereR D s).1.toNat).C n.toNat,0) else (zc,1) else (zc,(thereR D s).2)
end Go.Proofs.YtknjjjenklfeoaaGreatDoor
namespace Go.Proofs.YtknjjjenklfeoaaGreatDoor
open Go.RowKit
attribute [local go_sem ↓] loadVar_clus storeVar_clus zeroValue_clus loadVar_cont storeVar_cont zeroValue_cont build_disk equalIn_cont loadVar_pic buildSlice_pic equalIn_pic build_pic
attribute [local go_sem] run_loadClus run_storeClus run_zeroClus run_storeClus_new run_loadClus_new zc_length run_loadCont run_storeCont run_zeroCont run_bDisk run_loadPic run_bsPic run_bPic HasAt_drewN cellsAt_drewN
def picOf (R:FileR) (i:Nat):PicR:=⟨(rootOf R i).name,contentOf R.L (rootOf R i).N⟩
def picsTo (R:FileR) (k:Nat):List PicR:=(List.range (k - 1)).map fun i=>picOf R (i+1)
theorem diskOf_eq (R:FileR):diskOf R=⟨contentOf R.L (rootOf R 0).N,picsTo R R.roots.length⟩:=rfl
end Go.Proofs.YtknjjjenklfeoaaGreatDoor
namespace Go.Proofs.YtknjjjenklfeoaaGreatDoor
open Go.RowKit
def vw (C:List Clus) (t:Nat):Clus:=if t<C.length then cl C t else zc
theorem cl_padTo (C:List Clus) (n t:Nat) (ht:t<n):cl (padTo C n) t=vw C t:=by
 unfold cl padTo vw
 rw [List.getD_eq_getElem?_getD,List.getElem?_map,List.getElem?_range ht]
 rfl
theorem vw_at {C:List Clus} {t:Nat} (h:t<C.length):vw C t=cl C t:=by unfold vw;rw [if_pos h]
theorem cl_past {C:List Clus} {t:Nat} (h:C.length≤t):cl C t=[]:=by unfold cl;rw [List.getD_eq_getElem?_getD,List.getElem?_eq_none h];rfl
def rsOf (N0:Nat) (E:List EntR):List RootR:=⟨N0,0,[]⟩ :: E.map rootE
theorem rsOf_mem {N0:Nat} {E:List EntR} {r:RootR}:r ∈ rsOf N0 E↔r=⟨N0,0,[]⟩∨ ∃ e ∈ E,r=rootE e:=by
 unfold rsOf
 rw [List.mem_cons,List.mem_map]
 constructor
 · rintro (h | ⟨e,he,h⟩)
   · exact Or.inl h
   · exact Or.inr ⟨e,he,h.symm⟩
 · rintro (h | ⟨e,he,h⟩)
   · exact Or.inl h
   · exact Or.inr ⟨e,he,h.symm⟩
structure FileE (C:List Clus) (T N0:Nat) (E:List EntR):Prop where
 lens: ∀ c ∈ C,c.length=64
 six:6≤C.length
 le:C.length≤T
 seven:7≤T
 most:T≤256
 n0:N0<65536
 head:cl C 0=headBytes T N0
 list:cl C 5=listBytes E
 ents:EntsOK E
section
variable {C:List Clus} {T N0:Nat} {E:List EntR}
theorem FileE.num4 (h:FileE C T N0 E):num (cl C 0) 4=T:=by rw [h.head];exact num_head4 (by have:=h.most;omega) h.n0
theorem FileE.num6 (h:FileE C T N0 E):num (cl C 0) 6=N0:=by rw [h.head];exact num_head6 (by have:=h.most;omega) h.n0
theorem FileE.headGood (h:FileE C T N0 E):headGood C=true:=by
 have h1:=h.six
 have h2:=h.le
 have h3:=h.most
 have h4:=h.seven
 unfold Go.Proofs.YtknjjjenklfeoaaGreatDoor.headGood
 rw [h.num4,h.head,head_velm,head_rest (by omega) h.n0]
 simp
 omega
theorem FileE.pad (h:FileE C T N0 E):(R1of C).L=padTo C T:=by show padTo C (num (cl C 0) 4)=_;rw [h.num4]
theorem FileE.listOf (h:FileE C T N0 E):listOf (R1of C)=(true,rsOf N0 E):=by
 have h6:=h.six
 have h7:=h.seven
 show Go.Proofs.YtknjjjenklfeoaaGreatDoor.listFrom (cl (R1of C).L 5) 4 0 false [⟨num (cl C 0) 6,0,[]⟩]=_
 rw [h.pad,cl_padTo _ _ _ (by omega),vw_at (by omega),h.list,h.num6]
 exact h.ents.listFrom ⟨N0,0,[]⟩ 4 0 rfl (Nat.zero_le _)
theorem FileE.look (h:FileE C T N0 E) (hs:SoundL (padTo C T) (rsOf N0 E)):
   (look C).bad= -1∧(look C).L=padTo C T∧(look C).roots=rsOf N0 E∧(∀ n,n<256→(look C).used.getD n 0=base6 n+useOf (padTo C T) (rsOf N0 E) n)∧Low 1000 (look C):=by
 have:=look_sound h.headGood (by rw [h.listOf]) (by rw [h.listOf,h.pad];exact hs)
 rw [h.listOf,h.pad] at this
 exact this
def dskOf (L:List Clus) (N0:Nat) (E:List EntR):DiskR:=⟨contentOf L N0,E.map fun e=>⟨e.name,contentOf L e.first⟩⟩
theorem FileE.disk (h:FileE C T N0 E) (hs:SoundL (padTo C T) (rsOf N0 E)):diskOf (Go.Proofs.YtknjjjenklfeoaaGreatDoor.look C)=dskOf (padTo C T) N0 E:=by
 obtain ⟨_,h2,h3,_⟩:=h.look hs
 rw [diskOf_eq]
 unfold dskOf picsTo picOf rootOf
 rw [h2,h3]
 have e0:((rsOf N0 E).getD 0 ⟨0,0,[]⟩).N=N0:=rfl
 rw [e0]
 congr 1
 apply List.ext_getElem?
 intro i
 rw [List.getElem?_map,List.getElem?_map]
 have hl:(rsOf N0 E).length - 1=E.length:=by simp [rsOf]
 rw [hl]
 by_cases hi:i<E.length
 · rw [List.getElem?_range hi,List.getElem?_eq_getElem hi,Option.map_some,Option.map_some]
   have e:(rsOf N0 E).getD (i+1) ⟨0,0,[]⟩=rootE E[i]:=by
     unfold rsOf
     rw [List.getD_cons_succ,List.getD_eq_getElem?_getD,List.getElem?_map,List.getElem?_eq_getElem hi]
     rfl
   rw [e];rfl
 · rw [List.getElem?_eq_none (by simpa using hi),List.getElem?_eq_none (by omega)];rfl
theorem padTo_self (hC:C.length=T):padTo C T=C:=by rw [← hC];exact padTo_same
structure Vol (base:List Clus) (V:VolR) (N0:Nat) (E:List EntR):Prop where
 file:FileE V.C V.C.length N0 E
 sound:SoundL V.C (rsOf N0 E)
 firm:V.loose=false
 log:Logged base V
section
variable {base:List Clus} {V:VolR}
theorem Vol.firsts (h:Vol base V N0 E):firstsOf V=(rsOf N0 E).map (·.N):=by
 unfold firstsOf
 rw [h.file.num6,h.file.ents.picFirsts h.file.list]
 simp [rsOf,rootE]
end
end
def putC (C:List Clus) (x:Nat × Clus):List Clus:=(growTo C (x.1+1)).set x.1 x.2
def putsC (C:List Clus) (ps:List (Nat × Clus)):List Clus:=ps.foldl putC C
theorem putsC_cons (C:List Clus) (x:Nat × Clus) (ps:List (Nat × Clus)):putsC C (x :: ps)=putsC (putC C x) ps:=rfl
theorem putC_length (C:List Clus) (x:Nat × Clus):(putC C x).length=max C.length (x.1+1):=by simp only [putC,List.length_set,growTo_length]
theorem vw_growTo (C:List Clus) (n t:Nat):vw (growTo C n) t=vw C t:=by
 unfold vw
 rw [growTo_length]
 by_cases h:t<C.length
 · rw [if_pos (by omega),if_pos h,cl_growTo _ _ h]
 · rw [if_neg h]
   by_cases h2:t<max C.length n
   · rw [if_pos h2]
     unfold cl growTo
     rw [List.getD_eq_getElem?_getD,List.getElem?_append_right (by omega),List.getElem?_replicate,if_pos (by omega)];rfl
   · rw [if_neg h2]
theorem vw_putC (C:List Clus) (x:Nat × Clus) (t:Nat):vw (putC C x) t=if x.1=t then x.2 else vw C t:=by
 have hl:=putC_length C x
 by_cases e:x.1=t
 · rw [if_pos e,vw_at (by omega)]
   unfold putC
   rw [cl_setN _ _ _ _ (by rw [growTo_length];omega),if_pos e]
 · rw [if_neg e,← vw_growTo C (x.1+1) t]
   unfold vw putC
   rw [List.length_set]
   by_cases h:t<(growTo C (x.1+1)).length
   · rw [if_pos h,if_pos h,cl_setN _ _ _ _ (by rw [growTo_length];omega),if_neg e]
   · rw [if_neg h,if_neg h]
theorem vw_puts_none (t:Nat): ∀ (ps:List (Nat × Clus)) (C:List Clus),(∀ x ∈ ps,x.1≠t)→vw (putsC C ps) t=vw C t
 | [],_,_=>rfl
 | x :: r,C,h=>by rw [putsC_cons,vw_puts_none t r _ (fun y hy=>h y (by simp [hy])),vw_putC,if_neg (h x (by simp))]
theorem vw_puts (t:Nat): ∀ (ps:List (Nat × Clus)) (C:List Clus),vw (putsC C ps) t=vw C t∨ ∃ x ∈ ps,x.1=t∧vw (putsC C ps) t=x.2
 | [],_=>Or.inl rfl
 | x :: r,C=>by
   rw [putsC_cons]
   rcases vw_puts t r (putC C x) with h | ⟨y,hy,h1,h2⟩
   · rw [vw_putC] at h
     by_cases e:x.1=t
     · rw [if_pos e] at h;exact Or.inr ⟨x,by simp,e,h⟩
     · rw [if_neg e] at h;exact Or.inl h
   · exact Or.inr ⟨y,by simp [hy],h1,h2⟩
theorem vw_puts_new (new:Nat→Clus) (t:Nat) (ps:List (Nat × Clus)) (C:List Clus) (hn: ∀ x ∈ ps,x.2=new x.1) (hx: ∃ x ∈ ps,x.1=t):vw (putsC C ps) t=new t:=by
 induction ps generalizing C with
 | nil=>obtain ⟨x,hx,_⟩:=hx;simp at hx
 | cons x r ih=>
   rw [putsC_cons]
   by_cases hr: ∃ y ∈ r,y.1=t
   · exact ih _ (fun y hy=>hn y (by simp [hy])) hr
   · rw [vw_puts_none t r _ (fun y hy e=>hr ⟨y,hy,e⟩),vw_putC]
     obtain ⟨y,hy,e⟩:=hx
     rcases List.mem_cons.1 hy with z | z
     · rw [← z,if_pos e,hn y (by simp [z]),e]
     · exact absurd ⟨y,z,e⟩ hr
theorem putsC_length: ∀ (ps:List (Nat × Clus)) (C:List Clus) (T:Nat),C.length≤T→(∀ x ∈ ps,x.1<T)→C.length≤(putsC C ps).length∧(putsC C ps).length≤T
 | [],C,T,h,_=>⟨Nat.le_refl _,h⟩
 | x :: r,C,T,h,hx=>by
   have h1:=putC_length C x
   have h2:=hx x (by simp)
   have:=putsC_length r (putC C x) T (by omega) (fun y hy=>hx y (by simp [hy]))
   rw [putsC_cons]
   omega
theorem putsC_lens: ∀ (ps:List (Nat × Clus)) (C:List Clus),(∀ c ∈ C,c.length=64)→(∀ x ∈ ps,x.2.length=64)→ ∀ c ∈ putsC C ps,c.length=64
 | [],_,h,_=>h
 | x :: r,C,h,hx=>by
   rw [putsC_cons]
   refine putsC_lens r _ (fun c hc=> ?_) (fun y hy=>hx y (by simp [hy]))
   rcases List.mem_or_eq_of_mem_set hc with y | y
   · exact growTo_lens h _ c y
   · rw [y];exact hx x (by simp)
def puts (V:VolR) (ps:List (Nat × Clus)):VolR:=ps.foldl (fun V x=>putV V x.1 x.2) V
def epoch (V:VolR) (ps:List (Nat × Clus)):VolR:=flushV (puts V ps)
theorem puts_C (ps:List (Nat × Clus)): ∀ V:VolR,(puts V ps).C=putsC V.C ps:=by
 induction ps with
 | nil=>intro V;rfl
 | cons x r ih=>
   intro V
   show (puts (putV V x.1 x.2) r).C=putsC (putC V.C x) r
   rw [ih,putV_C]
   rfl
theorem epoch_C (V:VolR) (ps:List (Nat × Clus)):(epoch V ps).C=putsC V.C ps:=by unfold epoch;rw [flushV_C,puts_C]
theorem puts_puts {V V1:VolR} (h:Puts V V1) (ps:List (Nat × Clus)):Puts V (puts V1 ps):=by
 unfold puts
 induction ps generalizing V1 with
 | nil=>exact h
 | cons x r ih=>exact ih (h.put x.1 x.2)
theorem puts_epoch {V V1:VolR} (h:Puts V V1) (ps:List (Nat × Clus)):Puts V (epoch V1 ps):=(puts_puts h ps).flush
section
variable {C:List Clus} {T N0:Nat} {E:List EntR}
theorem FileE.puts (h:FileE C T N0 E) (ps:List (Nat × Clus)) (hp: ∀ x ∈ ps,x.1<T∧x.1≠0∧x.1≠5∧x.2.length=64):FileE (putsC C ps) T N0 E:=by
 have hl:=putsC_length ps C T h.le (fun x hx=>(hp x hx).1)
 have h6:=h.six
 refine ⟨putsC_lens ps C h.lens (fun x hx=>(hp x hx).2.2.2),by omega,hl.2,h.seven,h.most,h.n0,?_,?_,h.ents⟩
 · have:=vw_puts_none 0 ps C (fun x hx=>(hp x hx).2.1)
   rw [vw_at (by omega),vw_at (by omega)] at this
   rw [this];exact h.head
 · have:=vw_puts_none 5 ps C (fun x hx=>(hp x hx).2.2.1)
   rw [vw_at (by omega),vw_at (by omega)] at this
   rw [this];exact h.list
structure Ok (C:List Clus) (T N0:Nat) (E:List EntR) (D:DiskR):Prop where
 file:FileE C T N0 E
 sound:SoundL (padTo C T) (rsOf N0 E)
 holds:dskOf (padTo C T) N0 E=D
theorem countOf_pad (C:List Clus) (T n:Nat) (hT:5≤T) (hn:n<256):countOf (padTo C T) n=byteAt (vw C (1+n / 64)) (n%64):=by
 unfold countOf
 rw [cl_padTo _ _ _ (by omega)]
theorem nm_pad (C:List Clus) (T t k:Nat) (ht:t<T):nm (padTo C T) t k=num (vw C t) (2*k):=by
 unfold nm
 rw [cl_padTo _ _ _ ht]
theorem dskOf_same {L L':List Clus} {N0:Nat} {E:List EntR} (h: ∀ r ∈ rsOf N0 E,contentOf L' r.N=contentOf L r.N):dskOf L' N0 E=dskOf L N0 E:=by
 unfold dskOf
 have h0:=h ⟨N0,0,[]⟩ (by simp [rsOf])
 simp only at h0
 rw [h0]
 congr 1
 refine List.map_congr_left fun e he=> ?_
 have:=h (rootE e) (rsOf_mem.2 (Or.inr ⟨e,he,rfl⟩))
 have:contentOf L' e.first=contentOf L e.first:=this
 rw [this]
theorem Ok.change {D:DiskR} (h:Ok C T N0 E D) (ps:List (Nat × Clus)) (hp: ∀ x ∈ ps,x.1<T∧x.1≠0∧x.1≠5∧x.2.length=64)
   (hblk: ∀ n,IsBlk (padTo C T) (rsOf N0 E) n→ ∀ x ∈ ps,x.1≠n) (hs:Shape (padTo C T) (padTo (putsC C ps) T) (rsOf N0 E))
   (cnt: ∀ n,n<256→base6 n+useOf (padTo C T) (rsOf N0 E) n≤countOf (padTo (putsC C ps) T) n) (top: ∀ n,n<256→countOf (padTo (putsC C ps) T) n<255) (none: ∀ n,n<256→T≤n→countOf (padTo (putsC C ps) T) n=0)
   (m1: ∀ r ∈ rsOf N0 E,∀ j,j<2→32768≤nm (padTo (putsC C ps) T) r.N j→countOf (padTo (putsC C ps) T) (nm (padTo (putsC C ps) T) r.N j%32768)=1)
   (m2: ∀ s,IsSec (padTo C T) (rsOf N0 E) s→ ∀ k,k<32→32768≤nm (padTo (putsC C ps) T) s k→countOf (padTo (putsC C ps) T) (nm (padTo (putsC C ps) T) s k%32768)=1):Ok (putsC C ps) T N0 E D:=by
 refine ⟨h.file.puts ps hp,h.sound.shape hs (by rw [padTo_length,padTo_length];exact Nat.le_refl _) (by rw [padTo_length];exact h.file.most) cnt top (by rw [padTo_length];exact none) m1 m2,?_⟩
 rw [← h.holds]
 refine dskOf_same fun r hr=>hs.content (fun n hn=> ?_) hr
 have hlt:=(h.sound.blk n hn).2
 rw [padTo_length] at hlt
 rw [cl_padTo _ _ _ hlt,cl_padTo _ _ _ hlt,vw_puts_none n ps C (hblk n hn)]
theorem Ok.counts {D:DiskR} (h:Ok C T N0 E D) (k:List UInt8) (hk:k.length=256) (Un:Nat→Prop)
   (hun: ∀ n,Un n→n<T∧6≤n∧ ¬ IsFst (rsOf N0 E) n∧ ¬ IsSec (padTo C T) (rsOf N0 E) n∧ ¬ IsBlk (padTo C T) (rsOf N0 E) n)
   (cnt: ∀ n,n<256→base6 n+useOf (padTo C T) (rsOf N0 E) n≤byteAt k n) (top: ∀ n,n<256→byteAt k n<255) (none: ∀ n,n<256→T≤n→byteAt k n=0)
   (m1: ∀ r ∈ rsOf N0 E,∀ j,j<2→32768≤nm (padTo C T) r.N j→byteAt k (nm (padTo C T) r.N j%32768)=1)
   (m2: ∀ s,IsSec (padTo C T) (rsOf N0 E) s→ ∀ q,q<32→32768≤nm (padTo C T) s q→byteAt k (nm (padTo C T) s q%32768)=1)
   (ps:List (Nat × Clus)) (hp: ∀ x ∈ ps,(∃ p,p<4∧x=(1+p,partOf k p))∨(Un x.1∧x.2.length=64)):Ok (putsC C ps) T N0 E D:=by
 have h7:=h.file.seven
 have hsnd:=h.sound
 have key: ∀ t,6≤t→ ¬ Un t→vw (putsC C ps) t=vw C t:=by
   intro t ht hu
   refine vw_puts_none t ps C fun x hx e=> ?_
   rcases hp x hx with ⟨p,hp4,rfl⟩ | ⟨hU,_⟩
   · simp only at e;omega
   · rw [e] at hU;exact hu hU
 have hcount: ∀ n,n<256→countOf (padTo (putsC C ps) T) n=countOf (padTo C T) n∨countOf (padTo (putsC C ps) T) n=byteAt k n:=by
   intro n hn
   rw [countOf_pad _ _ _ (by omega) hn,countOf_pad _ _ _ (by omega) hn]
   rcases vw_puts (1+n / 64) ps C with e | ⟨x,hx,e1,e2⟩
   · rw [e];exact Or.inl rfl
   · rcases hp x hx with ⟨p,hp4,rfl⟩ | ⟨hU,_⟩
     · simp only at e1 e2
       rw [e2,show p=n / 64 by omega,byteAt_part];exact Or.inr rfl
     · have:=(hun _ hU).2.1;omega
 have hfst: ∀ r ∈ rsOf N0 E,∀ j,nm (padTo (putsC C ps) T) r.N j=nm (padTo C T) r.N j:=by
   intro r hr j
   have hb:=hsnd.fst r hr
   rw [padTo_length] at hb
   rw [nm_pad _ _ _ _ hb.2,nm_pad _ _ _ _ hb.2,key _ hb.1 (fun hu=>(hun _ hu).2.2.1 ⟨r,hr,rfl⟩)]
 have hsec: ∀ s,IsSec (padTo C T) (rsOf N0 E) s→ ∀ q,nm (padTo (putsC C ps) T) s q=nm (padTo C T) s q:=by
   intro s hs q
   have hb:=hsnd.sec s hs
   rw [padTo_length] at hb
   rw [nm_pad _ _ _ _ hb.2,nm_pad _ _ _ _ hb.2,key _ hb.1 (fun hu=>(hun _ hu).2.2.2.1 hs)]
 refine h.change ps (fun x hx=> ?_) (fun n hn x hx e=> ?_) ⟨fun r hr j _=>by rw [hfst r hr j];exact SameN.refl _,fun s hs q _=>by rw [hsec s hs q];exact SameN.refl _⟩ (fun n hn=> ?_) (fun n hn=> ?_) (fun n hn hT=> ?_) (fun r hr j hj hm=> ?_) (fun s hs q hq hm=> ?_)
 · rcases hp x hx with ⟨p,hp4,rfl⟩ | ⟨hU,h64⟩
   · exact ⟨by simp only;omega,by simp only;omega,by simp only;omega,partOf_length k p hk (by omega)⟩
   · have:=hun _ hU;exact ⟨this.1,by omega,by omega,h64⟩
 · have hb:=hsnd.blk n hn
   rcases hp x hx with ⟨p,hp4,rfl⟩ | ⟨hU,_⟩
   · simp only at e;omega
   · rw [e] at hU;exact (hun _ hU).2.2.2.2 hn
 · rcases hcount n hn with e | e
   · rw [e];exact hsnd.cnt n hn
   · rw [e];exact cnt n hn
 · rcases hcount n hn with e | e
   · rw [e];exact hsnd.top n hn
   · rw [e];exact top n hn
 · rcases hcount n hn with e | e
   · rw [e];exact hsnd.none n hn (by rw [padTo_length];exact hT)
   · rw [e];exact none n hn hT
 · rw [hfst r hr j] at hm ⊢
   have hb:=hsnd.sec _ ⟨r,hr,j,hj,by omega,rfl⟩
   have hT:=h.file.most
   rw [padTo_length] at hb
   rcases hcount (nm (padTo C T) r.N j%32768) (by omega) with e | e
   · rw [e];exact hsnd.mark1 r hr j hj hm
   · rw [e];exact m1 r hr j hj hm
 · rw [hsec s hs q] at hm ⊢
   have hb:=hsnd.blk _ ⟨s,hs,q,hq,by omega,rfl⟩
   have hT:=h.file.most
   rw [padTo_length] at hb
   rcases hcount (nm (padTo C T) s q%32768) (by omega) with e | e
   · rw [e];exact hsnd.mark2 s hs q hq hm
   · rw [e];exact m2 s hs q hq hm
theorem Ok.marks {D:DiskR} (h:Ok C T N0 E D) (ps:List (Nat × Clus))
   (hp: ∀ x ∈ ps,(IsFst (rsOf N0 E) x.1∨IsSec (padTo C T) (rsOf N0 E) x.1)∧x.2.length=64∧(∀ q,q<32→SameN (num x.2 (2*q)) (nm (padTo C T) x.1 q))∧
     ∀ q,q<32→32768≤num x.2 (2*q)→countOf (padTo C T) (nm (padTo C T) x.1 q%32768)=1):Ok (putsC C ps) T N0 E D:=by
 have h7:=h.file.seven
 have hsnd:=h.sound
 have hlo: ∀ x ∈ ps,6≤x.1∧x.1<T:=by
   intro x hx
   rcases (hp x hx).1 with ⟨r,hr,e⟩ | hs
   · have:=hsnd.fst r hr
     rw [padTo_length] at this
     omega
   · have:=hsnd.sec _ hs
     rw [padTo_length] at this
     exact this
 have hcount: ∀ n,n<256→countOf (padTo (putsC C ps) T) n=countOf (padTo C T) n:=by
   intro n hn
   rw [countOf_pad _ _ _ (by omega) hn,countOf_pad _ _ _ (by omega) hn,vw_puts_none _ ps C (fun x hx e=>by have:=hlo x hx;omega)]
 have hnum: ∀ t,t<T→(∀ q,q<32→nm (padTo (putsC C ps) T) t q=nm (padTo C T) t q)∨((∀ q,q<32→SameN (nm (padTo (putsC C ps) T) t q) (nm (padTo C T) t q))∧ ∀ q,q<32→32768≤nm (padTo (putsC C ps) T) t q→countOf (padTo C T) (nm (padTo C T) t q%32768)=1):=by
   intro t ht
   rcases vw_puts t ps C with e | ⟨x,hx,e1,e2⟩
   · exact Or.inl fun q _=>by rw [nm_pad _ _ _ _ ht,nm_pad _ _ _ _ ht,e]
   · obtain ⟨_,_,h3,h4⟩:=hp x hx
     rw [e1] at h3 h4
     refine Or.inr ⟨fun q hq=> ?_,fun q hq hm=> ?_⟩
     · rw [nm_pad (putsC C ps) _ _ _ ht,e2];exact h3 q hq
     · rw [nm_pad (putsC C ps) _ _ _ ht,e2] at hm
       exact h4 q hq hm
 have hsame: ∀ t,t<T→ ∀ q,q<32→SameN (nm (padTo (putsC C ps) T) t q) (nm (padTo C T) t q):=by
   intro t ht q hq
   rcases hnum t ht with e | e
   · rw [e q hq];exact SameN.refl _
   · exact e.1 q hq
 have hT:=h.file.most
 refine h.change ps (fun x hx=> ?_) (fun n hn x hx e=> ?_) ⟨fun r hr j hj=> ?_,fun s hs q hq=> ?_⟩ (fun n hn=>by rw [hcount n hn];exact hsnd.cnt n hn) (fun n hn=>by rw [hcount n hn];exact hsnd.top n hn) (fun n hn hT=>by rw [hcount n hn];exact hsnd.none n hn (by rw [padTo_length];exact hT)) (fun r hr j hj hm=> ?_) (fun s hs q hq hm=> ?_)
 · have:=hlo x hx
   exact ⟨this.2,by omega,by omega,(hp x hx).2.1⟩
 · rcases (hp x hx).1 with hf | hs
   · rw [e] at hf;exact hsnd.fb n hf hn
   · rw [e] at hs;exact hsnd.sb n hs hn
 · have hb:=hsnd.fst r hr
   rw [padTo_length] at hb
   exact hsame _ hb.2 j hj
 · have hb:=hsnd.sec s hs
   rw [padTo_length] at hb
   exact hsame _ hb.2 q hq
 · have hb:=hsnd.fst r hr
   rw [padTo_length] at hb
   have hsm:=hsame _ hb.2 j (by omega)
   have h0:nm (padTo C T) r.N j≠0:=fun e=>by have:=hsm.1.2 e;omega
   have hb2:=hsnd.sec _ ⟨r,hr,j,hj,h0,rfl⟩
   rw [padTo_length] at hb2
   rw [hsm.2,hcount _ (by omega)]
   rcases hnum _ hb.2 with e | e
   · rw [e j (by omega)] at hm;exact hsnd.mark1 r hr j hj hm
   · exact e.2 j (by omega) hm
 · have hb:=hsnd.sec s hs
   rw [padTo_length] at hb
   have hsm:=hsame _ hb.2 q hq
   have h0:nm (padTo C T) s q≠0:=fun e=>by have:=hsm.1.2 e;omega
   have hb2:=hsnd.blk _ ⟨s,hs,q,hq,h0,rfl⟩
   rw [padTo_length] at hb2
   rw [hsm.2,hcount _ (by omega)]
   rcases hnum _ hb.2 with e | e
   · rw [e q hq] at hm;exact hsnd.mark2 s hs q hq hm
   · exact e.2 q hq hm
theorem Ok.longer {D:DiskR} (h:Ok C T N0 E D) (T':Nat) (hT:T≤T') (hT':T'≤256):Ok (putsC C [(0,headBytes T' N0)]) T' N0 E D:=by
 have h6:=h.file.six
 have h7:=h.file.seven
 have hle:=h.file.le
 have hsnd:=h.sound
 have hF:putsC C [(0,headBytes T' N0)]=putC C (0,headBytes T' N0):=rfl
 have hv:=vw_putC C (0,headBytes T' N0)
 have hlen:=putC_length C (0,headBytes T' N0)
 rw [hF]
 have hvw: ∀ t,t≠0→vw (putC C (0,headBytes T' N0)) t=vw C t:=fun t ht=>by rw [hv,if_neg (fun e=>ht e.symm)]
 have hfile:FileE (putC C (0,headBytes T' N0)) T' N0 E:=by
   refine ⟨putsC_lens [(0,headBytes T' N0)] C h.file.lens (fun x hx=>by rw [List.mem_singleton.1 hx];exact headBytes_length _ _),by omega,by simp only at hlen;omega,by omega,hT',h.file.n0,?_,?_,h.file.ents⟩
   · have:=hv 0
     rw [if_pos rfl,vw_at (by omega)] at this
     exact this
   · have:=hvw 5 (by omega)
     rw [vw_at (by omega),vw_at (by omega)] at this
     rw [this];exact h.file.list
 have hnm: ∀ t,6≤t→t<T→ ∀ q,nm (padTo (putC C (0,headBytes T' N0)) T') t q=nm (padTo C T) t q:=fun t h1 h2 q=>by
   rw [nm_pad _ _ _ _ (by omega),nm_pad _ _ _ _ h2,hvw t (by omega)]
 have hcount: ∀ n,n<256→countOf (padTo (putC C (0,headBytes T' N0)) T') n=countOf (padTo C T) n:=fun n hn=>by
   rw [countOf_pad _ _ _ (by omega) hn,countOf_pad _ _ _ (by omega) hn,hvw _ (by omega)]
 have hshape:Shape (padTo C T) (padTo (putC C (0,headBytes T' N0)) T') (rsOf N0 E):=by
   refine ⟨fun r hr j _=> ?_,fun s hs q _=> ?_⟩
   · have hb:=hsnd.fst r hr
     rw [padTo_length] at hb
     rw [hnm _ hb.1 hb.2];exact SameN.refl _
   · have hb:=hsnd.sec s hs
     rw [padTo_length] at hb
     rw [hnm _ hb.1 hb.2];exact SameN.refl _
 refine ⟨hfile,hsnd.shape hshape (by rw [padTo_length,padTo_length];exact hT) (by rw [padTo_length];exact hT') (fun n hn=>by rw [hcount n hn];exact hsnd.cnt n hn) (fun n hn=>by rw [hcount n hn];exact hsnd.top n hn) (fun n hn hl=>by rw [padTo_length] at hl;rw [hcount n hn];exact hsnd.none n hn (by rw [padTo_length];omega)) (fun r hr j hj hm=> ?_) (fun s hs q hq hm=> ?_),?_⟩
 · have hb:=hsnd.fst r hr
   rw [padTo_length] at hb
   rw [hnm _ hb.1 hb.2] at hm ⊢
   have hb2:=hsnd.sec _ ⟨r,hr,j,hj,by omega,rfl⟩
   rw [padTo_length] at hb2
   rw [hcount _ (by omega)]
   exact hsnd.mark1 r hr j hj hm
 · have hb:=hsnd.sec s hs
   rw [padTo_length] at hb
   rw [hnm _ hb.1 hb.2] at hm ⊢
   have hb2:=hsnd.blk _ ⟨s,hs,q,hq,by omega,rfl⟩
   rw [padTo_length] at hb2
   rw [hcount _ (by omega)]
   exact hsnd.mark2 s hs q hq hm
 · rw [← h.holds]
   refine dskOf_same fun r hr=>hshape.content (fun n hn=> ?_) hr
   have hb:=hsnd.blk n hn
   rw [padTo_length] at hb
   rw [cl_padTo _ _ _ (by omega),cl_padTo _ _ _ hb.2,hvw n (by omega)]
end
end Go.Proofs.YtknjjjenklfeoaaGreatDoor
