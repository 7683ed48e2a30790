import Derived.Test.YtknjjjenklfeoaaGreatDoorC06
set_option maxHeartbeats 8000000
set_option maxRecDepth 100000
namespace Go.Proofs.YtknjjjenklfeoaaGreatDoor
abbrev Tells:=List (Nat × Nat)
def inTells (L:List Clus) (t:Nat):Nat→Nat→Tells
 | 0,_=>[]
 | m+1,k=>(if num (cl L t) (2*k)=0 then [] else [(num (cl L t) (2*k)%32768,3)])++inTells L t m (k+1)
def outTells (L:List Clus) (t:Nat):Nat→Nat→Tells
 | 0,_=>[]
 | m+1,i=>(if num (cl L t) (2*i)=0 then [] else (num (cl L t) (2*i)%32768,2) :: inTells L (num (cl L t) (2*i)%32768) 32 0)++outTells L t m (i+1)
def treeTells (L:List Clus) (t:Nat):Tells:=(t,1) :: outTells L t 32 0
structure OkT (L:List Clus) (ts:Tells):Prop where
 lo: ∀ x ∈ ts,6≤x.1∧x.1<L.length∧x.2≠0
 kind: ∀ x ∈ ts,∀ y ∈ ts,x.1=y.1→x.2=y.2
 once: ∀ n,ts.count (n,1)≤1
theorem OkT.pre {L:List Clus} {a b:Tells} (h:OkT L (a++b)):OkT L a:=
 ⟨fun x hx=>h.lo x (by simp [hx]),fun x hx y hy=>h.kind x (by simp [hx]) y (by simp [hy]),fun n=>by have:=h.once n;rw [List.count_append] at this;omega⟩
structure Told (L:List Clus) (rs:List RootR) (b:Int) (base:Nat→Nat) (ts:Tells) (R:FileR):Prop where
 hL:R.L=L
 hR:R.roots=rs
 hB:R.bad=b
 tl:R.told.length=256
 ul:R.used.length=256
 told: ∀ x ∈ ts,R.told.getD x.1 0=x.2
 none: ∀ n,(∀ x ∈ ts,x.1≠n)→R.told.getD n 0=0
 used: ∀ n,n<256→R.used.getD n 0=base n+(ts.map (·.1)).count n
theorem getD_setN (T:List Nat) (k n i:Nat) (hk:k<T.length):(T.set k n).getD i 0=if k=i then n else T.getD i 0:=by
 rw [List.getD_eq_getElem?_getD,List.getElem?_set]
 by_cases h:k=i
 · subst h;rw [if_pos rfl,if_pos hk,if_pos rfl];rfl
 · rw [if_neg h,if_neg h,List.getD_eq_getElem?_getD]
theorem Told.step {L:List Clus} {rs:List RootR} {b:Int} {base:Nat→Nat} {ts:Tells} {R:FileR} (h:Told L rs b base ts R) (hLL:L.length≤256) (n kind at':Nat) (ok:OkT L (ts++[(n,kind)])):
   (tell R n kind at').1=true∧Told L rs b base (ts++[(n,kind)]) (tell R n kind at').2:=by
 obtain ⟨h6,hn,hk0⟩:=ok.lo (n,kind) (by simp)
 simp only at h6 hn hk0
 have hno:noTell R n kind=false:=by
   have e1:decide (n<6)=false:=by simp;omega
   have e2:decide (R.L.length≤n)=false:=by rw [h.hL];simp;omega
   unfold noTell
   rw [e1,e2,Bool.false_or,Bool.false_or]
   by_cases hx: ∃ x ∈ ts,x.1=n
   · obtain ⟨x,hx,he⟩:=hx
     have h1:=h.told x hx
     rw [he] at h1
     have h2:=ok.kind x (by simp [hx]) (n,kind) (by simp) he
     simp only at h2
     rw [h1,h2]
     have h3:kind≠1:=by
       intro hk
       have h4:=ok.once n
       rw [List.count_append,hk] at h4
       have h5:0<ts.count (n,1):=by
         rw [List.count_pos_iff]
         have:x=(n,1):=by rw [← he,← hk,← h2]
         rw [← this];exact hx
       simp at h4
       omega
     simp [h3]
   · have h1:=h.none n (fun x hx' e=>hx ⟨x,hx',e⟩)
     rw [h1];rfl
 unfold tell
 rw [hno]
 refine ⟨rfl,⟨h.hL,h.hR,h.hB,by simp [h.tl],by simp [h.ul],?_,?_,?_⟩⟩
 · intro x hx
   show (R.told.set n kind).getD x.1 0=x.2
   rw [getD_setN _ _ _ _ (by rw [h.tl];omega)]
   by_cases e:n=x.1
   · rw [if_pos e]
     exact ok.kind (n,kind) (by simp) x hx e
   · rw [if_neg e]
     rcases List.mem_append.1 hx with y | y
     · exact h.told x y
     · exact absurd (by rw [List.mem_singleton.1 y]) e
 · intro m hm
   show (R.told.set n kind).getD m 0=0
   rw [getD_setN _ _ _ _ (by rw [h.tl];omega),if_neg (hm (n,kind) (by simp))]
   exact h.none m (fun x hx=>hm x (by simp [hx]))
 · intro m hm
   show (R.used.set n (R.used.getD n 0+1)).getD m 0=_
   rw [getD_setN _ _ _ _ (by rw [h.ul];omega),List.map_append,List.count_append]
   by_cases e:n=m
   · subst e
     rw [if_pos rfl,h.used n hm]
     simp
     omega
   · rw [if_neg e,h.used m hm]
     simp [e]
theorem treeIn_told {L:List Clus} {rs:List RootR} {b:Int} {base:Nat→Nat} (hLL:L.length≤256) (t:Nat): ∀ (m k:Nat) (ts:Tells) (R:FileR),Told L rs b base ts R→OkT L (ts++inTells L t m k)→
   (treeIn t m k R).1=true∧Told L rs b base (ts++inTells L t m k) (treeIn t m k R).2
 | 0,_,ts,R,h,_=>⟨rfl,by rw [inTells,List.append_nil];exact h⟩
 | m+1,k,ts,R,h,ok=>by
   by_cases h0:num (cl R.L t) (2*k)=0
   · rw [treeIn_zero _ _ _ _ h0]
     have h0':num (cl L t) (2*k)=0:=by rw [← h.hL];exact h0
     have e:inTells L t (m+1) k=inTells L t m (k+1):=by rw [inTells,if_pos h0'];rfl
     rw [e] at ok ⊢
     exact treeIn_told hLL t m (k+1) ts R h ok
   · have h0': ¬ num (cl L t) (2*k)=0:=by rw [← h.hL];exact h0
     have e:ts++inTells L t (m+1) k=(ts++[(num (cl L t) (2*k)%32768,3)])++inTells L t m (k+1):=by rw [inTells,if_neg h0',List.append_assoc]
     rw [e] at ok ⊢
     obtain ⟨h1,h2⟩:=h.step hLL (num (cl L t) (2*k)%32768) 3 t ok.pre
     rw [treeIn_yes _ _ _ _ h0 (by rw [h.hL];exact h1),h.hL]
     exact treeIn_told hLL t m (k+1) _ _ h2 ok
theorem treeOut_told {L:List Clus} {rs:List RootR} {b:Int} {base:Nat→Nat} (hLL:L.length≤256) (t:Nat) (hz: ∀ i,1<i→i<32→num (cl L t) (2*i)=0): ∀ (m i:Nat) (ts:Tells) (R:FileR),i+m≤32→Told L rs b base ts R→OkT L (ts++outTells L t m i)→
   (treeOut t m i R).1=true∧Told L rs b base (ts++outTells L t m i) (treeOut t m i R).2
 | 0,_,ts,R,_,h,_=>⟨rfl,by rw [outTells,List.append_nil];exact h⟩
 | m+1,i,ts,R,hm,h,ok=>by
   rw [treeOut,h.hL]
   by_cases h0:num (cl L t) (2*i)=0
   · rw [if_pos h0]
     have e:outTells L t (m+1) i=outTells L t m (i+1):=by rw [outTells,if_pos h0];rfl
     rw [e] at ok ⊢
     exact treeOut_told hLL t hz m (i+1) ts R (by omega) h ok
   · have hi: ¬ 1<i:=fun hi=>h0 (hz i hi (by omega))
     have e:ts++outTells L t (m+1) i=((ts++[(num (cl L t) (2*i)%32768,2)])++inTells L (num (cl L t) (2*i)%32768) 32 0)++outTells L t m (i+1):=by
       rw [outTells,if_neg h0];simp
     rw [e] at ok ⊢
     obtain ⟨h1,h2⟩:=h.step hLL (num (cl L t) (2*i)%32768) 2 t ok.pre.pre
     obtain ⟨h3,h4⟩:=treeIn_told hLL (num (cl L t) (2*i)%32768) 32 0 _ _ h2 ok.pre
     rw [if_neg h0,if_neg hi,if_pos h1,if_pos h3]
     exact treeOut_told hLL t hz m (i+1) _ _ (by omega) h4 ok
theorem tree_told {L:List Clus} {rs:List RootR} {b:Int} {base:Nat→Nat} (hLL:L.length≤256) (r:RootR) (hz: ∀ i,1<i→i<32→num (cl L r.N) (2*i)=0) (ts:Tells) (R:FileR) (h:Told L rs b base ts R) (ok:OkT L (ts++treeTells L r.N)):
   (tree R r).1=true∧Told L rs b base (ts++treeTells L r.N) (tree R r).2:=by
 have e:ts++treeTells L r.N=(ts++[(r.N,1)])++outTells L r.N 32 0:=by rw [treeTells];simp
 rw [e] at ok ⊢
 obtain ⟨h1,h2⟩:=h.step hLL r.N 1 r.At ok.pre
 unfold tree
 rw [if_pos h1]
 exact treeOut_told hLL r.N hz 32 0 _ _ (by omega) h2 ok
def allTells (L:List Clus) (rs:List RootR):Nat→Nat→Tells
 | 0,_=>[]
 | m+1,i=>treeTells L (rs.getD i ⟨0,0,[]⟩).N++allTells L rs m (i+1)
theorem treesFrom_told {L:List Clus} {rs:List RootR} {b:Int} {base:Nat→Nat} (hLL:L.length≤256) (hz: ∀ r ∈ rs,∀ i,1<i→i<32→num (cl L r.N) (2*i)=0): ∀ (m i:Nat) (ts:Tells) (R:FileR),i+m≤rs.length→Told L rs b base ts R→OkT L (ts++allTells L rs m i)→
   (treesFrom m i R).1=true∧Told L rs b base (ts++allTells L rs m i) (treesFrom m i R).2
 | 0,_,ts,R,_,h,_=>⟨rfl,by rw [allTells,List.append_nil];exact h⟩
 | m+1,i,ts,R,hm,h,ok=>by
   have hr:rootOf R i=rs.getD i ⟨0,0,[]⟩:=by unfold rootOf;rw [h.hR]
   have hmem:rs.getD i ⟨0,0,[]⟩ ∈ rs:=by
     rw [List.getD_eq_getElem?_getD,List.getElem?_eq_getElem (by omega)]
     exact List.getElem_mem _
   have e:ts++allTells L rs (m+1) i=(ts++treeTells L (rs.getD i ⟨0,0,[]⟩).N)++allTells L rs m (i+1):=by rw [allTells,List.append_assoc]
   rw [e] at ok ⊢
   obtain ⟨h1,h2⟩:=tree_told hLL (rs.getD i ⟨0,0,[]⟩) (hz _ hmem) ts R h ok.pre
   rw [treesFrom,hr,if_pos h1]
   exact treesFrom_told hLL hz m (i+1) _ _ (by omega) h2 ok
theorem countsFrom_good {R:FileR}: ∀ (m n:Nat),(∀ j,n≤j→j<n+m→badCount R j=false)→countsFrom R m n= -1
 | 0,_,_=>rfl
 | m+1,n,h=>by
   rw [countsFrom,h n (by omega) (by omega)]
   exact countsFrom_good m (n+1) (fun j h1 h2=>h j (by omega) (by omega))
def base6 (n:Nat):Nat:=used6.getD n 0
theorem used6_length:used6.length=256:=by kernel_rfl
theorem zeros256_length:zeros256.length=256:=by kernel_rfl
theorem base6_eq (n:Nat):base6 n=if n<6 then 1 else 0:=by
 unfold base6
 by_cases h:n<256
 · have: ∀ k:Fin 256,used6.getD k.val 0=if k.val<6 then 1 else 0:=by decide +kernel
   exact this ⟨n,h⟩
 · rw [List.getD_eq_getElem?_getD,List.getElem?_eq_none (by rw [used6_length];omega),if_neg (by omega)];rfl
theorem inTells_mem (L:List Clus) (t:Nat): ∀ (m k j:Nat),k≤j→j<k+m→num (cl L t) (2*j)≠0→(num (cl L t) (2*j)%32768,3) ∈ inTells L t m k
 | 0,_,_,h1,h2,_=>by omega
 | m+1,k,j,h1,h2,hj=>by
   rw [inTells]
   by_cases e:j=k
   · subst e;rw [if_neg hj];simp
   · exact List.mem_append.2 (Or.inr (inTells_mem L t m (k+1) j (by omega) (by omega) hj))
theorem outTells_mem (L:List Clus) (t:Nat): ∀ (m i j:Nat),i≤j→j<i+m→num (cl L t) (2*j)≠0→ ∀ x,(x=(num (cl L t) (2*j)%32768,2)∨x ∈ inTells L (num (cl L t) (2*j)%32768) 32 0)→x ∈ outTells L t m i
 | 0,_,_,h1,h2,_,_,_=>by omega
 | m+1,i,j,h1,h2,hj,x,hx=>by
   rw [outTells]
   by_cases e:j=i
   · subst e;rw [if_neg hj]
     rcases hx with rfl | hx
     · simp
     · simp [hx]
   · exact List.mem_append.2 (Or.inr (outTells_mem L t m (i+1) j (by omega) (by omega) hj x hx))
theorem allTells_mem (L:List Clus) (rs:List RootR): ∀ (m i j:Nat),i≤j→j<i+m→ ∀ x ∈ treeTells L (rs.getD j ⟨0,0,[]⟩).N,x ∈ allTells L rs m i
 | 0,_,_,h1,h2,_,_=>by omega
 | m+1,i,j,h1,h2,x,hx=>by
   rw [allTells]
   by_cases e:j=i
   · subst e;exact List.mem_append.2 (Or.inl hx)
   · exact List.mem_append.2 (Or.inr (allTells_mem L rs m (i+1) j (by omega) (by omega) x hx))
def Right (L:List Clus) (x:Nat):Prop:=x≠0→(32768≤x↔countOf L (x%32768)=1)
def RightTree (L:List Clus) (t:Nat):Prop:= ∀ i,i<2→Right L (num (cl L t) (2*i))∧(num (cl L t) (2*i)≠0→ ∀ k,k<32→Right L (num (cl L (num (cl L t) (2*i)%32768)) (2*k)))
structure ExactL (L:List Clus) (rs:List RootR):Prop where
 len:L.length≤256
 six:6≤L.length
 ok:OkT L (allTells L rs rs.length 0)
 zero: ∀ r ∈ rs,∀ i,1<i→i<32→num (cl L r.N) (2*i)=0
 cnt: ∀ n,n<256→countOf L n=base6 n+((allTells L rs rs.length 0).map (·.1)).count n
 top: ∀ n,n<256→countOf L n<255
 mark: ∀ i,i<rs.length→RightTree L (rs.getD i ⟨0,0,[]⟩).N
section
variable {L:List Clus} {rs:List RootR} {b:Int} {R:FileR}
theorem ExactL.used (h:ExactL L rs) (hT:Told L rs b base6 (allTells L rs rs.length 0) R) (n:Nat) (hn:n<256):R.used.getD n 0=countOf R.L n:=by
 rw [hT.used n hn,hT.hL,h.cnt n hn]
theorem ExactL.none (h:ExactL L rs) (n:Nat) (hn:n<256) (hL:L.length≤n):countOf L n=0:=by
 rw [h.cnt n hn,base6_eq,if_neg (by have:=h.six;omega),Nat.zero_add,List.count_eq_zero]
 intro hm
 obtain ⟨x,hx,rfl⟩:=List.mem_map.1 hm
 have:=(h.ok.lo x hx).2.1
 omega
theorem ExactL.counts (h:ExactL L rs) (hT:Told L rs b base6 (allTells L rs rs.length 0) R):countsFrom R 256 0= -1:=by
 refine countsFrom_good 256 0 fun j _ hj=> ?_
 have h1:=h.used hT j (by omega)
 have h2:=h.top j (by omega)
 unfold badCount usedOf
 rw [h1,hT.hL]
 have e1:decide (countOf L j<countOf L j)=false:=by simp
 have e2:(countOf L j == 255)=false:=by rw [beq_eq_false_iff_ne];omega
 rw [e1,e2,Bool.and_false,Bool.false_or,Bool.false_or]
 by_cases hl:L.length≤j
 · rw [h.none j (by omega) hl];simp
 · rw [decide_eq_false hl];rfl
theorem right_not_bad (hu: ∀ n,n<256→R.used.getD n 0=countOf R.L n) (x:Nat) (hx0:x≠0) (hx:x%32768<256) (hr:Right R.L x):markBad R x=false∧markNone R x=0:=by
 have h:=hr hx0
 have h1:=hu _ hx
 unfold markBad markNone
 by_cases hm:32768≤x
 · rw [if_pos hm,if_pos hm,h1,h.1 hm];exact ⟨rfl,rfl⟩
 · rw [if_neg hm,if_neg hm,h1,if_neg (fun e=>hm (h.2 e))];exact ⟨rfl,rfl⟩
theorem markedIn_right (hu: ∀ n,n<256→R.used.getD n 0=countOf R.L n) (t:Nat) (hx: ∀ k,k<32→num (cl R.L t) (2*k)≠0→num (cl R.L t) (2*k)%32768<256∧Right R.L (num (cl R.L t) (2*k))): ∀ (m k acc:Nat),k+m≤32→markedIn R t m k acc=some acc
 | 0,_,_,_=>rfl
 | m+1,k,acc,hm=>by
   rw [markedIn]
   by_cases h0:num (cl R.L t) (2*k)=0
   · rw [if_pos h0];exact markedIn_right hu t hx m (k+1) acc (by omega)
   · obtain ⟨h1,h2⟩:=hx k (by omega) h0
     obtain ⟨h3,h4⟩:=right_not_bad hu _ h0 h1 h2
     rw [if_neg h0,h3,h4]
     exact markedIn_right hu t hx m (k+1) _ (by omega)
theorem markedOut_right (hu: ∀ n,n<256→R.used.getD n 0=countOf R.L n) (t:Nat) (hx: ∀ i,i<2→num (cl R.L t) (2*i)≠0→num (cl R.L t) (2*i)%32768<256∧Right R.L (num (cl R.L t) (2*i))∧
   ∀ k,k<32→num (cl R.L (num (cl R.L t) (2*i)%32768)) (2*k)≠0→num (cl R.L (num (cl R.L t) (2*i)%32768)) (2*k)%32768<256∧Right R.L (num (cl R.L (num (cl R.L t) (2*i)%32768)) (2*k))): ∀ (m i acc:Nat),i+m≤2→markedOut R t m i acc=(-1,acc)
 | 0,_,_,_=>rfl
 | m+1,i,acc,hm=>by
   rw [markedOut]
   by_cases h0:num (cl R.L t) (2*i)=0
   · rw [if_pos h0];exact markedOut_right hu t hx m (i+1) acc (by omega)
   · obtain ⟨h1,h2,h5⟩:=hx i (by omega) h0
     obtain ⟨h3,h4⟩:=right_not_bad hu _ h0 h1 h2
     rw [if_neg h0,h3,h4,Nat.add_zero,markedIn_right hu _ h5 32 0 acc (by omega)]
     exact markedOut_right hu t hx m (i+1) acc (by omega)
theorem ExactL.marked (h:ExactL L rs) (hT:Told L rs b base6 (allTells L rs rs.length 0) R) (i:Nat) (hi:i<rs.length):marked R (rootOf R i)=(-1,0):=by
 have hu:=fun n hn=>h.used hT n hn
 have hr:rootOf R i=rs.getD i ⟨0,0,[]⟩:=by unfold rootOf;rw [hT.hR]
 unfold Go.Proofs.YtknjjjenklfeoaaGreatDoor.marked
 refine markedOut_right hu _ (fun j hj h0=> ?_) 2 0 0 (by omega)
 rw [hr] at h0 ⊢
 rw [hT.hL] at h0 ⊢
 have hm:=h.mark i hi j hj
 have hin: ∀ x ∈ treeTells L (rs.getD i ⟨0,0,[]⟩).N,x.1<256:=fun x hx=>by
   have:=(h.ok.lo x (allTells_mem L rs rs.length 0 i (by omega) (by omega) x hx)).2.1
   have:=h.len
   omega
 refine ⟨hin (_,2) (List.mem_cons.2 (Or.inr (outTells_mem L _ 32 0 j (by omega) (by omega) h0 _ (Or.inl rfl)))),hm.1,fun k hk hy=>⟨?_,hm.2 h0 k hk⟩⟩
 exact hin (_,3) (List.mem_cons.2 (Or.inr (outTells_mem L _ 32 0 j (by omega) (by omega) h0 _ (Or.inr (inTells_mem L _ 32 0 k (by omega) (by omega) hy)))))
theorem ExactL.marks (h:ExactL L rs) (hT:Told L rs b base6 (allTells L rs rs.length 0) R): ∀ (m i:Nat),i+m≤rs.length→marksFrom R m i (-1)= -1
 | 0,_,_=>rfl
 | m+1,i,hm=>by
   rw [marksFrom,if_pos (by decide),h.marked hT i (by omega)]
   exact h.marks hT m (i+1) (by omega)
theorem cntTo_zero (p:Nat→Bool): ∀ k,(∀ j,j<k→p j=false)→cntTo p k=0
 | 0,_=>rfl
 | k+1,h=>by rw [cntTo,cntTo_zero p k (fun j hj=>h j (by omega)),h k (by omega)];rfl
theorem ExactL.exact (h:ExactL L rs) (hT:Told L rs b base6 (allTells L rs rs.length 0) R):exactB R=true:=by
 have hu:=fun n hn=>h.used hT n hn
 have hl:=h.len
 have e1:cntTo (lostB R) R.L.length=0:=cntTo_zero _ _ fun j hj=>by
   unfold lostB
   rw [hu j (by rw [hT.hL] at hj;omega)]
   by_cases hc:countOf R.L j=0
   · rw [hc];rfl
   · rw [show (countOf R.L j == 0)=false by rw [beq_eq_false_iff_ne];exact hc];rfl
 have e2:cntTo (overB R) R.L.length=0:=cntTo_zero _ _ fun j hj=>by
   unfold overB
   rw [hu j (by rw [hT.hL] at hj;omega)]
   simp
 have e3: ∀ k,k≤rs.length→unmTo R k=0:=by
   intro k
   induction k with
   | zero=>intro _;rfl
   | succ k ih=>
     intro hk
     rw [unmTo,ih (by omega),h.marked hT k (by omega)]
     rfl
 unfold exactB stateOf
 simp only [e1,e2,hT.hR,e3 rs.length (Nat.le_refl _)]
 rfl
theorem look_exact {file:List Clus} (hh:headGood file=true) (hl:(listOf (R1of file)).1=true) (hx:ExactL (R1of file).L (listOf (R1of file)).2):
   (look file).bad= -1∧(look file).L=(R1of file).L∧(look file).roots=(listOf (R1of file)).2∧exactB (look file)=true∧Low 1000 (look file):=by
 have T0:Told (R1of file).L (listOf (R1of file)).2 (-1) base6 [] (R2of file):=
   ⟨rfl,rfl,rfl,zeros256_length,used6_length,fun x hx=>by simp at hx,fun n _=>by
     show zeros256.getD n 0=0
     unfold zeros256
     rw [List.getD_eq_getElem?_getD,List.getElem?_replicate]
     split <;> rfl,fun n _=>rfl⟩
 obtain ⟨h1,h2⟩:=treesFrom_told hx.len hx.zero (listOf (R1of file)).2.length 0 [] (R2of file) (by omega) T0 hx.ok
 rw [List.nil_append] at h2
 have h1':(R3of file).1=true:=h1
 have h2':Told (R1of file).L (listOf (R1of file)).2 (-1) base6 (allTells (R1of file).L (listOf (R1of file)).2 (listOf (R1of file)).2.length 0) (R3of file).2:=h2
 have e:look file={ (R3of file).2 with bad:=marksFrom (R3of file).2 (R3of file).2.roots.length 0 (countsFrom (R3of file).2 256 0) }:=by
   unfold look
   rw [if_neg (by rw [hh];decide),if_neg (by rw [hl];decide),if_neg (by rw [h1'];decide)]
 clear h1 h2 T0 h1'
 generalize R3of file=Q at h2' e
 have h3:Told (R1of file).L (listOf (R1of file)).2 (-1) base6 (allTells (R1of file).L (listOf (R1of file)).2 (listOf (R1of file)).2.length 0) (look file):=by
   rw [e,hx.counts h2',h2'.hR,hx.marks h2' _ 0 (by omega)]
   exact ⟨h2'.hL,h2'.hR,rfl,h2'.tl,h2'.ul,h2'.told,h2'.none,h2'.used⟩
 refine ⟨h3.hB,h3.hL,h3.hR,hx.exact h3,fun n=> ?_⟩
 by_cases hn:n<256
 · rw [hx.used h3 n hn,h3.hL]
   have:=hx.top n hn
   omega
 · rw [List.getD_eq_getElem?_getD,List.getElem?_eq_none (by rw [h3.ul];omega)]
   exact Nat.zero_le _
end
theorem inTells_same {L L':List Clus} {t:Nat} (h:cl L' t=cl L t): ∀ m k,inTells L' t m k=inTells L t m k
 | 0,_=>rfl
 | m+1,k=>by rw [inTells,inTells,h,inTells_same h m (k+1)]
theorem outTells_same {L L':List Clus} {t:Nat} (h:cl L' t=cl L t): ∀ m i,(∀ x ∈ outTells L t m i,x.2=2→cl L' x.1=cl L x.1)→outTells L' t m i=outTells L t m i
 | 0,_,_=>rfl
 | m+1,i,hx=>by
   rw [outTells] at hx
   rw [outTells,outTells,h,outTells_same h m (i+1) (fun x hm=>hx x (List.mem_append.2 (Or.inr hm)))]
   by_cases h0:num (cl L t) (2*i)=0
   · rw [if_pos h0,if_pos h0]
   · rw [if_neg h0] at hx
     rw [if_neg h0,if_neg h0,inTells_same (hx (num (cl L t) (2*i)%32768,2) (by simp) rfl)]
structure Alike (L L':List Clus) (ts:Tells):Prop where
 len:L'.length=L.length
 six: ∀ t,t<6→cl L' t=cl L t
 tab: ∀ x ∈ ts,(x.2=1∨x.2=2)→cl L' x.1=cl L x.1
theorem treeTells_same {L L':List Clus} {t:Nat} (h: ∀ x ∈ treeTells L t,(x.2=1∨x.2=2)→cl L' x.1=cl L x.1):treeTells L' t=treeTells L t:=by
 unfold treeTells at h ⊢
 rw [outTells_same (h (t,1) (by simp) (Or.inl rfl)) 32 0 (fun x hx h2=>h x (by simp [hx]) (Or.inr h2))]
theorem allTells_same {L L':List Clus} {rs:List RootR}: ∀ m i,(∀ x ∈ allTells L rs m i,(x.2=1∨x.2=2)→cl L' x.1=cl L x.1)→allTells L' rs m i=allTells L rs m i
 | 0,_,_=>rfl
 | m+1,i,h=>by
   rw [allTells] at h
   rw [allTells,allTells,treeTells_same (fun x hx=>h x (List.mem_append.2 (Or.inl hx))),allTells_same m (i+1) (fun x hx=>h x (List.mem_append.2 (Or.inr hx)))]
theorem countOf_same {L L':List Clus} (h: ∀ t,t<6→cl L' t=cl L t) (n:Nat) (hn:n<256):countOf L' n=countOf L n:=by
 unfold countOf
 rw [h (1+n / 64) (by omega)]
theorem first_told (L:List Clus) (rs:List RootR) (i:Nat) (hi:i<rs.length):((rs.getD i ⟨0,0,[]⟩).N,1) ∈ allTells L rs rs.length 0:=
 allTells_mem L rs rs.length 0 i (by omega) (by omega) _ (by unfold treeTells;simp)
theorem second_told (L:List Clus) (rs:List RootR) (i:Nat) (hi:i<rs.length) (j:Nat) (hj:j<32) (h0:num (cl L (rs.getD i ⟨0,0,[]⟩).N) (2*j)≠0):(num (cl L (rs.getD i ⟨0,0,[]⟩).N) (2*j)%32768,2) ∈ allTells L rs rs.length 0:=
 allTells_mem L rs rs.length 0 i (by omega) (by omega) _ (List.mem_cons.2 (Or.inr (outTells_mem L _ 32 0 j (by omega) (by omega) h0 _ (Or.inl rfl))))
theorem block_told (L:List Clus) (rs:List RootR) (i:Nat) (hi:i<rs.length) (j:Nat) (hj:j<32) (h0:num (cl L (rs.getD i ⟨0,0,[]⟩).N) (2*j)≠0) (k:Nat) (hk:k<32) (h1:num (cl L (num (cl L (rs.getD i ⟨0,0,[]⟩).N) (2*j)%32768)) (2*k)≠0):
   (num (cl L (num (cl L (rs.getD i ⟨0,0,[]⟩).N) (2*j)%32768)) (2*k)%32768,3) ∈ allTells L rs rs.length 0:=
 allTells_mem L rs rs.length 0 i (by omega) (by omega) _ (List.mem_cons.2 (Or.inr (outTells_mem L _ 32 0 j (by omega) (by omega) h0 _ (Or.inr (inTells_mem L _ 32 0 k (by omega) (by omega) h1)))))
theorem getD_of_mem {rs:List RootR} {r:RootR} (h:r ∈ rs): ∃ i,i<rs.length∧rs.getD i ⟨0,0,[]⟩=r:=by
 obtain ⟨i,hi,e⟩:=List.mem_iff_getElem.1 h
 exact ⟨i,hi,by rw [List.getD_eq_getElem?_getD,List.getElem?_eq_getElem hi,e];rfl⟩
theorem ExactL.alike {L L':List Clus} {rs:List RootR} (h:ExactL L rs) (ha:Alike L L' (allTells L rs rs.length 0)):ExactL L' rs:=by
 have e:=allTells_same rs.length 0 ha.tab
 have hc:=fun n hn=>countOf_same ha.six n hn
 have hl:=h.len
 have hf: ∀ i,i<rs.length→cl L' (rs.getD i ⟨0,0,[]⟩).N=cl L (rs.getD i ⟨0,0,[]⟩).N:=fun i hi=>ha.tab _ (first_told L rs i hi) (Or.inl rfl)
 refine ⟨by rw [ha.len];exact h.len,by rw [ha.len];exact h.six,?_,?_,?_,?_,?_⟩
 · rw [e]
   exact ⟨fun x hx=>by rw [ha.len];exact h.ok.lo x hx,h.ok.kind,h.ok.once⟩
 · intro r hr i h1 h2
   obtain ⟨j,hj,rfl⟩:=getD_of_mem hr
   rw [hf j hj]
   exact h.zero _ hr i h1 h2
 · intro n hn
   rw [hc n hn,e]
   exact h.cnt n hn
 · intro n hn
   rw [hc n hn]
   exact h.top n hn
 · intro i hi j hj
   rw [hf i hi]
   have hm:=h.mark i hi j hj
   refine ⟨fun h0=> ?_,fun h0 k hk h1=> ?_⟩
   · have hb:=(h.ok.lo _ (second_told L rs i hi j (by omega) h0)).2.1
     simp only at hb
     rw [hc _ (by omega)]
     exact hm.1 h0
   · have hs:=ha.tab _ (second_told L rs i hi j (by omega) h0) (Or.inr rfl)
     simp only at hs
     rw [hs] at h1 ⊢
     have hb:=(h.ok.lo _ (block_told L rs i hi j (by omega) h0 k hk h1)).2.1
     simp only at hb
     rw [hc _ (by omega)]
     exact hm.2 h0 k hk h1
theorem ExactL.setBlock {L:List Clus} {rs:List RootR} (h:ExactL L rs) (n:Nat) (hn:(n,3) ∈ allTells L rs rs.length 0) (data:Clus):ExactL (L.set n data) rs:=by
 have hb:=h.ok.lo _ hn
 simp only at hb
 refine h.alike ⟨by simp,fun t ht=> ?_,fun x hx h2=> ?_⟩
 · unfold cl
   rw [List.getD_eq_getElem?_getD,List.getElem?_set,if_neg (by omega),← List.getD_eq_getElem?_getD]
 · have hne:n≠x.1:=by
     intro e
     have:=h.ok.kind _ hn x hx e
     simp only at this
     omega
   unfold cl
   rw [List.getD_eq_getElem?_getD,List.getElem?_set,if_neg hne,← List.getD_eq_getElem?_getD]
end Go.Proofs.YtknjjjenklfeoaaGreatDoor
namespace Go.Proofs.YtknjjjenklfeoaaGreatDoor
open Go.RowKit
def bFile (parts:Array (Nat × Value)):Sem Value:=Instr.build 93 parts
theorem build_file (parts:Array (Nat × Value)):Instr.build 93 parts=bFile parts:=rfl
theorem run_bFile (w:World):(bFile #[(4,.int .i64 (-1))]).run Tryz.prog w= .ok (.agg (fileCells (.slice none 0 0) (.slice none 0 0) R0).toArray) w:=by kernel_rfl
theorem listFrom_ok (c:Clus): ∀ m i over Q,(∀ r ∈ Q,r.N<65536∧r.At<65536)→(∀ r ∈ (listFrom c m i over Q).2,r.N<65536∧r.At<65536)∧Q.length≤(listFrom c m i over Q).2.length∧(listFrom c m i over Q).2.length≤Q.length+m
 | 0,_,_,Q,h=>⟨h,Nat.le_refl _,Nat.le_refl _⟩
 | m+1,i,over,Q,h=>by
   rw [listFrom]
   split
   · split
     · obtain ⟨a,b,d⟩:=listFrom_ok c m (i+1) true Q h;exact ⟨a,b,by omega⟩
     · exact ⟨h,Nat.le_refl _,by show Q.length≤_;omega⟩
   · split
     · exact ⟨h,Nat.le_refl _,by show Q.length≤_;omega⟩
     · split
       · exact ⟨h,Nat.le_refl _,by show Q.length≤_;omega⟩
       · obtain ⟨a,b,d⟩:=listFrom_ok c m (i+1) over (Q++[⟨num c (16*i),5,(nameOf c (16*i+2)).1⟩]) (by
           intro r hr
           rcases List.mem_append.1 hr with x | x
           · exact h r x
           · rw [List.mem_singleton.1 x];exact ⟨num_lt _ _,by show 5<65536;omega⟩)
         simp only [List.length_append,List.length_singleton] at b d
         exact ⟨a,by omega,by omega⟩
theorem R1_roots (file:List Clus): ∀ r ∈ (R1of file).roots,r.N<65536∧r.At<65536:=by
 intro r hr
 rw [List.mem_singleton.1 hr]
 exact ⟨num_lt _ _,by show 0<65536;omega⟩
theorem R2_roots (file:List Clus):(∀ r ∈ (R2of file).roots,r.N<65536∧r.At<65536)∧1≤(R2of file).roots.length∧(R2of file).roots.length≤5:=by
 have h:=listFrom_ok (cl (R1of file).L 5) 4 0 false (R1of file).roots (R1_roots file)
 have e:(R1of file).roots.length=1:=rfl
 rw [e] at h
 exact ⟨h.1,h.2.1,h.2.2⟩
theorem rootOf_mem {R:FileR} {i:Nat} (h:i<R.roots.length):rootOf R i ∈ R.roots:=by
 unfold rootOf
 rw [List.getD_eq_getElem?_getD,List.getElem?_eq_getElem h]
 exact List.getElem_mem h
theorem mark_bad (R:FileR) (b:Int) (x:Nat):markBad { R with bad:=b } x=markBad R x:=rfl
theorem mark_none (R:FileR) (b:Int) (x:Nat):markNone { R with bad:=b } x=markNone R x:=rfl
theorem markedIn_bad (R:FileR) (b:Int) (t:Nat): ∀ m k acc,markedIn { R with bad:=b } t m k acc=markedIn R t m k acc
 | 0,_,_=>rfl
 | m+1,k,acc=>by simp only [markedIn,mark_bad,mark_none,markedIn_bad R b t m]
theorem markedOut_bad (R:FileR) (b:Int) (t:Nat): ∀ m k acc,markedOut { R with bad:=b } t m k acc=markedOut R t m k acc
 | 0,_,_=>rfl
 | m+1,k,acc=>by simp only [markedOut,mark_bad,mark_none,markedIn_bad,markedOut_bad R b t m]
theorem marked_bad (R:FileR) (b:Int) (r:RootR):marked { R with bad:=b } r=marked R r:=markedOut_bad R b r.N 2 0 0
def usedTo (k:Nat):List Nat:=List.replicate k 1++List.replicate (256 - k) 0
theorem usedTo_length (k:Nat) (h:k≤6):(usedTo k).length=256:=by simp [usedTo];omega
theorem usedTo_succ (k:Nat) (h:k<6):(usedTo k).set k 1=usedTo (k+1):=by
 refine List.ext_getElem? fun i=> ?_
 rw [List.getElem?_set,usedTo_length k (by omega)]
 unfold usedTo
 by_cases hi:k=i
 · subst hi
   rw [if_pos rfl,if_pos (by omega),List.getElem?_append_left (by simp),List.getElem?_replicate,if_pos (by omega)]
 · rw [if_neg hi]
   by_cases h1:i<k
   · rw [List.getElem?_append_left (by simp;omega),List.getElem?_append_left (by simp;omega),List.getElem?_replicate,List.getElem?_replicate,if_pos h1,if_pos (by omega)]
   · rw [List.getElem?_append_right (by simp;omega),List.getElem?_append_right (by simp;omega),List.getElem?_replicate,List.getElem?_replicate]
     simp only [List.length_replicate]
     by_cases h2:i<256
     · rw [if_pos (by omega),if_pos (by omega)]
     · rw [if_neg (by omega),if_neg (by omega)]
theorem usedTo_low (k n:Nat):(usedTo k).getD n 0≤1:=by
 unfold usedTo
 rw [List.getD_eq_getElem?_getD]
 by_cases h:n<k
 · rw [List.getElem?_append_left (by rw [List.length_replicate];exact h),List.getElem?_replicate,if_pos h];exact Nat.le_refl _
 · rw [List.getElem?_append_right (by rw [List.length_replicate];omega),List.getElem?_replicate]
   split
   · exact Nat.zero_le _
   · exact Nat.zero_le _
end Go.Proofs.YtknjjjenklfeoaaGreatDoor
namespace Go.Proofs.YtknjjjenklfeoaaGreatDoor
open Go.RowKit
attribute [local go_sem ↓] build_file
attribute [local go_sem] run_bFile
theorem Kept.toBelow {S:Nat→Prop} {n:Nat} {w W w':World} (hk:Kept S W w') (hB:Below n w W) (hn:n≤W.heap.size) (hS: ∀ k,S k→n≤k):Below n w w':=
 ⟨hk.os.trans hB.os,hk.tape.trans hB.tape,hk.output.trans hB.output,Nat.le_trans hB.size hk.size,fun k hk'=>(hk.block k (Nat.lt_of_lt_of_le hk' hn) (fun x=>by have:=hS k x;omega)).trans (hB.block k hk')⟩
theorem headGood_bounds {file:List Clus} (h:headGood file=true):6≤file.length∧file.length≤256∧7≤num (cl file 0) 4∧num (cl file 0) 4≤256∧file.length≤num (cl file 0) 4:=by
 simp only [headGood,Bool.and_eq_true,decide_eq_true_eq] at h
 omega
structure Trees (W w':World) (f:Nat) (Lv Rv:Value) (R R':FileR) (k:Nat):Prop where
 at':FileAt w' f Lv Rv R'
 kept:Kept (fun k=>k=f) W w'
 hL:R'.L=R.L
 hR:R'.roots=R.roots
 low:Low (1+2000*k) R'
 inn: ∀ i,i<k→InFile R.L (rootOf R i).N
structure Looked (w w':World) (file:List Clus) (Lv Rv:Value):Prop where
 at':FileAt w' w.heap.size Lv Rv (look file)
 below:Below w.heap.size w w'
 fresh: ∀ g,Lv.ownBlock=some g→w.heap.size≤g
theorem look_any (w:World) (fv:Value) (file:List Clus) (hf:FRow w fv file) (hlen:file.length≤1000):
   Calls Tryz.prog 41 #[fv] w fun e w'=>
     e= .returned (.pointer (some ⟨w.heap.size,0,none⟩))∧ ∃ Lv Rv,Looked w w' file Lv Rv:=by
 have hF0:FileAt (w.alloc (.cells (fileCells (.slice none 0 0) (.slice none 0 0) R0).toArray 93)) w.heap.size (.slice none 0 0) (.slice none 0 0) R0:=
   ⟨heap_alloc_new _ _,World.ownsRow_nil _ _ _ _,World.ownsRow_nil _ _ _ _,by simp [R0,zeros256],by simp [R0,zeros256],by intro c hc;cases hc⟩
 have hB0:Below w.heap.size w (w.alloc (.cells (fileCells (.slice none 0 0) (.slice none 0 0) R0).toArray 93)):=(Below.refl _ _).alloc (Nat.le_refl _) _
 have hfW:FRow (w.alloc (.cells (fileCells (.slice none 0 0) (.slice none 0 0) R0).toArray 93)) fv file:=hf.kept (S:=fun _=>False) ((Kept.refl _ _).alloc _) (fun _ _=>id)
 have hWs:(w.alloc (.cells (fileCells (.slice none 0 0) (.slice none 0 0) R0).toArray 93)).heap.size=w.heap.size+1:=by simp
 have Hh:=hide (head_any _ w.heap.size fv file R0 hF0 hfW hlen)
 have HB0:=hide hB0
 have HWs:=hide hWs
 clear hF0 hB0 hfW hWs
 go_enter Tryz.func41,Tryz.ntmps41
 go_wp2_with fail
 generalize w.alloc (.cells (fileCells (.slice none 0 0) (.slice none 0 0) R0).toArray 93)=W at*
 refine (uh Hh).mono ?_
 rintro e w1 (⟨hgood,rfl,hF1,hK1⟩ | ⟨hgood,rfl,⟨Lv,Rv,hF1,hRv,hLv0⟩,hK1⟩)
 · have hl:look file={ R0 with bad:=0 }:=by simp [look,hgood]
   have c1:=hF1.cBad
   have z1:=hF1.fz
   have Hb:=hide (hF1.setBad 0)
   have HL:=hide hl
   have HK:=hide hK1
   clear hgood hF1 hK1 hl Hh
   go_wp2
   go_ret
   refine ⟨rfl,_,_,by rw [uh HL];exact uh Hb,?_,fun g hg=>by cases hg⟩
   exact ((uh HK).setCell (p:=⟨w.heap.size,514,none⟩) (Or.inl rfl) (.int .i64 0)).toBelow (uh HB0) (by have:=uh HWs;omega) (fun k hk=>by omega)
 · have HLv:Hid (∀ g,Lv.ownBlock=some g→w.heap.size≤g):=fun g hg=>by have:=hLv0 g hg;have:=uh HWs;omega
   clear hLv0
   have hbd:=headGood_bounds hgood
   have hLlen:(R1of file).L.length=num (cl file 0) 4:=padTo_length _ _
   have HF1:Hid (FileAt w1 w.heap.size Lv Rv (R1of file)):=hF1
   have HK1:=hide hK1
   have HRv:=hide hRv
   have Hls:=hide (list_any w1 w.heap.size Lv Rv (R1of file) hF1 (by rw [hLlen];omega) rfl)
   have hlk:look file=if (listOf (R1of file)).1=false then { R1of file with roots:=(listOf (R1of file)).2,bad:=5 }
       else if (R3of file).1=false then (R3of file).2
       else { (R3of file).2 with bad:=marksFrom (R3of file).2 (R3of file).2.roots.length 0 (countsFrom (R3of file).2 256 0) }:=by simp [look,hgood]
   have Hlk:=hide hlk
   clear hF1 hK1 hRv hgood hlk Hh
   go_wp2_with fail
   refine (uh Hls).mono ?_
   rintro e w2 ⟨rfl,Rv2,hF2,hK2,hRv2⟩
   have hB2:Below w.heap.size w w2:=by
     refine hK2.toBelow ((uh HK1).toBelow (uh HB0) (by have:=uh HWs;omega) (fun k hk=>by omega)) (by have:=(uh HK1).size;have:=uh HWs;omega) (fun k hk=> ?_)
     rcases hk with x | x
     · omega
     · have:=uh HRv k x;have:=uh HWs;omega
   have HB2:=hide hB2
   clear hB2 hK2 hRv2 HK1 HRv HF1 Hls HB0
   cases hls:(listOf (R1of file)).1 with
   | false=>
     rw [hls,if_pos rfl] at Hlk
     have c1:=hF2.cBad
     have z1:=hF2.fz
     have Hb:=hide (hF2.setBad 5)
     clear hls hF2
     go_wp2
     go_ret
     refine ⟨rfl,_,_,by rw [uh Hlk];exact uh Hb,?_,uh HLv⟩
     exact (uh HB2).setCell (p:=⟨w.heap.size,514,none⟩) (Nat.le_refl _) _
   | true=>
     rw [hls,if_neg (by decide)] at Hlk
     clear hls
     have HF2:Hid (FileAt w2 w.heap.size Lv Rv2 { R1of file with roots:=(listOf (R1of file)).2,used:=usedTo 0 }):=hF2
     clear hF2
     go_wp2
     go_loopw [5] (fun i w'=> ∃ k:Nat,k≤6∧i= .int .i64 k∧FileAt w' w.heap.size Lv Rv2 { R1of file with roots:=(listOf (R1of file)).2,used:=usedTo k }∧Below w.heap.size w w') (fun i _=>6 - (intOf i).toNat)
     case atStart=>exact ⟨0,by omega,rfl,uh HF2,uh HB2⟩
     case round=>
       obtain ⟨k,hk,rfl,hF,hB⟩:=hrel
       clear HF2 HB2
       by_cases hlt:k<6
       · have cu:=hF.cUsed k (by omega)
         have zu:=hF.fz
         have Hs:=hide (hF.setUsed k 1 (by omega))
         have HB:=hide hB
         clear hF hB
         go_wp2
         go_roundw
         case rel=>
           refine ⟨k+1,by omega,by go_num,?_,(uh HB).setCell (p:=⟨w.heap.size,258+k,none⟩) (Nat.le_refl _) _⟩
           rw [← usedTo_succ k hlt]
           exact uh Hs
         case measure=>simp [intOf];omega
       · have hk6:k=6:=by omega
         subst hk6
         have HF:Hid (FileAt wr w.heap.size Lv Rv2 (R2of file)):=hF
         have HB:=hide hB
         clear hF hB
         have hr2:=R2_roots file
         have c1:=(uh HF).cRv
         obtain ⟨a2,cap2,hRv2⟩:=row_form (uh HF).rowR
         have hLL:(R2of file).L.length≤256:=by show (R1of file).L.length≤256;rw [hLlen];omega
         have hL5:5≤(R2of file).L.length:=by show 5≤(R1of file).L.length;rw [hLlen];omega
         have hT3:R3of file=treesFrom (R2of file).roots.length 0 (R2of file):=rfl
         have hlow2:Low 1 (R2of file):=fun n=>usedTo_low 6 n
         have HT3:=hide hT3
         have Hr2:=hide hr2
         have Hlow2:=hide hlow2
         clear hT3 hlow2
         generalize R2of file=R2 at*
         subst hRv2
         have hrl5:=hr2.2.2
         clear hr2
         have HTr:Hid (Trees wr wr w.heap.size Lv (.slice a2 R2.roots.length cap2) R2 R2 0):=⟨uh HF,Kept.refl _ _,rfl,rfl,uh Hlow2,fun i hi=>by omega⟩
         clear HF Hlow2 c1
         have HB3:=HB
         clear HB
         go_wp2
         generalize Value.int .i64 ((6:Nat):Int)=s5
         generalize wr=W3 at*
         go_loopw [6] (fun i w'=> ∃ (k:Nat) (R':FileR),k≤R2.roots.length∧i= .int .i64 k∧Trees W3 w' w.heap.size Lv (.slice a2 R2.roots.length cap2) R2 R' k∧R3of file=treesFrom (R2.roots.length - k) k R') (fun i _=>R2.roots.length - (intOf i).toNat)
         case atStart=>exact ⟨0,R2,by omega,rfl,uh HTr,uh HT3⟩
         case round=>
           obtain ⟨k,R',hk,rfl,ht,he⟩:=hrel
           have He:=hide he
           clear he HTr HT3
           have c1:=ht.at'.cRv
           by_cases hlt2:k<R2.roots.length
           · have hrow:=ht.at'.rowR
             rw [ht.hR] at hrow
             obtain ⟨g2,cap3,e2,_⟩:=row_some hrow (by omega)
             obtain ⟨rfl,rfl⟩:a2=some ⟨g2,0,none⟩∧cap2=cap3:=by injection e2 with x1 x2 x3;exact ⟨x1,x3⟩
             have r0:=root_cell hrow k hlt2 0 (by omega)
             have r1:=root_cell hrow k hlt2 1 (by omega)
             have r2:=root_cell hrow k hlt2 2 (by omega)
             have hro:rootOf R' k=rootOf R2 k:=by unfold rootOf;rw [ht.hR]
             rw [show R2.roots.getD k ⟨0,0,[]⟩=rootOf R2 k from rfl] at r0 r1 r2
             simp only [rootCells,List.getElem?_cons_zero,List.getElem?_cons_succ,Nat.add_zero] at r0 r1 r2
             have hkb:=(uh Hr2).1 _ (rootOf_mem hlt2)
             have Htr:=hide (tree_any wr w.heap.size Lv _ R' (rootOf R2 k) ht.at' (by rw [ht.hL];exact hLL) hkb.1 hkb.2 (1+2000*k) (by omega) ht.low)
             have hki:(k:Int)<(R2.roots.length:Int):=by omega
             have hst:R3of file=if (tree R' (rootOf R2 k)).1 then treesFrom (R2.roots.length - (k+1)) (k+1) (tree R' (rootOf R2 k)).2 else (false,(tree R' (rootOf R2 k)).2):=by
               rw [uh He,show R2.roots.length - k=(R2.roots.length - (k+1))+1 by omega,treesFrom,hro]
             have Hst:=hide hst
             have HT:=hide ht
             clear hst ht He hrow e2 hro hkb
             have hinf:=fun h=>tree_inFile (R:=R') (r:=rootOf R2 k) h
             rw [(uh HT).hL] at hinf
             have Hinf:=hide hinf
             clear hinf
             unfold rootCells at Htr
             go_wp2_with fail
             refine (uh Htr).mono ?_
             rintro e w4 ⟨rfl,hg4⟩
             clear Htr r0 r1 r2 c1
             cases htt:(tree R' (rootOf R2 k)).1 with
             | false=>
               rw [htt] at Hst
               have hx:R3of file=(false,(tree R' (rootOf R2 k)).2):=uh Hst
               rw [show (R3of file).1=false by rw [hx],if_pos rfl,show (R3of file).2=(tree R' (rootOf R2 k)).2 by rw [hx]] at Hlk
               have Hg4:=hide hg4
               clear htt Hst hx hg4
               go_wp2
               go_ret
               refine ⟨rfl,_,_,by rw [uh Hlk];exact (uh Hg4).at',?_,uh HLv⟩
               exact ((uh HT).kept.trans (uh Hg4).kept).toBelow (uh HB3) (uh HB3).size (fun k hk=>by omega)
             | true=>
               rw [htt] at Hst
               have hi:=uh Hinf htt
               have hx:R3of file=treesFrom (R2.roots.length - (k+1)) (k+1) (tree R' (rootOf R2 k)).2:=uh Hst
               have HX:=hide hx
               have HI:=hide hi
               have Hg4:=hide hg4
               clear htt Hst hx hg4 hi Hinf
               go_wp2
               go_roundw
               case rel=>
                 refine ⟨k+1,(tree R' (rootOf R2 k)).2,by omega,by go_num,⟨(uh Hg4).at',(uh HT).kept.trans (uh Hg4).kept,(uh Hg4).hL.trans (uh HT).hL,(uh Hg4).hR.trans (uh HT).hR,(uh Hg4).low.mono (by omega),fun i hi=> ?_⟩,uh HX⟩
                 by_cases hik:i=k
                 · subst hik;exact uh HI
                 · exact (uh HT).inn i (by omega)
               case measure=>simp [intOf];omega
           · have hkr:k=R2.roots.length:=by omega
             have hx:R3of file=(true,R'):=by rw [uh He,hkr,Nat.sub_self];rfl
             rw [show (R3of file).1=true by rw [hx],if_neg (by decide),show (R3of file).2=R' by rw [hx]] at Hlk
             have hlow':Low 100000 R':=ht.low.mono (by omega)
             have hL':R'.L.length≤256:=by rw [ht.hL];exact hLL
             have hL5':5≤R'.L.length:=by rw [ht.hL];exact hL5
             have hinn: ∀ i,i<R'.roots.length→InFile R'.L (rootOf R' i).N:=by
               intro i hi
               rw [ht.hR] at hi
               rw [show rootOf R' i=rootOf R2 i by unfold rootOf;rw [ht.hR],ht.hL]
               exact ht.inn i (by omega)
             have Hinn:=hide hinn
             have hBw:Below w.heap.size w wr:=ht.kept.toBelow (uh HB3) (uh HB3).size (fun k hk=>by omega)
             have Hc:=hide (counts_any wr w.heap.size Lv _ R' ht.at' hL5' (hlow'.mono (by omega)))
             have hRl:R'.roots.length=R2.roots.length:=by rw [ht.hR]
             have HF:=hide ht.at'
             have HBw:=hide hBw
             have cb:=ht.at'.cBad
             have zb:=ht.at'.fz
             clear ht hx He hinn hBw
             go_wp2_with fail
             refine (uh Hc).mono ?_
             rintro e w4 ⟨rfl,rfl⟩
             have HFc:=hide ((uh HF).setBad (countsFrom R' 256 0))
             have HBc:=hide ((uh HBw).setCell (p:=⟨w.heap.size,514,none⟩) (Nat.le_refl _) (.int .i64 (countsFrom R' 256 0)))
             generalize hcc:countsFrom R' 256 0=cc at*
             have Hcc:=hide hcc
             clear Hc hcc
             go_wp2
             generalize Value.int .i64 (k:Int)=s6
             have hcl:marksFrom R' R'.roots.length 0 cc=marksFrom R' R2.roots.length 0 cc:=by rw [hRl]
             rw [hcl] at Hlk
             generalize hM:marksFrom R' R2.roots.length 0 cc=M at Hlk
             have HM:=hide hM
             clear hM hcl cb HF
             go_loopw [7] (fun i w'=> ∃ (m:Nat) (b:Int),m≤R2.roots.length∧i= .int .i64 m∧FileAt w' w.heap.size Lv (.slice a2 R2.roots.length cap2) { R' with bad:=b }∧Below w.heap.size w w'∧marksFrom R' (R2.roots.length - m) m b=M) (fun i _=>R2.roots.length - (intOf i).toNat)
             case atStart=>exact ⟨0,cc,by omega,rfl,uh HFc,uh HBc,uh HM⟩
             case round=>
               obtain ⟨m,b,hm,rfl,hF,hB,hz⟩:=hrel
               have Hz:=hide hz
               clear hz HM HFc HBc
               have c1:=hF.cRv
               have cb:=hF.cBad
               have zb:=hF.fz
               by_cases hlt3:m<R2.roots.length
               · have hz2:(if b<0 then marksFrom R' (R2.roots.length - (m+1)) (m+1) (marked R' (rootOf R' m)).1 else b)=M:=by
                   rw [← uh Hz,show R2.roots.length - m=(R2.roots.length - (m+1))+1 by omega,marksFrom]
                 have Hz2:=hide hz2
                 clear hz2 Hz
                 by_cases hb0:b<0
                 · rw [if_pos hb0] at Hz2
                   have hrow:=hF.rowR
                   rw [show ({ R' with bad:=b }:FileR).roots=R'.roots from rfl] at hrow
                   have hrow2:wr.ownsRow 0 132 3 (.slice a2 R'.roots.length cap2) R'.roots.length (R'.roots.flatMap rootCells):=by rw [hRl] at *;exact hrow
                   obtain ⟨g2,cap3,e2,_⟩:=row_some hrow2 (by omega)
                   obtain ⟨rfl,rfl⟩:a2=some ⟨g2,0,none⟩∧cap2=cap3:=by injection e2 with x1 x2 x3;exact ⟨x1,x3⟩
                   have r0:=root_cell hrow2 m (by omega) 0 (by omega)
                   have r1:=root_cell hrow2 m (by omega) 1 (by omega)
                   have r2:=root_cell hrow2 m (by omega) 2 (by omega)
                   rw [show R'.roots.getD m ⟨0,0,[]⟩=rootOf R' m from rfl] at r0 r1 r2
                   simp only [rootCells,List.getElem?_cons_zero,List.getElem?_cons_succ,Nat.add_zero] at r0 r1 r2
                   have Hmk:=hide (marked_any wr w.heap.size Lv _ { R' with bad:=b } (rootOf R' m) hF hL' hL5' (uh Hinn m (by omega)) (hlow'.mono (by omega)))
                   rw [marked_bad] at Hmk
                   have hmi:(m:Int)<(R2.roots.length:Int):=by omega
                   have HF:=hide hF
                   have HB:=hide hB
                   clear hF hB hrow hrow2 e2
                   unfold rootCells at Hmk
                   go_wp2_with fail
                   refine (uh Hmk).mono ?_
                   rintro e w5 ⟨rfl,hb5⟩
                   have hF5:=(uh HF).below hb5
                   have cb5:=hF5.cBad
                   have zb5:=hF5.fz
                   have HF5:=hide (hF5.setBad (marked R' (rootOf R' m)).1)
                   have HB5:=hide (((uh HB).trans (hb5.mono (uh HB).size)).setCell (p:=⟨w.heap.size,514,none⟩) (Nat.le_refl _) (.int .i64 (marked R' (rootOf R' m)).1))
                   clear Hmk hb5 hF5 HF HB r0 r1 r2 c1 cb zb
                   generalize (marked R' (rootOf R' m)).1=b5 at*
                   generalize (marked R' (rootOf R' m)).2=q5 at*
                   go_wp2
                   go_roundw
                   case rel=>exact ⟨m+1,b5,by omega,by go_num,uh HF5,uh HB5,uh Hz2⟩
                   case measure=>simp [intOf];omega
                 · rw [if_neg hb0] at Hz2
                   have db:decide (b<0)=false:=by simpa using hb0
                   have HF:=hide hF
                   have HB:=hide hB
                   clear hF hB
                   go_wp2
                   go_ret
                   exact ⟨rfl,Lv,_,by rw [uh Hlk,← uh Hz2];exact uh HF,uh HB,uh HLv⟩
               · have hmn:m=R2.roots.length:=by omega
                 have hz2:b=M:=by rw [← uh Hz,hmn,Nat.sub_self];rfl
                 have Hz2:=hide hz2
                 have HF:=hide hF
                 have HB:=hide hB
                 clear hF hB hz2 Hz hmn
                 go_wp2
                 go_ret
                 exact ⟨rfl,Lv,_,by rw [uh Hlk,← uh Hz2];exact uh HF,uh HB,uh HLv⟩
end Go.Proofs.YtknjjjenklfeoaaGreatDoor
