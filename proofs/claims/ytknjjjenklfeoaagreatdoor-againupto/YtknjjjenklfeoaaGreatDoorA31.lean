import Derived.Test.YtknjjjenklfeoaaGreatDoorA30
import Derived.Test.YtknjjjenklfeoaaGreatDoorA26
set_option maxHeartbeats 8000000
set_option maxRecDepth 100000
namespace Go.Proofs.YtknjjjenklfeoaaGreatDoor
theorem restZero_get {c:Clus}: ∀ m i,restZero c m i=true→ ∀ j,i≤j→j<i+m→byteAt c j=0
 | 0,_,_,j,h1,h2=>by omega
 | m+1,i,h,j,h1,h2=>by
   rw [restZero] at h
   split at h
   · rename_i h0
     by_cases e:j=i
     · rw [e];exact h0
     · exact restZero_get m (i+1) h j (by omega) (by omega)
   · cases h
theorem num_div {c:Clus} (i:Nat):num c i / 256=byteAt c i∧num c i%256=byteAt c (i+1):=by
 have h1:=byteAt_lt c i
 have h2:=byteAt_lt c (i+1)
 unfold num
 omega
def headB (c:Clus):Bool:=decide (headBytes (num c 4) (num c 6)=c)
theorem headB_iff {c:Clus} (hc:c.length=64):headB c=(decide (c.take 4=velm) && restZero c 56 8):=by
 have l4:=num_lt c 4
 have l6:=num_lt c 6
 unfold headB
 rw [Bool.eq_iff_iff,decide_eq_true_iff,Bool.and_eq_true,decide_eq_true_iff]
 constructor
 · intro h
   constructor
   · have:=head_velm (a:=num c 4) (b:=num c 6)
     rw [h] at this
     exact this
   · have:=head_rest l4 l6
     rw [h] at this
     exact this
 · rintro ⟨h1,h2⟩
   have hl:(headBytes (num c 4) (num c 6)).length=64:=headBytes_length _ _
   refine bytes_ext (by rw [hl,hc]) fun m hm=> ?_
   rw [hl] at hm
   rw [byteAt_head l4 l6]
   have d4:=num_div (c:=c) 4
   have d6:=num_div (c:=c) 6
   by_cases e6:m=6
   · rw [if_pos e6,e6];exact d6.1
   rw [if_neg e6]
   by_cases e7:m=7
   · rw [if_pos e7,e7];exact d6.2
   rw [if_neg e7]
   by_cases e4:m=4
   · rw [if_pos e4,e4];exact d4.1
   rw [if_neg e4]
   by_cases e5:m=5
   · rw [if_pos e5,e5];exact d4.2
   rw [if_neg e5]
   by_cases h8:8≤m
   · rw [restZero_get 56 8 h2 m h8 (by omega)]
     exact head0_rest ⟨m,hm⟩ h8
   · have h3:byteAt c m=byteAt (c.take 4) m:=by
       unfold byteAt
       rw [List.getD_eq_getElem?_getD,List.getD_eq_getElem?_getD,List.getElem?_take_of_lt (by omega)]
     rw [h3,h1]
     unfold byteAt head0
     rw [List.getD_eq_getElem?_getD,List.getD_eq_getElem?_getD,List.getElem?_append_left (by simp [velm];omega)]
theorem nameFrom_back (c:Clus) (a:Nat): ∀ m i over acc s,nameFrom c a m i over acc=some s→
   ∃ r,s=acc++r∧(over=true→r=[])∧r.length≤m∧(∀ b ∈ r,b≠0)∧ ∀ j,j<m→c.getD (a+(i+j)) 0=r.getD j 0
 | 0,i,over,acc,s,h=>by
   rw [nameFrom] at h
   injection h with h
   exact ⟨[],by simp [h],fun _=>rfl,Nat.le_refl _,by simp,fun j hj=>by omega⟩
 | m+1,i,over,acc,s,h=>by
   rw [nameFrom] at h
   by_cases h0:byteAt c (a+i)=0
   · rw [if_pos h0] at h
     obtain ⟨r,h1,h2,h3,h4,h5⟩:=nameFrom_back c a m (i+1) true acc s h
     have h6:=h2 rfl
     subst h6
     refine ⟨[],h1,fun _=>rfl,Nat.zero_le _,by simp,fun j hj=> ?_⟩
     cases j with
     | zero=>
       unfold byteAt at h0
       rw [Nat.add_zero]
       exact UInt8.toNat_inj.1 (by simpa using h0)
     | succ j=>
       have:=h5 j (by omega)
       rw [show a+(i+1+j)=a+(i+(j+1)) by omega] at this
       rw [this]
       rfl
   · rw [if_neg h0] at h
     cases over with
     | true=>rw [if_pos rfl] at h;cases h
     | false=>
       rw [if_neg (by decide)] at h
       obtain ⟨r,h1,h2,h3,h4,h5⟩:=nameFrom_back c a m (i+1) false _ s h
       refine ⟨c.getD (a+i) 0 :: r,by rw [h1];simp,fun e=>(by cases e),by simp;omega,fun b hb=> ?_,fun j hj=> ?_⟩
       · rcases List.mem_cons.1 hb with rfl | hb
         · intro e
           apply h0
           unfold byteAt
           rw [e];rfl
         · exact h4 b hb
       · cases j with
         | zero=>rw [Nat.add_zero];rfl
         | succ j=>
           have:=h5 j (by omega)
           rw [show a+(i+1+j)=a+(i+(j+1)) by omega] at this
           rw [this];rfl
theorem nameOf_back {c:Clus} {a:Nat} (h:(nameOf c a).2=true):isNameB (nameOf c a).1=true∧ ∀ j,j<12→c.getD (a+j) 0=(nameOf c a).1.getD j 0:=by
 unfold nameOf at h ⊢
 cases hn:nameFrom c a 12 0 false [] with
 | none=>rw [hn] at h;cases h
 | some s=>
   rw [hn] at h
   obtain ⟨r,h1,_,_,_,h5⟩:=nameFrom_back c a 12 0 false [] s hn
   rw [List.nil_append] at h1
   subst h1
   refine ⟨h,fun j hj=> ?_⟩
   have:=h5 j hj
   rw [Nat.zero_add] at this
   exact this
theorem nameIn_back {Q:List RootR} {s:List UInt8}: ∀ m k,nameIn Q s m k=false→ ∀ j,k≤j→j<k+m→(Q.getD j ⟨0,0,[]⟩).name≠s
 | 0,_,_,j,h1,h2=>by omega
 | m+1,k,h,j,h1,h2=>by
   rw [nameIn] at h
   split at h
   · cases h
   · rename_i h0
     by_cases e:j=k
     · rw [e];exact h0
     · exact nameIn_back m (k+1) h j (by omega) (by omega)
theorem entBytes_of {c:Clus} {i:Nat} {s:List UInt8} (hs:s.length≤12) (h1: ∀ j,j<12→c.getD (16*i+2+j) 0=s.getD j 0) (h14:byteAt c (16*i+14)=0) (h15:byteAt c (16*i+15)=0): ∀ j,j<16→byteAt c (16*i+j)=byteAt (entBytes ⟨s,num c (16*i)⟩) j:=by
 intro j hj
 have d:=num_div (c:=c) (16*i)
 rw [byteAt_name _ (num_lt _ _)]
 by_cases e0:j=0
 · rw [if_pos e0,e0];exact d.1.symm
 rw [if_neg e0]
 by_cases e1:j=1
 · rw [if_pos e1,e1];exact d.2.symm
 rw [if_neg e1]
 by_cases e2:j<14
 · have:=h1 (j - 2) (by omega)
   rw [show 16*i+2+(j - 2)=16*i+j by omega] at this
   unfold byteAt
   rw [this]
 · have e3:byteAt s (j - 2)=0:=by
     unfold byteAt
     rw [List.getD_eq_getElem?_getD,List.getElem?_eq_none (by omega)];rfl
   show byteAt c (16*i+j)=byteAt s (j - 2)
   rw [e3]
   have:j=14∨j=15:=by omega
   rcases this with rfl | rfl
   · exact h14
   · exact h15
theorem byteAt_ze (j:Nat):byteAt (entBytes ze) j=0:=by
 rw [byteAt_name _ (by decide)]
 by_cases e0:j=0
 · rw [if_pos e0];rfl
 rw [if_neg e0]
 by_cases e1:j=1
 · rw [if_pos e1];rfl
 rw [if_neg e1];rfl
theorem listFrom_back (c:Clus) (r0:RootR): ∀ m i over (E0:List EntR) Q',i+m=4→(over=false→E0.length=i)→E0.length≤i→EntsOK E0→(∀ k,k<i→ ∀ j,j<16→byteAt c (16*k+j)=byteAt (entBytes (E0.getD k ze)) j)→
   listFrom c m i over (r0 :: E0.map rootE)=(true,Q')→ ∃ E,EntsOK E∧Q'=r0 :: E.map rootE∧ ∀ k,k<4→ ∀ j,j<16→byteAt c (16*k+j)=byteAt (entBytes (E.getD k ze)) j
 | 0,i,over,E0,Q',him,_,_,hE,hb,h=>by
   rw [listFrom] at h
   injection h with _ h
   exact ⟨E0,hE,h.symm,fun k hk=>hb k (by omega)⟩
 | m+1,i,over,E0,Q',him,hov,hle,hE,hb,h=>by
   rw [listFrom] at h
   by_cases h0:num c (16*i)=0
   · rw [if_pos h0] at h
     by_cases hz:restZero c 16 (16*i)=true
     · rw [if_pos hz] at h
       refine listFrom_back c r0 m (i+1) true E0 Q' (by omega) (fun e=>by cases e) (by omega) hE (fun k hk j hj=> ?_) h
       by_cases e:k=i
       · subst e
         rw [restZero_get 16 (16*k) hz (16*k+j) (by omega) (by omega),List.getD_eq_getElem?_getD,List.getElem?_eq_none hle]
         exact (byteAt_ze j).symm
       · exact hb k (by omega) j hj
     · rw [if_neg hz] at h;cases h
   · rw [if_neg h0] at h
     by_cases hbad:entryBad c i over=true
     · rw [if_pos hbad] at h;cases h
     · rw [if_neg hbad] at h
       have hbad:entryBad c i over=false:=by simpa using hbad
       unfold entryBad at hbad
       rw [Bool.or_eq_false_iff,Bool.or_eq_false_iff,Bool.or_eq_false_iff] at hbad
       obtain ⟨ho,hn,h14,h15⟩:=hbad
       have hn:(nameOf c (16*i+2)).2=true:=by simpa using hn
       obtain ⟨n1,n2⟩:=nameOf_back hn
       have hl:=hov ho
       by_cases hin:nameIn (r0 :: E0.map rootE) (nameOf c (16*i+2)).1 ((r0 :: E0.map rootE).length - 1) 1=true
       · rw [if_pos hin] at h;cases h
       · rw [if_neg hin] at h
         have hin:nameIn (r0 :: E0.map rootE) (nameOf c (16*i+2)).1 ((r0 :: E0.map rootE).length - 1) 1=false:=by simpa using hin
         have hnew:=nameIn_back _ _ hin
         generalize nameOf c (16*i+2)=nn at*
         have e:(r0 :: E0.map rootE)++[⟨num c (16*i),5,nn.1⟩]=r0 :: (E0++[(⟨nn.1,num c (16*i)⟩:EntR)]).map rootE:=by simp [rootE]
         rw [e] at h
         refine listFrom_back c r0 m (i+1) over _ Q' (by omega) (fun _=>by simp;omega) (by simp;omega) ⟨by simp;omega,?_,?_⟩ ?_ h
         · intro x hx
           rcases List.mem_append.1 hx with y | y
           · exact hE.all x y
           · rw [List.mem_singleton.1 y];exact ⟨n1,h0,num_lt _ _⟩
         · rw [List.map_append,List.nodup_append]
           refine ⟨hE.nodup,by simp,fun a ha b hb'=> ?_⟩
           simp only [List.map_cons,List.map_nil,List.mem_singleton] at hb'
           rw [hb']
           obtain ⟨x,hx,rfl⟩:=List.mem_map.1 ha
           obtain ⟨q,hq,hqe⟩:=List.getElem_of_mem hx
           have:=hnew (q+1) (by omega) (by simp;omega)
           rw [List.getD_cons_succ,List.getD_eq_getElem?_getD,List.getElem?_map,List.getElem?_eq_getElem hq] at this
           rw [← hqe]
           exact this
         · intro k hk j hj
           by_cases e:k=i
           · subst e
             rw [List.getD_eq_getElem?_getD,List.getElem?_append_right (by omega),show k - E0.length=0 by omega]
             exact entBytes_of (name_le n1).2 n2 (by simpa using h14) (by simpa using h15) j hj
           · rw [List.getD_eq_getElem?_getD,List.getElem?_append_left (by omega),← List.getD_eq_getElem?_getD]
             exact hb k (by omega) j hj
theorem EntsOK.nil:EntsOK []:=⟨by simp,by simp,by simp⟩
theorem EntsOK.bytes_of {c:Clus} {E:List EntR} (h:EntsOK E) (hc:c.length=64) (hb: ∀ k,k<4→ ∀ j,j<16→byteAt c (16*k+j)=byteAt (entBytes (E.getD k ze)) j):c=listBytes E:=by
 refine bytes_ext (by rw [h.length,hc]) fun i hi=> ?_
 have h1:=hb (i / 16) (by omega) (i%16) (by omega)
 rw [show 16*(i / 16)+i%16=i by omega] at h1
 have h2:=h.get (i / 16) (by omega) (i%16) (by omega)
 rw [show 16*(i / 16)+i%16=i by omega] at h2
 rw [h1]
 unfold byteAt
 rw [h2]
 by_cases hk:i / 16<E.length
 · rw [pad4_get _ hk]
 · rw [pad4_past _ (by omega),List.getD_eq_getElem?_getD (l:=E),List.getElem?_eq_none (by omega)];rfl
theorem listFrom_given {c:Clus} (hc:c.length=64) {r0:RootR} (h:(listFrom c 4 0 false [r0]).1=true): ∃ E,EntsOK E∧c=listBytes E∧(listFrom c 4 0 false [r0]).2=r0 :: E.map rootE:=by
 obtain ⟨E,h1,h2,h3⟩:=listFrom_back c r0 4 0 false [] (listFrom c 4 0 false [r0]).2 rfl (fun _=>rfl) (Nat.le_refl _) EntsOK.nil (fun k hk=>by omega) (Prod.ext h rfl)
 exact ⟨E,h1,h1.bytes_of hc h3,h2⟩
theorem findFrom_first (E:List EntR) (s:ByteArray) (i:Nat): ∀ m k,findFrom E s m k=(i:Int)→k≤i∧i<k+m∧txt (E.getD i ze).name=s∧ ∀ j,k≤j→j<i→txt (E.getD j ze).name≠s
 | 0,k,h=>by rw [findFrom] at h;omega
 | m+1,k,h=>by
   rw [findFrom] at h
   split at h
   · rename_i h0
     have:k=i:=by omega
     subst this
     exact ⟨Nat.le_refl _,by omega,h0,fun j h1 h2=>by omega⟩
   · rename_i h0
     obtain ⟨h1,h2,h3,h4⟩:=findFrom_first E s i m (k+1) h
     refine ⟨by omega,by omega,h3,fun j h5 h6=> ?_⟩
     by_cases e:j=k
     · rw [e];exact h0
     · exact h4 j (by omega) h6
theorem findFrom_at (E:List EntR) (s:ByteArray) (i:Nat) (h:txt (E.getD i ze).name=s): ∀ m k,k≤i→i<k+m→(∀ j,k≤j→j<i→txt (E.getD j ze).name≠s)→findFrom E s m k=(i:Int)
 | 0,k,h1,h2,_=>by omega
 | m+1,k,h1,h2,h3=>by
   rw [findFrom]
   by_cases e:k=i
   · subst e;rw [if_pos h]
   · rw [if_neg (h3 k (by omega) (by omega))]
     exact findFrom_at E s i h m (k+1) (by omega) (by omega) (fun j h4 h5=>h3 j (by omega) h5)
theorem lenFrom_pos (E:List EntR): ∀ m k,∀ j,k≤j→j<lenFrom E m k→(E.getD j ze).first≠0
 | 0,k,j,h1,h2=>by rw [lenFrom] at h2;omega
 | m+1,k,j,h1,h2=>by
   rw [lenFrom] at h2
   split at h2
   · omega
   · rename_i h0
     by_cases e:j=k
     · rw [e];exact h0
     · exact lenFrom_pos E m (k+1) j (by omega) h2
theorem listGood_iff {c:Clus} (hc:c.length=64):listGood c=true↔ ∃ E,EntsOK E∧c=listBytes E:=by
 constructor
 · intro h
   unfold listGood at h
   rw [Bool.and_eq_true,Bool.and_eq_true,decide_eq_true_iff,allFrom_iff,allFrom_iff] at h
   obtain ⟨h1,h2,h3⟩:=h
   have hel:=entsOf_length c
   have h4:=lenOf_le (entsOf c)
   have hlt: ∀ k,((entsOf c).getD k ze).first<65536:=by
     intro k
     rw [List.getD_eq_getElem?_getD]
     by_cases hk:k<4
     · unfold entsOf
       rw [List.getElem?_map,List.getElem?_range hk]
       exact num_lt _ _
     · rw [List.getElem?_eq_none (by omega)];decide
   have hpos:=lenFrom_pos (entsOf c) 4 0
   change ∀ j,0≤j→j<lenOf (entsOf c)→_ at hpos
   generalize entsOf c=E at*
   generalize hn:lenOf E=n at*
   have hE:E=pad4 (E.take n):=by
     unfold pad4
     rw [List.length_take_of_le (by omega)]
     apply List.ext_getElem?
     intro j
     by_cases hj:j<n
     · rw [List.getElem?_append_left (by simp;omega),List.getElem?_take_of_lt hj]
     · rw [List.getElem?_append_right (by simp;omega),List.length_take_of_le (by omega),List.getElem?_replicate]
       by_cases hj4:j<4
       · rw [if_pos (by omega),List.getElem?_eq_getElem (by omega)]
         have:=h3 j (by omega) (by omega)
         unfold emptyB at this
         rw [List.getD_eq_getElem?_getD,List.getElem?_eq_getElem (by omega)] at this
         simp only [Option.getD_some,Bool.and_eq_true,decide_eq_true_iff] at this
         have e1:=txt_inj this.1
         congr 1
         have e2:=this.2
         show E[j]=ze
         generalize E[j]=p at*
         cases p
         simp only at e1 e2
         subst e1 e2
         rfl
       · rw [if_neg (by omega),List.getElem?_eq_none (by omega)]
   have hok:EntsOK (E.take n):=by
     have hget: ∀ j (hj:j<(E.take n).length),(E.take n)[j]=E.getD j ze:=by
       intro j hj
       rw [List.getElem_take,List.getD_eq_getElem?_getD,List.getElem?_eq_getElem];rfl
     refine ⟨by simp;omega,fun e he=> ?_,?_⟩
     · obtain ⟨j,hj,rfl⟩:=List.getElem_of_mem he
       rw [hget j hj]
       have hjn:j<n:=by simp at hj;omega
       have:=h2 j (by omega) (by omega)
       unfold entGood at this
       rw [Bool.and_eq_true] at this
       exact ⟨this.1,hpos j (by omega) hjn,hlt j⟩
     · rw [List.nodup_iff_pairwise_ne,List.pairwise_map,List.pairwise_iff_getElem]
       intro i j hi hj hij e
       rw [hget i hi,hget j hj] at e
       have hjn:j<n:=by simp at hj;omega
       have:=h2 j (by omega) (by omega)
       unfold entGood at this
       rw [Bool.and_eq_true,decide_eq_true_iff] at this
       exact (findFrom_first E _ j _ _ this.2).2.2.2 i (by omega) hij (by rw [e])
   refine ⟨E.take n,hok,?_⟩
   rw [← hok.clus,← hE]
   exact h1.symm
 · rintro ⟨E,hE,rfl⟩
   unfold listGood
   rw [hE.entsOf,hE.clus,hE.lenOf,decide_eq_true rfl,Bool.true_and,Bool.and_eq_true,allFrom_iff,allFrom_iff]
   have hl:=hE.len
   refine ⟨fun j _ hj=> ?_,fun j hj _=> ?_⟩
   · rw [Nat.zero_add] at hj
     have hg: ∀ i,i<E.length→(pad4 E).getD i ze=E.getD i ze:=fun i hi=>pad4_get i hi
     have hm:E.getD j ze ∈ E:=by
       rw [List.getD_eq_getElem?_getD,List.getElem?_eq_getElem hj]
       exact List.getElem_mem hj
     unfold entGood
     rw [Bool.and_eq_true,decide_eq_true_iff,hg j hj]
     refine ⟨(hE.all _ hm).name,?_⟩
     unfold findE
     rw [hE.lenOf]
     refine findFrom_at _ _ j (by rw [hg j hj]) _ _ (Nat.zero_le _) (by omega) (fun i _ hij e=> ?_)
     rw [hg i (by omega)] at e
     have hnd:=hE.nodup
     rw [List.nodup_iff_pairwise_ne,List.pairwise_map,List.pairwise_iff_getElem] at hnd
     refine hnd i j (by omega) hj hij ?_
     have:=txt_inj e
     rw [List.getD_eq_getElem?_getD,List.getD_eq_getElem?_getD,List.getElem?_eq_getElem hj,List.getElem?_eq_getElem (by omega)] at this
     exact this
   · unfold emptyB
     rw [pad4_past j hj]
     rfl
theorem listGood_eq {c:Clus} (hc:c.length=64) (r0:RootR):listGood c=(listFrom c 4 0 false [r0]).1:=by
 rw [Bool.eq_iff_iff,listGood_iff hc]
 constructor
 · rintro ⟨E,hE,rfl⟩
   have:=hE.listFrom r0 4 0 rfl (Nat.zero_le _)
   rw [List.take_zero,List.map_nil] at this
   rw [this]
 · intro h
   obtain ⟨E,h1,h2,_⟩:=listFrom_given hc h
   exact ⟨E,h1,h2⟩
def badC (U:List Nat) (k:List UInt8) (T n:Nat):Bool:=decide (byteAt k n<U.getD n 0) || (decide (254<byteAt k n) || (decide (T≤n) && decide (byteAt k n≠0)))
def countsP (U:List Nat) (k:List UInt8) (T:Nat):Nat→Nat→Int
 | 0,_=> -1
 | m+1,n=>if badC U k T n then (n:Int) else countsP U k T m (n+1)
def markP (k:List UInt8) (s:SpotN):Bool:=decide (32768≤s.number) && decide (byteAt k (s.number%32768)≠1)
def badTab:Option SpotN→Int
 | none=> -1
 | some s=>(s.table:Int)
def marksP (C:List Clus) (k:List UInt8) (fs:List Nat):Int:=badTab ((fs.flatMap fun f=>toldFrom C f 32 0).find? (markP k))
theorem countsP_eq {U:List Nat} {k:List UInt8} {T:Nat} {R:FileR}: ∀ m n,(∀ j,n≤j→j<n+m→badC U k T j=badCount R j)→countsP U k T m n=countsFrom R m n
 | 0,_,_=>rfl
 | m+1,n,h=>by rw [countsP,countsFrom,h n (by omega) (by omega),countsP_eq m (n+1) (fun j h1 h2=>h j (by omega) (by omega))]
theorem countsFrom_ge (R:FileR): ∀ m n,countsFrom R m n= -1∨0≤countsFrom R m n
 | 0,_=>Or.inl rfl
 | m+1,n=>by
   rw [countsFrom]
   split
   · exact Or.inr (by omega)
   · exact countsFrom_ge R m (n+1)
theorem countsFrom_none {R:FileR}: ∀ m n,countsFrom R m n= -1→ ∀ j,n≤j→j<n+m→badCount R j=false
 | 0,_,_,j,h1,h2=>by omega
 | m+1,n,h,j,h1,h2=>by
   rw [countsFrom] at h
   split at h
   · omega
   · rename_i h0
     by_cases e:j=n
     · rw [e];simpa using h0
     · exact countsFrom_none m (n+1) h j (by omega) (by omega)
theorem marksFrom_pos (R:FileR): ∀ m i b,0≤b→marksFrom R m i b=b
 | 0,_,_,_=>rfl
 | m+1,i,b,h=>by rw [marksFrom,if_neg (by omega)]
section
variable {L:List Clus} {rs:List RootR} {b:Int} {R:FileR}
theorem spFrom_mem (C:List Clus) (t:Nat) (s:SpotN): ∀ m k,s ∈ spFrom C t m k→s.table=t∧k≤s.index∧s.index<k+m∧s.number=nm C t s.index∧s.number≠0
 | 0,_,h=>by simp [spFrom] at h
 | m+1,k,h=>by
   rw [spFrom] at h
   rcases List.mem_append.1 h with y | y
   · split at y
     · simp at y
     · rename_i h0
       rw [List.mem_singleton.1 y]
       exact ⟨rfl,Nat.le_refl _,by show k<_;omega,rfl,h0⟩
   · obtain ⟨h1,h2,h3,h4⟩:=spFrom_mem C t s m (k+1) y
     exact ⟨h1,by omega,by omega,h4⟩
theorem toldFrom_two {C:List Clus} {t:Nat} (hz: ∀ i,1<i→i<32→nm C t i=0):toldFrom C t 32 0=toldFrom C t 2 0:=by
 have key: ∀ m i,2≤i→i+m=32→toldFrom C t m i=[]:=by
   intro m
   induction m with
   | zero=>intro i _ _;rfl
   | succ m ih=>intro i h1 h2;rw [toldFrom,if_pos (hz i (by omega) (by omega)),ih (i+1) (by omega) (by omega)];rfl
 have h2:=key 30 2 (by omega) (by omega)
 show (if nm C t 0=0 then [] else _)++((if nm C t 1=0 then [] else _)++toldFrom C t 30 2)=_
 rw [h2]
 rfl
theorem find_none_tab {p:SpotN→Bool} {l:List SpotN} {t:Nat} (ht: ∀ s ∈ l,s.table=t):badTab (l.find? p)=if (l.find? p).isNone then -1 else (t:Int):=by
 cases h:l.find? p with
 | none=>rfl
 | some s=>show (s.table:Int)=t;rw [ht s (List.mem_of_find?_eq_some h)]
theorem markedIn_find (k:List UInt8) (t:Nat): ∀ m j acc,(∀ i,j≤i→i<j+m→nm R.L t i≠0→ ∀ tb ix,markBad R (nm R.L t i)=markP k ⟨tb,ix,nm R.L t i⟩)→(markedIn R t m j acc).isNone= !((spFrom R.L t m j).find? (markP k)).isNone
 | 0,_,_,_=>rfl
 | m+1,j,acc,h=>by
   rw [markedIn,spFrom]
   by_cases h0:num (cl R.L t) (2*j)=0
   · rw [if_pos h0,if_pos h0,List.nil_append]
     exact markedIn_find k t m (j+1) acc (fun i h1 h2=>h i (by omega) (by omega))
   · have e:=h j (by omega) (by omega) h0 t j
     rw [if_neg h0,if_neg h0,List.singleton_append,List.find?_cons,← e]
     cases hb:markBad R (num (cl R.L t) (2*j)) with
     | true=>rfl
     | false=>exact markedIn_find k t m (j+1) _ (fun i h1 h2=>h i (by omega) (by omega))
theorem markedOut_find (k:List UInt8) (t:Nat): ∀ m i acc,(∀ s ∈ toldFrom R.L t m i,markBad R s.number=markP k s)→(markedOut R t m i acc).1=badTab ((toldFrom R.L t m i).find? (markP k))
 | 0,_,_,_=>rfl
 | m+1,i,acc,h=>by
   rw [toldFrom] at h
   rw [markedOut,toldFrom]
   by_cases h0:num (cl R.L t) (2*i)=0
   · rw [if_pos h0] at h
     rw [if_pos h0,if_pos h0,List.nil_append]
     exact markedOut_find k t m (i+1) acc h
   · rw [if_neg h0] at h
     have e:=h ⟨t,i,nm R.L t i⟩ (by simp)
     have hin: ∀ s ∈ spFrom R.L (nm R.L t i%32768) 32 0,markBad R s.number=markP k s:=fun s hs=>h s (by simp [hs])
     have hrest: ∀ s ∈ toldFrom R.L t m (i+1),markBad R s.number=markP k s:=fun s hs=>h s (by simp [hs])
     rw [if_neg h0,if_neg h0,List.cons_append,List.find?_cons,← e]
     cases hb:markBad R (num (cl R.L t) (2*i)) with
     | true=>rfl
     | false=>
       have e3:=markedIn_find (R:=R) k (nm R.L t i%32768) 32 0 (acc+markNone R (nm R.L t i)) (fun j h1 h2 h3 tb ix=>by
         have hm:(⟨nm R.L t i%32768,j,nm R.L (nm R.L t i%32768) j⟩:SpotN) ∈ spFrom R.L (nm R.L t i%32768) 32 0:=by
           have key: ∀ m k,k≤j→j<k+m→(⟨nm R.L t i%32768,j,nm R.L (nm R.L t i%32768) j⟩:SpotN) ∈ spFrom R.L (nm R.L t i%32768) m k:=by
             intro m
             induction m with
             | zero=>intro k h4 h5;omega
             | succ m ih=>
               intro k h4 h5
               rw [spFrom]
               by_cases e:j=k
               · subst e;rw [if_neg h3];simp
               · exact List.mem_append.2 (Or.inr (ih (k+1) (by omega) (by omega)))
           exact key 32 0 h1 h2
         exact (hin _ hm).trans rfl)
       have e4:=find_none_tab (p:=markP k) (l:=spFrom R.L (nm R.L t i%32768) 32 0) (fun s hs=>(spFrom_mem _ _ _ _ _ hs).1)
       simp only [Bool.false_eq_true,if_false]
       rw [List.find?_append]
       cases hx:markedIn R (num (cl R.L t) (2*i)%32768) 32 0 (acc+markNone R (num (cl R.L t) (2*i))) with
       | none=>
         change markedIn R (nm R.L t i%32768) 32 0 (acc+markNone R (nm R.L t i))=none at hx
         rw [hx] at e3
         cases hf:(spFrom R.L (nm R.L t i%32768) 32 0).find? (markP k) with
         | none=>rw [hf] at e3;cases e3
         | some s=>
           rw [hf] at e4
           show _=badTab (some s)
           rw [e4];rfl
       | some a=>
         change markedIn R (nm R.L t i%32768) 32 0 (acc+markNone R (nm R.L t i))=some a at hx
         rw [hx] at e3
         cases hf:(spFrom R.L (nm R.L t i%32768) 32 0).find? (markP k) with
         | none=>exact markedOut_find k t m (i+1) a hrest
         | some s=>rw [hf] at e3;cases e3
theorem marksFrom_find (k:List UInt8) (hR:R.roots=rs) (hz: ∀ r ∈ rs,∀ i,1<i→i<32→nm R.L r.N i=0) (h: ∀ r ∈ rs,∀ s ∈ toldFrom R.L r.N 32 0,markBad R s.number=markP k s): ∀ m i,i+m=rs.length→marksFrom R m i (-1)=marksP R.L k ((rs.drop i).map (·.N))
 | 0,i,hi=>by rw [List.drop_of_length_le (by omega)];rfl
 | m+1,i,hi=>by
   have hlt:i<rs.length:=by omega
   have hro:rootOf R i=rs[i]:=by unfold rootOf;rw [hR,List.getD_eq_getElem?_getD,List.getElem?_eq_getElem hlt];rfl
   have hm:rs[i] ∈ rs:=List.getElem_mem hlt
   have e2:=toldFrom_two (hz _ hm)
   rw [marksFrom,if_pos (by decide),hro,List.drop_eq_getElem_cons hlt]
   unfold marksP
   rw [List.map_cons,List.flatMap_cons,List.find?_append]
   have e:=markedOut_find (R:=R) k rs[i].N 2 0 0 (by rw [← e2];exact h _ hm)
   unfold marked
   rw [e,e2]
   cases hf:(toldFrom R.L rs[i].N 2 0).find? (markP k) with
   | none=>
     have:=marksFrom_find k hR hz h m (i+1) (by omega)
     rw [Option.none_or]
     exact this
   | some s=>
     rw [Option.some_or]
     exact marksFrom_pos R m (i+1) _ (by show (0:Int)≤(s.table:Int);omega)
end
theorem held_sum {C:List Clus} (n:Nat): ∀ rs:List RootR,(∀ r ∈ rs,∀ i,1<i→i<32→nm C r.N i=0)→((rs.map (·.N)).flatMap (heldAll C)).count n=useOf C rs n
 | [],_=>rfl
 | r :: t,hz=>by
   have h1:=held_sum n t (fun x hx=>hz x (List.mem_cons_of_mem _ hx))
   have h2:=count_held (hz r (List.mem_cons_self ..)) n
   rw [List.map_cons,List.flatMap_cons,List.count_append,h1,h2]
   simp [useOf]
theorem uses_gen {V:VolR} {rs:List RootR} (hf:firstsOf V=rs.map (·.N)) (hz: ∀ r ∈ rs,∀ i,1<i→i<32→nm V.C r.N i=0) (n:Nat) (hn:n<256):(usesOf V).getD n 0=base6 n+useOf V.C rs n:=by
 unfold usesOf useAll
 rw [bumps_get _ _ _ (by rw [onesTo_length 6 (by omega)];exact hn),onesTo6 n,hf,held_sum n rs hz]
theorem cnts_gen {C:List Clus} (hl: ∀ c ∈ C,c.length=64) (h5:5≤C.length):(cntsOf C).length=256∧ ∀ n,n<256→byteAt (cntsOf C) n=countOf C n:=⟨cntsOf_length C hl h5,fun n hn=>byteAt_cnts hl h5 n hn⟩
section
variable {L:List Clus} {rs:List RootR} {R:FileR}
structure TreesL (L:List Clus) (rs:List RootR):Prop where
 len:L.length≤256
 six:6≤L.length
 ok:OkT L (allTells L rs rs.length 0)
 zero: ∀ r ∈ rs,∀ i,1<i→i<32→nm L r.N i=0
theorem TreesL.fst (h:TreesL L rs) {t:Nat} (hf:IsFst rs t):6≤t∧t<L.length:=by
 have:=h.ok.lo (t,1) ((mem_all h.zero _).2 (Or.inl ⟨rfl,hf⟩))
 exact ⟨this.1,this.2.1⟩
theorem TreesL.sec (h:TreesL L rs) {t:Nat} (hf:IsSec L rs t):6≤t∧t<L.length:=by
 have:=h.ok.lo (t,2) ((mem_all h.zero _).2 (Or.inr (Or.inl ⟨rfl,hf⟩)))
 exact ⟨this.1,this.2.1⟩
theorem TreesL.blk (h:TreesL L rs) {t:Nat} (hf:IsBlk L rs t):6≤t∧t<L.length:=by
 have:=h.ok.lo (t,3) ((mem_all h.zero _).2 (Or.inr (Or.inr ⟨rfl,hf⟩)))
 exact ⟨this.1,this.2.1⟩
theorem TreesL.firstOK {V:VolR} (h:TreesL V.C rs) {f:Nat} (hf:f ∈ rs.map (·.N)):FirstOK V f:=by
 obtain ⟨r,hr,rfl⟩:=List.mem_map.1 hf
 have nums: ∀ (Pc:Nat→Prop) (t:Nat),(∀ j,j<32→num (cl V.C t) (2*j)≠0→Pc (num (cl V.C t) (2*j)%32768))→NumsOK Pc V.C t:=by
   intro Pc t hp j
   by_cases hj:j<32
   · rw [numsOf_get _ _ hj];exact ⟨num_lt _ _,hp j hj⟩
   · rw [List.getD_eq_getElem?_getD,List.getElem?_eq_none (by rw [numsOf_length];omega)]
     exact ⟨by decide,fun x=>absurd rfl x⟩
 have two: ∀ j,j<32→nm V.C r.N j≠0→j<2:=fun j hj h0=>by
   rcases Nat.lt_or_ge j 2 with x | x
   · exact x
   · exact absurd (h.zero r hr j (by omega) hj) h0
 have hsec: ∀ j,j<32→nm V.C r.N j≠0→InR V (nm V.C r.N j%32768):=fun j hj h0=>h.sec ⟨r,hr,j,two j hj h0,h0,rfl⟩
 exact ⟨⟨h.fst ⟨r,hr,rfl⟩,nums _ _ hsec⟩,nums _ _ fun j hj h0=>⟨hsec j hj h0,nums _ _ fun k hk h1=>h.blk ⟨_,⟨r,hr,j,two j hj h0,h0,rfl⟩,k,hk,h1,rfl⟩⟩⟩
theorem TreesL.used (h:TreesL L rs) {b:Int} (hT:Told L rs b base6 (allTells L rs rs.length 0) R) (n:Nat) (hn:n<256):R.used.getD n 0=base6 n+useOf L rs n:=by
 rw [hT.used n hn,← occ_allTells h.zero];rfl
theorem TreesL.past (h:TreesL L rs) (n:Nat) (hn:L.length≤n):base6 n+useOf L rs n=0:=by
 have h6:=h.six
 rw [base6_eq,if_neg (by omega),Nat.zero_add,← occ_allTells h.zero]
 unfold occ
 rw [List.count_eq_zero]
 intro hm
 obtain ⟨x,hx,rfl⟩:=List.mem_map.1 hm
 have:=(h.ok.lo x hx).2.1
 omega
theorem TreesL.counts {V:VolR} (h:TreesL V.C rs) (hl: ∀ c ∈ V.C,c.length=64) (hf:firstsOf V=rs.map (·.N)) {b:Int} (hT:Told V.C rs b base6 (allTells V.C rs rs.length 0) R):
   countsP (usesOf V) (cntsOf V.C) V.C.length 256 0=countsFrom R 256 0:=by
 obtain ⟨_,k2⟩:=cnts_gen hl (by have:=h.six;omega)
 refine countsP_eq 256 0 fun j _ hj=> ?_
 have hj:j<256:=by omega
 have hu:=h.used hT j hj
 have hb:=h.past j
 have hc:countOf V.C j<256:=byteAt_lt _ _
 unfold badC badCount usedOf
 rw [uses_gen hf h.zero j hj,k2 j hj,hu,hT.hL]
 rw [Bool.eq_iff_iff]
 simp only [Bool.or_eq_true,Bool.and_eq_true,decide_eq_true_iff,beq_iff_eq,bne_iff_ne]
 constructor
 · rintro (x | x | ⟨x,y⟩)
   · left
     refine ⟨?_,x⟩
     rcases Nat.lt_or_ge j V.C.length with z | z
     · exact z
     · have:=hb z;omega
   · right;left;omega
   · right;right;exact ⟨x,y⟩
 · rintro (⟨_,x⟩ | x | ⟨x,y⟩)
   · left;exact x
   · right;left;omega
   · right;right;exact ⟨x,y⟩
theorem TreesL.mark {V:VolR} (h:TreesL V.C rs) (hl: ∀ c ∈ V.C,c.length=64) {b:Int} (hT:Told V.C rs b base6 (allTells V.C rs rs.length 0) R) (hc:countsFrom R 256 0= -1):
   ∀ r ∈ rs,∀ s ∈ toldFrom V.C r.N 32 0,markBad R s.number=markP (cntsOf V.C) s:=by
 intro r hr s hs
 obtain ⟨_,k2⟩:=cnts_gen hl (by have:=h.six;omega)
 rw [toldFrom_two (h.zero r hr)] at hs
 have hs': ∃ j,j<2∧nm V.C r.N j≠0∧(s=⟨r.N,j,nm V.C r.N j⟩∨s ∈ spFrom V.C (nm V.C r.N j%32768) 32 0):=by
   rw [toldFrom,toldFrom,toldFrom,List.append_nil] at hs
   rcases List.mem_append.1 hs with y | y
   · split at y
     · simp at y
     · rename_i h0;exact ⟨0,by omega,h0,List.mem_cons.1 y⟩
   · split at y
     · simp at y
     · rename_i h0;exact ⟨1,by omega,h0,List.mem_cons.1 y⟩
 obtain ⟨j,hj,h0,hd⟩:=hs'
 have key:s.number%32768<V.C.length∧1≤useOf V.C rs (s.number%32768):=by
   rcases hd with rfl | hm
   · have hs:IsSec V.C rs (nm V.C r.N j%32768):=⟨r,hr,j,hj,h0,rfl⟩
     exact ⟨(h.sec hs).2,use_sec hs⟩
   · obtain ⟨h1,_,h3,h4,h5⟩:=spFrom_mem _ _ _ _ _ hm
     have hb:IsBlk V.C rs (s.number%32768):=⟨_,⟨r,hr,j,hj,h0,rfl⟩,s.index,by omega,by rw [← h4];exact h5,by rw [← h4]⟩
     exact ⟨(h.blk hb).2,use_blk hb⟩
 have h256:=h.len
 have hn:s.number%32768<256:=by omega
 have hu:=h.used hT _ hn
 have hbc:=countsFrom_none 256 0 hc (s.number%32768) (by omega) (by omega)
 unfold badCount usedOf at hbc
 rw [hT.hL,hu,Bool.or_eq_false_iff,Bool.and_eq_false_iff] at hbc
 have hle:base6 (s.number%32768)+useOf V.C rs (s.number%32768)≤countOf V.C (s.number%32768):=by
   rcases hbc.1 with x | x
   · have:=of_decide_eq_false x;omega
   · have:=of_decide_eq_false x;omega
 unfold markBad markP
 rw [k2 _ hn,hT.hL,hu]
 by_cases hm:32768≤s.number
 · rw [if_pos hm,decide_eq_true hm,Bool.true_and]
   by_cases h1:countOf V.C (s.number%32768)=1
   · have:base6 (s.number%32768)+useOf V.C rs (s.number%32768)=1:=by omega
     rw [this,h1];rfl
   · rw [decide_eq_true h1]
     simp [h1]
 · rw [if_neg hm,decide_eq_false hm,Bool.false_and]
theorem find_noneM {p:SpotN→Bool} {l:List SpotN} (h:badTab (l.find? p)= -1): ∀ s ∈ l,p s=false:=by
 cases hf:l.find? p with
 | none=>intro s hs;simpa using List.find?_eq_none.1 hf s hs
 | some s=>rw [hf] at h;change (s.table:Int)= -1 at h;omega
theorem told_mem1 {C:List Clus} {t j:Nat} (hj:j<2) (h0:nm C t j≠0) (s:SpotN) (hs:s=⟨t,j,nm C t j⟩∨s ∈ spFrom C (nm C t j%32768) 32 0):s ∈ toldFrom C t 2 0:=by
 rw [toldFrom,toldFrom,toldFrom,List.append_nil]
 have:j=0∨j=1:=by omega
 rcases this with rfl | rfl
 · rw [if_neg h0];exact List.mem_append.2 (Or.inl (List.mem_cons.2 hs))
 · rw [if_neg h0];exact List.mem_append.2 (Or.inr (List.mem_cons.2 hs))
theorem spFrom_in {C:List Clus} {t j:Nat} (h0:nm C t j≠0): ∀ m k,k≤j→j<k+m→(⟨t,j,nm C t j⟩:SpotN) ∈ spFrom C t m k
 | 0,k,h4,h5=>by omega
 | m+1,k,h4,h5=>by
   rw [spFrom]
   by_cases e:j=k
   · subst e;rw [if_neg h0];simp
   · exact List.mem_append.2 (Or.inr (spFrom_in h0 m (k+1) (by omega) (by omega)))
theorem TreesL.sound {V:VolR} (h:TreesL V.C rs) (hl: ∀ c ∈ V.C,c.length=64) {b:Int} (hT:Told V.C rs b base6 (allTells V.C rs rs.length 0) R) (hc:countsFrom R 256 0= -1) (hm:marksP V.C (cntsOf V.C) (rs.map (·.N))= -1):SoundL V.C rs:=by
 obtain ⟨_,k2⟩:=cnts_gen hl (by have:=h.six;omega)
 have h256:=h.len
 have hbad:=countsFrom_none 256 0 hc
 have hcnt: ∀ n,n<256→(n<V.C.length→base6 n+useOf V.C rs n≤countOf V.C n)∧countOf V.C n≠255∧(V.C.length≤n→countOf V.C n=0):=by
   intro n hn
   have hbc:=hbad n (by omega) (by omega)
   unfold badCount usedOf at hbc
   rw [hT.hL,h.used hT n hn,Bool.or_eq_false_iff,Bool.and_eq_false_iff,Bool.or_eq_false_iff,Bool.and_eq_false_iff] at hbc
   obtain ⟨h1,h2,h3⟩:=hbc
   refine ⟨fun hlt=> ?_,by simpa using h2,fun hge=> ?_⟩
   · rcases h1 with x | x
     · have:=of_decide_eq_false x;omega
     · have:=of_decide_eq_false x;omega
   · rcases h3 with x | x
     · have:=of_decide_eq_false x;omega
     · simpa using x
 have hall:=find_noneM hm
 have hmk: ∀ r ∈ rs,∀ s ∈ toldFrom V.C r.N 2 0,32768≤s.number→s.number%32768<256→countOf V.C (s.number%32768)=1:=by
   intro r hr s hs hmm hlt
   have h1:=hall s (List.mem_flatMap.2 ⟨r.N,List.mem_map.2 ⟨r,hr,rfl⟩,by rw [toldFrom_two (h.zero r hr)];exact hs⟩)
   unfold markP at h1
   rw [decide_eq_true hmm,Bool.true_and,k2 _ hlt] at h1
   have:=of_decide_eq_false h1
   omega
 have kinds: ∀ a b t,(t,a) ∈ allTells V.C rs rs.length 0→(t,b) ∈ allTells V.C rs rs.length 0→a=b:=fun a b t h1 h2=>h.ok.kind _ h1 _ h2 rfl
 refine ⟨h.len,h.six,fun r hr=>h.fst ⟨r,hr,rfl⟩,?_,h.zero,fun s hs=>h.sec hs,fun s hs=>h.blk hs,fun t h1 h2=> ?_,fun t h1 h2=> ?_,fun t h1 h2=> ?_,fun n hn=> ?_,fun n hn=> ?_,fun n hn hL=>(hcnt n hn).2.2 hL,fun r hr j hj hmm=> ?_,fun s hs k hk hmm=> ?_⟩
 · rw [List.nodup_iff_count]
   intro n
   rw [← count_all1 (L:=V.C) n rs h.zero,← allTells_all]
   exact h.ok.once n
 · have:=kinds 1 2 t ((mem_all h.zero _).2 (Or.inl ⟨rfl,h1⟩)) ((mem_all h.zero _).2 (Or.inr (Or.inl ⟨rfl,h2⟩)))
   omega
 · have:=kinds 1 3 t ((mem_all h.zero _).2 (Or.inl ⟨rfl,h1⟩)) ((mem_all h.zero _).2 (Or.inr (Or.inr ⟨rfl,h2⟩)))
   omega
 · have:=kinds 2 3 t ((mem_all h.zero _).2 (Or.inr (Or.inl ⟨rfl,h1⟩))) ((mem_all h.zero _).2 (Or.inr (Or.inr ⟨rfl,h2⟩)))
   omega
 · rcases Nat.lt_or_ge n V.C.length with z | z
   · exact (hcnt n hn).1 z
   · rw [h.past n z];exact Nat.zero_le _
 · have:=(hcnt n hn).2.1
   have:countOf V.C n<256:=byteAt_lt _ _
   omega
 · have h0:nm V.C r.N j≠0:=by intro e;rw [e] at hmm;omega
   have:=(h.sec ⟨r,hr,j,hj,h0,rfl⟩).2
   exact hmk r hr ⟨r.N,j,nm V.C r.N j⟩ (told_mem1 hj h0 _ (Or.inl rfl)) hmm (by show nm V.C r.N j%32768<256;omega)
 · obtain ⟨r,hr,j,hj,h0,rfl⟩:=hs
   have h1:nm V.C (nm V.C r.N j%32768) k≠0:=by intro e;rw [e] at hmm;omega
   have:=(h.blk ⟨_,⟨r,hr,j,hj,h0,rfl⟩,k,hk,h1,rfl⟩).2
   exact hmk r hr ⟨nm V.C r.N j%32768,k,nm V.C (nm V.C r.N j%32768) k⟩ (told_mem1 hj h0 _ (Or.inr (spFrom_in h1 32 0 (by omega) (by omega)))) hmm (by show nm V.C (nm V.C r.N j%32768) k%32768<256;omega)
end
end Go.Proofs.YtknjjjenklfeoaaGreatDoor
