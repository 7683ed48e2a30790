import Derived.Test.YtknjjjenklfeoaaGreatDoorT27
import Derived.Test.YtknjjjenklfeoaaGreatDoorT28
import Derived.Test.YtknjjjenklfeoaaGreatDoorT00
import Derived.Test.YtknjjjenklfeoaaGreatDoorT21
import Derived.Test.YtknjjjenklfeoaaGreatDoorT25
import Derived.Test.YtknjjjenklfeoaaGreatDoorT15
set_option maxHeartbeats 8000000
set_option maxRecDepth 100000
namespace Go.Proofs.YtknjjjenklfeoaaGreatDoor
open Go.RowKit
attribute [local go_sem ↓] loadVar_clus storeVar_clus zeroValue_clus loadVar_op
attribute [local go_sem] run_loadClus run_storeClus run_zeroClus run_storeClus_new run_loadClus_new zc_length run_loadOp HasAt_drew cellsAt_drew
theorem putsAll_pos (l:List (Option (Nat × Clus))): ∀ V:VolR,V.L.length≤(putsAll V l).L.length:=by
 induction l with
 | nil=>intro V;exact Nat.le_refl _
 | cons x r ih=>
   intro V
   refine Nat.le_trans ?_ (ih (putsOne V x))
   cases x with
   | none=>
     show V.L.length≤(flushV V).L.length
     unfold flushV
     split
     · simp
     · exact Nat.le_refl _
   | some y=>
     show V.L.length≤(putV V y.1 y.2).L.length
     unfold putV
     split
     · exact Nat.le_refl _
     · show V.L.length≤((completeV V).L++[_]).length
       unfold completeV
       split
       · show V.L.length≤((V.L++_)++[_]).length;simp
       · simp
theorem Puts.lenL {V V':VolR} (h:Puts V V'):V.L.length≤V'.L.length:=by
 obtain ⟨l,rfl⟩:=h
 exact putsAll_pos l V
theorem puts_write (V:VolR) (n:Int) (data:Clus):Puts V (writeV V n data).1:=by
 have h1:=puts_letGo (puts_wnb (Puts.refl V) (placeOf V n) data) (toldBy [(placeOf V n).block])
 have h2:=puts_letGo (puts_wnt (Puts.refl V) (placeOf V n) data) (toldBy [(placeOf V n).second,(placeOf V n).block])
 have h3:=((Puts.refl V).put ((placeOf V n).block%32768) data).flush
 have h0:=Puts.refl V
 unfold writeV writeR
 generalize letGoV (wnbV V (placeOf V n) data) (toldBy [(placeOf V n).block])=A at*
 generalize letGoV (wntV V (placeOf V n) data) (toldBy [(placeOf V n).second,(placeOf V n).block])=B at*
 split
 · exact h0
 · split
   · split
     · exact h2
     · exact h0
   · split
     · split
       · exact h1
       · exact h0
     · exact h3
end Go.Proofs.YtknjjjenklfeoaaGreatDoor
namespace Go.Proofs.YtknjjjenklfeoaaGreatDoor
section
variable {base:List Clus} {V:VolR} {N0:Nat} {E:List EntR} {s:ByteArray} {f n i:Nat}
theorem Vol.copy_lenL (h:Vol base V N0 E) (hf:f ∈ (rsOf N0 E).map (·.N)) (hn:n<256) (h0:countOf V.C n=0) (hfit:fitsB (cntsOf V.C) (toldAll V.C f)=true):(copyV V f n).L.length≤V.L.length+21∧V.L.length≤(copyV V f n).L.length:=by
 obtain ⟨e1,_⟩:=h.copyA hf hn
 obtain ⟨e2,_⟩:=h.copied hf hn h0 hfit
 have hp:=(puts_copy V f n).lenL
 have l1:=lengthenV_lenL' V [n]
 obtain ⟨_,_,_,a4,_⟩:=h.longer [n] (by rw [lastOf_one];exact hn)
 obtain ⟨r,hr,rfl⟩:=List.mem_map.1 hf
 have h6:=h.sound.fst r hr
 have l2:=epoch_lenL (lengthenV V [n]) (bareList (lengthenV V [n]).C r.N)
 have l3:(bareList (lengthenV V [n]).C r.N).length≤3:=by
   unfold bareList
   rw [a4 r.N (by omega),List.length_map,List.length_cons]
   have:=toldBy_few (cl V.C r.N) (fun i h1 h2=>h.sound.zero r hr i h1 h2)
   omega
 rw [← e1] at l2
 have l4:=epoch_lenL (copy1 V r.N n) (cntPuts (copyCnt V.C r.N n)++[(n,cl (copy1 V r.N n).C r.N)])
 rw [← e2] at l4
 have l5:(cntPuts (copyCnt V.C r.N n)++[(n,cl (copy1 V r.N n).C r.N)]).length=5:=rfl
 omega
theorem Vol.num6 (h:Vol base V N0 E):num (cl V.C 0) 6=N0:=h.file.num6
theorem Vol.roots0 (_h:Vol base V N0 E):N0 ∈ (rsOf N0 E).map (·.N):=by simp [rsOf]
theorem Vol.rootsE (_h:Vol base V N0 E) (hi:i<E.length):(E.getD i ze).first ∈ (rsOf N0 E).map (·.N):=by
 have hg:(E.getD i ze)=E[i]:=by rw [List.getD_eq_getElem?_getD,List.getElem?_eq_getElem hi];rfl
 rw [hg]
 exact List.mem_map.2 ⟨rootE E[i],rsOf_mem.2 (Or.inr ⟨_,List.getElem_mem hi,rfl⟩),rfl⟩
theorem Vol.firstE (h:Vol base V N0 E) (hi:i<E.length) (he:entR V s=(((i:Nat):Int),0)):firstE V s=(E.getD i ze).first:=by
 unfold Go.Proofs.YtknjjjenklfeoaaGreatDoor.firstE
 rw [he,h.ents.1]
 show ((pad4 E).getD i ze).first=_
 rw [pad4_get i hi]
theorem Vol.copyR_yes (h:Vol base V N0 E) (hf:f ∈ (rsOf N0 E).map (·.N)) (hr:roomR V.C f=true): ∃ n,n<256∧countOf V.C n=0∧fitsB (cntsOf V.C) (toldAll V.C f)=true∧copyR V f=(copyV V f n,n,0):=by
 obtain ⟨h1,h2⟩:=(h.room hf).1 hr
 obtain ⟨n,hn,hlt,h0⟩:=lowFree_one h1
 obtain ⟨k1,k2⟩:=h.ok.cnts rfl
 refine ⟨n,hlt,by rw [← k2 n hlt];exact h0,h2,?_⟩
 unfold copyR
 rw [if_pos ⟨h1,h2⟩,hn,List.getD_cons_zero]
theorem Vol.copyR_no (h:Vol base V N0 E) (hf:f ∈ (rsOf N0 E).map (·.N)) (hr:roomR V.C f=false):copyR V f=(V,0,5):=by
 unfold copyR
 rw [if_neg (fun x=>by rw [(h.room hf).2 x] at hr;cases hr)]
theorem Vol.takeCases (h:Vol base V N0 E) (s:ByteArray):
   (∃ c,c≠0∧takeR V s=(V,c)∧refTakeR (dskOf V.C N0 E) s=(dskOf V.C N0 E,c))∨
     ((refTakeR (dskOf V.C N0 E) s).2=0∧roomR V.C N0=false∧takeR V s=(V,5))∨
     ((refTakeR (dskOf V.C N0 E) s).2=0∧roomR V.C N0=true∧(takeR V s).2=0∧(takeR V s).1.L.length≤V.L.length+100∧V.L.length≤(takeR V s).1.L.length∧ ∃ E',Came base V N0 E (takeR V s).1 N0 E' (refTakeR (dskOf V.C N0 E) s).1):=by
 have h4:=h.file.ents.len
 unfold takeR refTakeR
 rw [h.find,dsk_len,h.ents.2,h.ents.1,h.num6]
 by_cases hnm:isNameB s.data.toList=false
 · rw [if_pos hnm,if_pos hnm]
   exact Or.inl ⟨2,by decide,rfl,rfl⟩
 rw [if_neg hnm,if_neg hnm]
 have hnt:isNameB s.data.toList=true:=by cases e:isNameB s.data.toList;exact absurd e hnm;rfl
 by_cases hf:0≤findE (pad4 E) s
 · rw [if_pos hf,if_pos hf]
   exact Or.inl ⟨3,by decide,rfl,rfl⟩
 rw [if_neg hf,if_neg hf]
 by_cases hl:E.length=4
 · rw [if_pos hl,if_pos (show 4≤E.length by omega)]
   exact Or.inl ⟨5,by decide,rfl,rfl⟩
 rw [if_neg hl,if_neg (show ¬ 4≤E.length by omega)]
 right
 cases hr:roomR V.C N0 with
 | false=>
   left
   rw [h.copyR_no h.roots0 hr]
   exact ⟨rfl,rfl,rfl⟩
 | true=>
   right
   obtain ⟨n,hn,h0,hfit,e⟩:=h.copyR_yes h.roots0 hr
   have hnew:=h.fresh (s:=s) (by rw [h.ents.1];omega)
   have h6:=h.sound.free_six hn h0
   have hE':=h.file.ents.snoc hnt hnew (by omega) (show n≠0 by omega) (by omega)
   obtain ⟨t1,t2⟩:=h.take hnt hnew (by omega) hn h0 hfit
   have l1:=h.copy_lenL h.roots0 hn h0 hfit
   have l2:=epoch_lenL (copyV V N0 n) [(5,listBytes (E++[⟨s.data.toList,n⟩]))]
   rw [← t1] at l2
   have l3:=(puts_epoch (Puts.refl (copyV V N0 n)) [(5,listBytes (E++[⟨s.data.toList,n⟩]))]).lenL
   rw [← t1] at l3
   simp only [List.length_cons,List.length_nil] at l2
   have e2:flushV (putV (copyV V N0 n) 5 (listTo ((pad4 E).set E.length ⟨s.data.toList,n⟩) 4))=takeV V N0 n (E++[⟨s.data.toList,n⟩]):=by
     rw [pad4_snoc _ (by omega),hE'.clus]
     rfl
   rw [e,if_pos rfl]
   dsimp only
   rw [e2]
   generalize takeV V N0 n (E++[⟨s.data.toList,n⟩])=W at*
   refine ⟨rfl,rfl,rfl,by omega,by omega,E++[⟨s.data.toList,n⟩],t2.vol,?_,t2.exact⟩
   rw [t2.holds]
   rfl
theorem Ok.goes {W:VolR} {T N1:Nat} {E1:List EntR} {D:DiskR} (ok:Ok W.C T N1 E1 D) (hT:W.C.length=T) (hs:SoundL W.C (rsOf N0 E)) (hf:f ∈ (rsOf N0 E).map (·.N)) (hl:Lets W N1 E1 (heldAll W.C f)):Goes W f:=by
 refine ⟨hs.len,hs.firstOK hf,fun g hg=> ?_⟩
 obtain ⟨o1,o2,_⟩:=ok.letGo1 hT hl
 have s1:=o1.sound
 rw [padTo_self o2] at s1
 rw [o1.firsts] at hg
 exact s1.firstOK hg
theorem Vol.dropW (h:Vol base V N0 E) (hi:i<E.length):dropW V i=dropH V (E.eraseIdx i):=by
 unfold Go.Proofs.YtknjjjenklfeoaaGreatDoor.dropW
 rw [h.ents.1,pad4_less i hi h.file.ents.len,(h.file.ents.erase i).clus]
 rfl
theorem Vol.dropGoes (h:Vol base V N0 E) (he:(entR V s).2=0):Goes (Go.Proofs.YtknjjjenklfeoaaGreatDoor.dropW V (entR V s).1.toNat) (Go.Proofs.YtknjjjenklfeoaaGreatDoor.firstE V s):=by
 rcases h.there (s:=s) with ⟨m,hm,_,e,_⟩ | ⟨i,hi,e,_⟩
 · rw [e] at he;exact absurd he hm
 · rw [h.firstE hi e,e]
   show Goes (Go.Proofs.YtknjjjenklfeoaaGreatDoor.dropW V i) _
   rw [h.dropW hi]
   obtain ⟨_,d2,d3,d4,d5,_⟩:=h.drop hi
   exact d2.goes d3 d4 (h.rootsE hi) d5
theorem Vol.dropCases (h:Vol base V N0 E) (s:ByteArray):
   (∃ c,c≠0∧dropR V s=(V,c)∧refDropR (dskOf V.C N0 E) s=(dskOf V.C N0 E,c))∨
     ((refDropR (dskOf V.C N0 E) s).2=0∧(dropR V s).2=0∧(dropR V s).1.L.length≤V.L.length+100∧V.L.length≤(dropR V s).1.L.length∧ ∃ E',Came base V N0 E (dropR V s).1 N0 E' (refDropR (dskOf V.C N0 E) s).1):=by
 unfold dropR refDropR
 rcases h.there (s:=s) with ⟨m,hm,_,e1,e2⟩ | ⟨i,hi,e1,e2,_⟩
 · left
   refine ⟨m,hm,?_,?_⟩
   · rw [e1,if_neg hm]
   · rw [e2,if_neg hm]
 · right
   have hfe:=h.firstE hi e1
   rw [hfe,e1,e2]
   dsimp only
   rw [if_pos rfl,if_pos rfl,Int.toNat_natCast,h.dropW hi]
   obtain ⟨d1,d2,d3,d4,d5,d6⟩:=h.drop hi
   have l1:=epoch_lenL V [(5,listBytes (E.eraseIdx i))]
   rw [← d1] at l1
   simp only [List.length_cons,List.length_nil] at l1
   have l2:=d2.letGo_lenL d3 d5
   have l3:=(puts_letGo (puts_epoch (Puts.refl V) [(5,listBytes (E.eraseIdx i))]) (heldAll (dropH V (E.eraseIdx i)).C (E.getD i ze).first)).lenL
   rw [← d1] at l3
   generalize dropH V (E.eraseIdx i)=W at*
   generalize letGoV W (heldAll W.C (E.getD i ze).first)=W2 at*
   refine ⟨rfl,rfl,by dsimp only;omega,l3,E.eraseIdx i,d6.vol,?_,d6.exact⟩
   rw [d6.holds]
   rfl
theorem Vol.returnHyps (h:Vol base V N0 E) (he:(entR V s).2=0):FirstOK V (Go.Proofs.YtknjjjenklfeoaaGreatDoor.firstE V s)∧((copyR V (Go.Proofs.YtknjjjenklfeoaaGreatDoor.firstE V s)).2.2=0→Goes (retW (copyR V (Go.Proofs.YtknjjjenklfeoaaGreatDoor.firstE V s)).1 (copyR V (Go.Proofs.YtknjjjenklfeoaaGreatDoor.firstE V s)).2.1) (num (cl (copyR V (Go.Proofs.YtknjjjenklfeoaaGreatDoor.firstE V s)).1.C 0) 6)):=by
 rcases h.there (s:=s) with ⟨m,hm,_,e,_⟩ | ⟨i,hi,e,_⟩
 · rw [e] at he;exact absurd he hm
 · rw [h.firstE hi e]
   refine ⟨h.sound.firstOK (h.rootsE hi),fun hc=> ?_⟩
   cases hr:roomR V.C (E.getD i ze).first with
   | false=>rw [h.copyR_no (h.rootsE hi) hr] at hc;cases hc
   | true=>
     obtain ⟨n,hn,h0,hfit,e2⟩:=h.copyR_yes (h.rootsE hi) hr
     obtain ⟨_,_,o1,_⟩:=h.copied (h.rootsE hi) hn h0 hfit
     obtain ⟨_,d2,d3,d4,d5,_⟩:=h.ret hi hn h0 hfit
     rw [e2]
     dsimp only
     rw [o1.file.num6]
     exact d2.goes d3 d4 h.roots0 d5
theorem Vol.returnCases (h:Vol base V N0 E) (s:ByteArray):
   (∃ c,c≠0∧returnR V s=(V,c)∧refReturnR (dskOf V.C N0 E) s=(dskOf V.C N0 E,c))∨
     ((refReturnR (dskOf V.C N0 E) s).2=0∧ ∃ i,i<E.length∧refFind (dskOf V.C N0 E) s=(i:Int)∧((roomR V.C (E.getD i ze).first=false∧returnR V s=(V,5))∨
       (roomR V.C (E.getD i ze).first=true∧(returnR V s).2=0∧(returnR V s).1.L.length≤V.L.length+100∧V.L.length≤(returnR V s).1.L.length∧ ∃ N1,Came base V N0 E (returnR V s).1 N1 E (refReturnR (dskOf V.C N0 E) s).1))):=by
 unfold returnR refReturnR
 rcases h.there (s:=s) with ⟨m,hm,_,e1,e2⟩ | ⟨i,hi,e1,e2,e3⟩
 · left
   refine ⟨m,hm,?_,?_⟩
   · rw [e1,if_neg hm]
   · rw [e2,if_neg hm]
 · right
   have hfe:=h.firstE hi e1
   rw [hfe,e1,e2]
   dsimp only
   rw [if_pos rfl,if_pos rfl,Int.toNat_natCast]
   refine ⟨rfl,i,hi,e3,?_⟩
   cases hr:roomR V.C (E.getD i ze).first with
   | false=>
     left
     rw [h.copyR_no (h.rootsE hi) hr]
     exact ⟨rfl,rfl⟩
   | true=>
     right
     obtain ⟨n,hn,h0,hfit,e4⟩:=h.copyR_yes (h.rootsE hi) hr
     obtain ⟨_,_,o1,_⟩:=h.copied (h.rootsE hi) hn h0 hfit
     obtain ⟨d1,d2,d3,d4,d5,d6⟩:=h.ret hi hn h0 hfit
     have hpic:(picAt (dskOf V.C N0 E).L i).C=(retD (dskOf V.C N0 E) i).C:=by
       show _=((dskOf V.C N0 E).L.getD i ⟨[],[]⟩).C
       unfold picAt
       have hil:i<(dskOf V.C N0 E).L.length:=by rw [dsk_len];exact hi
       rw [List.getD_eq_getElem?_getD,List.getD_eq_getElem?_getD,List.getElem?_eq_getElem hil]
       rfl
     have l0:=h.copy_lenL (h.rootsE hi) hn h0 hfit
     have l1:=epoch_lenL (copyV V (E.getD i ze).first n) [(0,headBytes (lenTo V.C [n]) n)]
     rw [← d1] at l1
     simp only [List.length_cons,List.length_nil] at l1
     have l2:=d2.letGo_lenL d3 d5
     have l3:=(puts_letGo (puts_epoch (puts_copy V (E.getD i ze).first n) [(0,headBytes (lenTo V.C [n]) n)]) (heldAll (retH V (E.getD i ze).first n).C N0)).lenL
     rw [← d1] at l3
     rw [e4]
     dsimp only
     rw [if_pos rfl,o1.file.num6]
     dsimp only
     have e5:retW (copyV V (E.getD i ze).first n) n=retH V (E.getD i ze).first n:=rfl
     rw [e5]
     generalize retH V (E.getD i ze).first n=W at*
     generalize letGoV W (heldAll W.C N0)=W2 at*
     refine ⟨rfl,rfl,by omega,l3,n,d6.vol,?_,d6.exact⟩
     rw [d6.holds,hpic]
     rfl
end
section
variable {base:List Clus} {V:VolR} {N0:Nat} {E:List EntR}
theorem toldBy_len (ns:List Nat):(toldBy ns).length≤ns.length:=by
 unfold toldBy
 rw [List.length_map]
 exact List.length_filter_le _ _
theorem flat_len {α:Type} {f:α→List Nat} {m:Nat}: ∀ l:List α,(∀ x ∈ l,(f x).length≤m)→(l.flatMap f).length≤m*l.length
 | [],_=>by simp
 | a :: r,h=>by
   have h1:=flat_len r (fun x hx=>h x (List.mem_cons_of_mem _ hx))
   have h2:=h a (List.mem_cons_self ..)
   rw [List.flatMap_cons,List.length_append,List.length_cons,Nat.mul_add,Nat.mul_one]
   omega
theorem toldAll_len66 {C:List Clus} {f:Nat} (hz: ∀ i,1<i→i<32→nm C f i=0):(toldAll C f).length≤66:=by
 have h1:(toldBy (numsOf (cl C f))).length≤2:=by
   rw [toldBy_two _ hz]
   exact toldBy_len _
 have h2:=flat_len (f:=fun s=>s :: toldBy (numsOf (cl C s))) (m:=33) (toldBy (numsOf (cl C f))) (fun x _=>by
   have:=toldBy_len (numsOf (cl C x))
   rw [numsOf_length] at this
   rw [List.length_cons];omega)
 unfold toldAll
 omega
theorem bumps_get: ∀ (us M:List Nat) (n:Nat),n<M.length→(bumps M us).getD n 0=M.getD n 0+us.count n
 | [],M,n,_=>by simp [bumps]
 | u :: r,M,n,hn=>by
   have ih:=bumps_get r (bump M u) n (by rw [bump_length];exact hn)
   show (bumps (bump M u) r).getD n 0=_
   rw [ih,List.count_cons]
   unfold bump
   rw [List.getD_eq_getElem?_getD,List.getElem?_set,List.getD_eq_getElem?_getD]
   by_cases e:u=n
   · subst e
     rw [if_pos rfl,if_pos hn]
     simp [List.getD_eq_getElem?_getD]
     omega
   · rw [if_neg e]
     simp [e]
theorem onesTo6 (n:Nat):(onesTo 6).getD n 0=base6 n:=by
 rw [base6_eq]
 unfold onesTo
 rw [List.getD_eq_getElem?_getD]
 by_cases h:n<6
 · rw [List.getElem?_append_left (by simpa using h),List.getElem?_replicate,if_pos h,if_pos h];rfl
 · rw [List.getElem?_append_right (by simpa using h),List.getElem?_replicate,if_neg h]
   split <;> rfl
theorem Vol.heldSum (h:Vol base V N0 E) (n:Nat):((firstsOf V).flatMap (heldAll V.C)).count n=useOf V.C (rsOf N0 E) n:=by
 rw [h.firsts]
 have key: ∀ rs:List RootR,(∀ r ∈ rs,r ∈ rsOf N0 E)→((rs.map (·.N)).flatMap (heldAll V.C)).count n=useOf V.C rs n:=by
   intro rs
   induction rs with
   | nil=>intro _;rfl
   | cons r t ih=>
     intro hr
     have h1:=ih (fun x hx=>hr x (List.mem_cons_of_mem _ hx))
     have h2:=count_held (h.sound.zero r (hr r (List.mem_cons_self ..))) n
     rw [List.map_cons,List.flatMap_cons,List.count_append,h1,h2]
     simp [useOf]
 exact key _ (fun _ hr=>hr)
theorem Vol.uses (h:Vol base V N0 E) (n:Nat) (hn:n<256):(usesOf V).getD n 0=base6 n+useOf V.C (rsOf N0 E) n:=by
 unfold usesOf useAll
 rw [bumps_get _ _ _ (by rw [onesTo_length 6 (by omega)];exact hn),onesTo6 n,h.heldSum]
def sumTo (f:Nat→Nat):Nat→Nat
 | 0=>0
 | k+1=>sumTo f k+f k
theorem sumTo_count (k:Nat): ∀ l:List Nat,sumTo (fun n=>l.count n) k≤l.length
 | []=>by
   have: ∀ k,sumTo (fun n=>([]:List Nat).count n) k=0:=fun k=>by
     induction k with
     | zero=>rfl
     | succ k ih=>rw [sumTo,ih];rfl
   rw [this];exact Nat.zero_le _
 | a :: r=>by
   have ih:=sumTo_count k r
   have: ∀ k,sumTo (fun n=>(a :: r).count n) k=sumTo (fun n=>r.count n) k+(if a<k then 1 else 0):=fun k=>by
     induction k with
     | zero=>rfl
     | succ k ih2=>
       rw [sumTo,sumTo,ih2,List.count_cons]
       by_cases e:a=k
       · subst e;simp;omega
       · have h2:(a == k)=false:=by simpa using e
         have h3:(a<k+1)↔(a<k):=by omega
         simp only [h2,h3]
         simp
         omega
   rw [this,List.length_cons]
   split <;> omega
theorem cntTo_sum {p:Nat→Bool} {f:Nat→Nat} (h: ∀ n,p n=true→0<f n): ∀ k,cntTo p k≤sumTo f k
 | 0=>Nat.le_refl _
 | k+1=>by
   have ih:=cntTo_sum h k
   rw [cntTo,sumTo]
   cases hp:p k with
   | true=>have:=h k hp;rw [if_pos rfl];omega
   | false=>rw [if_neg (by decide)];omega
theorem sumTo_add (f g:Nat→Nat): ∀ k,sumTo (fun n=>f n+g n) k=sumTo f k+sumTo g k
 | 0=>rfl
 | k+1=>by rw [sumTo,sumTo,sumTo,sumTo_add f g k];omega
theorem sum_base6:sumTo base6 256=6:=by decide +kernel
theorem Vol.heldLen (h:Vol base V N0 E):((firstsOf V).flatMap (heldAll V.C)).length≤67*(E.length+1):=by
 rw [h.firsts]
 have:=flat_len (f:=heldAll V.C) (m:=67) ((rsOf N0 E).map (·.N)) (fun x hx=>by
   obtain ⟨r,hr,rfl⟩:=List.mem_map.1 hx
   have:=toldAll_len66 (h.sound.zero r hr)
   unfold heldAll
   rw [List.length_cons];omega)
 rw [List.length_map] at this
 have e:(rsOf N0 E).length=E.length+1:=by simp [rsOf]
 rw [e] at this
 exact this
theorem cntTo_cong {p q:Nat→Bool} (k:Nat) (h: ∀ n,n<k→p n=q n):cntTo p k=cntTo q k:=by
 induction k with
 | zero=>rfl
 | succ k ih=>rw [cntTo,cntTo,ih (fun n hn=>h n (by omega)),h k (by omega)]
def useB (V:VolR) (N0:Nat) (E:List EntR) (n:Nat):Bool:=decide (0<base6 n+useOf V.C (rsOf N0 E) n)
theorem Vol.used (h:Vol base V N0 E):cntTo (usedM (usesOf V)) 256=cntTo (useB V N0 E) 256:=cntTo_cong 256 fun n hn=>by unfold usedM useB;rw [h.uses n hn]
theorem Vol.used_le (h:Vol base V N0 E):cntTo (useB V N0 E) 256≤6+67*(E.length+1):=by
 have h1:=cntTo_sum (p:=useB V N0 E) (f:=fun n=>base6 n+((firstsOf V).flatMap (heldAll V.C)).count n) (fun n hn=>by
   rw [h.heldSum]
   exact of_decide_eq_true hn) 256
 rw [sumTo_add,sum_base6] at h1
 have h2:=sumTo_count 256 ((firstsOf V).flatMap (heldAll V.C))
 have h3:=h.heldLen
 omega
theorem cntTo_not {p:Nat→Bool}: ∀ k,cntTo p k<k→ ∃ n,n<k∧p n=false
 | 0,h=>by omega
 | k+1,h=>by
   rw [cntTo] at h
   cases hp:p k with
   | false=>exact ⟨k,by omega,hp⟩
   | true=>
     rw [hp,if_pos rfl] at h
     obtain ⟨n,hn,h1⟩:=cntTo_not (p:=p) k (by omega)
     exact ⟨n,by omega,h1⟩
theorem lowTo_some {c:List UInt8} {n:Nat} (h0:byteAt c n=0): ∀ k,n<k→0<(lowTo c 1 k).length
 | 0,h=>by omega
 | k+1,h=>by
   rw [lowTo]
   by_cases e:(lowTo c 1 k).length=1
   · rw [if_pos e];omega
   · rw [if_neg e]
     by_cases e2:n=k
     · subst e2;rw [if_pos h0];simp
     · have:=lowTo_some h0 k (by omega)
       split
       · simp
       · exact this
theorem Vol.hasRoom (h:Vol base V N0 E) (hx:ExactS V.C (rsOf N0 E)) (h2:E.length≤2) (hq: ∀ u,useOf V.C (rsOf N0 E) u≤188) {f:Nat} (hf:f ∈ (rsOf N0 E).map (·.N)):roomR V.C f=true:=by
 obtain ⟨k1,k2⟩:=h.ok.cnts rfl
 have hlen:=h.sound.len
 rw [h.room hf]
 have hu:=h.used_le
 obtain ⟨n,hn,hp⟩:=cntTo_not (p:=useB V N0 E) 256 (by omega)
 have h0:countOf V.C n=0:=by
   rw [hx.eq n hn]
   have:=of_decide_eq_false hp
   omega
 refine ⟨lowTo_some (by rw [k2 n hn];exact h0) 256 hn,?_⟩
 obtain ⟨r,hr,rfl⟩:=List.mem_map.1 hf
 have hin: ∀ u ∈ toldAll V.C r.N,u<V.C.length:=fun u hu=>(h.sound.held_lt hr u (List.mem_cons.2 (Or.inr hu))).2
 rw [fits_iff _ _ (fun u hu=>by rw [k1];have:=hin u hu;omega)]
 intro u hu
 have h3:=hin u hu
 have h6:=(h.sound.held_lt hr u (List.mem_cons.2 (Or.inr hu))).1
 rw [k2 u (by omega),hx.eq u (by omega),base6_eq,if_neg (by omega)]
 have h4:=hq u
 have h5:=toldAll_len66 (h.sound.zero r hr)
 have h7:(toldAll V.C r.N).count u≤(toldAll V.C r.N).length:=List.count_le_length ..
 omega
theorem mem_rawBy {c:Clus} {x:Nat} (h:x ∈ rawBy (numsOf c)): ∃ j,j<32∧x=num c (2*j)∧x≠0:=by
 unfold rawBy at h
 obtain ⟨h1,h2⟩:=List.mem_filter.1 h
 unfold numsOf at h1
 obtain ⟨j,hj,rfl⟩:=List.mem_map.1 h1
 exact ⟨j,List.mem_range.1 hj,rfl,by simpa using h2⟩
theorem mem_rawAll {C:List Clus} {f x:Nat} (hz: ∀ i,1<i→i<32→nm C f i=0) (h:x ∈ rawAll C f):
   (∃ j,j<2∧x=nm C f j∧x≠0)∨ ∃ j,j<2∧nm C f j≠0∧ ∃ k,k<32∧x=nm C (nm C f j%32768) k∧x≠0:=by
 unfold rawAll at h
 obtain ⟨s,hs,hx⟩:=List.mem_flatMap.1 h
 obtain ⟨j,hj,e,h0⟩:=mem_rawBy hs
 have hj2:j<2:=by
   by_cases h2:j<2
   · exact h2
   · exact absurd (e.trans (hz j (by omega) hj)) h0
 rcases List.mem_cons.1 hx with y | y
 · exact Or.inl ⟨j,hj2,by rw [y];exact e,by rw [y];exact h0⟩
 · obtain ⟨k,hk,e2,h1⟩:=mem_rawBy y
   refine Or.inr ⟨j,hj2,fun x=>h0 (e.trans x),k,hk,?_,h1⟩
   rw [e2,e]
theorem cntTo_none {p:Nat→Bool} (k:Nat) (h: ∀ n,n<k→p n=false):cntTo p k=0:=by
 induction k with
 | zero=>rfl
 | succ k ih=>rw [cntTo,ih (fun n hn=>h n (by omega)),h k (by omega)];rfl
theorem Vol.check (h:Vol base V N0 E) (hx:ExactS V.C (rsOf N0 E)):checkR V=⟨num (cl V.C 0) 4,cntTo (useB V N0 E) 256,0,0,0⟩:=by
 obtain ⟨k1,k2⟩:=h.ok.cnts rfl
 have hlen:=h.sound.len
 have hu:=h.uses
 have e1:cntTo (lostM (usesOf V) (cntsOf V.C)) 256=0:=cntTo_none 256 fun n hn=>by
   unfold lostM
   rw [hu n hn,k2 n hn,← hx.eq n hn]
   cases hc:countOf V.C n with
   | zero=>rfl
   | succ m=>rfl
 have e2:cntTo (overM (usesOf V) (cntsOf V.C)) 256=0:=cntTo_none 256 fun n hn=>by
   unfold overM
   rw [hu n hn,k2 n hn,← hx.eq n hn]
   simp
 have e3:lackAll V (usesOf V) (firstsOf V)=0:=by
   unfold lackAll lacks
   rw [List.length_eq_zero_iff,List.filter_eq_nil_iff]
   intro x hxm
   obtain ⟨f,hf,hr⟩:=List.mem_flatMap.1 hxm
   rw [h.firsts] at hf
   obtain ⟨r,hrr,rfl⟩:=List.mem_map.1 hf
   have hd:=mem_rawAll (h.sound.zero r hrr) hr
   have key:x%32768<256→countOf V.C (x%32768)≠1∨32768≤x→ ¬ lackB (usesOf V) x=true:=by
     intro hlt hor
     unfold lackB
     rw [hu _ hlt,← hx.eq _ hlt]
     rcases hor with y | y
     · simp [y]
     · simp [y]
   rcases hd with ⟨j,hj,e,h0⟩ | ⟨j,hj,h0,k,hk,e,h1⟩
   · have hs:=h.sound.sec (x%32768) ⟨r,hrr,j,hj,by rw [← e];exact h0,by rw [e]⟩
     refine key (by omega) ?_
     by_cases hc:countOf V.C (x%32768)=1
     · right
       rw [e]
       exact hx.lone1 r hrr j hj (by rw [← e];exact h0) (by rw [← e];exact hc)
     · exact Or.inl hc
   · have hsec:IsSec V.C (rsOf N0 E) (nm V.C r.N j%32768):=⟨r,hrr,j,hj,h0,rfl⟩
     have hb:=h.sound.blk (x%32768) ⟨nm V.C r.N j%32768,hsec,k,hk,by rw [← e];exact h1,by rw [e]⟩
     refine key (by omega) ?_
     by_cases hc:countOf V.C (x%32768)=1
     · right
       rw [e]
       exact hx.lone2 _ hsec k hk (by rw [← e];exact h1) (by rw [← e];exact hc)
     · exact Or.inl hc
 unfold checkR
 rw [e1,e2,e3,h.used]
end
section
variable {base:List Clus} {V:VolR} {N0:Nat} {E:List EntR} {data:Clus}
theorem Ok.letGo_cnt {T:Nat} {D:DiskR} {us:List Nat} (h:Ok V.C T N0 E D) (hT:V.C.length=T) (hl:Lets V N0 E us) (m:Nat) (hm:m<256):countOf (letGoV V us).C m+us.count m=countOf V.C m:=by
 obtain ⟨a1,a2,a3,_⟩:=h.letGo1 hT hl
 obtain ⟨_,_,b3,_⟩:=a1.marked a2
 have eC:(letGoV V us).C=(markLoneV (letGoV1 V us)).C:=by unfold letGoV;rw [flushV_C]
 rw [eC,b3 m hm]
 exact a3 m hm
theorem countOf_put {C:List Clus} {x:Nat} {c:Clus} (hx:x<C.length) (h5:5≤x) (m:Nat) (hm:m<256):countOf (putsC C [(x,c)]) m=countOf C m:=by
 have hlen:(putC C (x,c)).length=C.length:=by rw [putC_length];simp only;omega
 have hcl: ∀ t,cl (putC C (x,c)) t=if x=t then c else cl C t:=fun t=>by
   by_cases ht:t<C.length
   · rw [← vw_at (by rw [hlen];exact ht),vw_putC,vw_at ht]
   · rw [cl_past (by omega),cl_past (by omega),if_neg (by omega)]
 show countOf (putC C (x,c)) m=_
 unfold countOf
 rw [hcl,if_neg (by omega)]
theorem Vol.writeCnt (h:Vol base V N0 E) (n:Int) (hd:data.length=64): ∃ a c,∀ m,m<256→countOf (writeV V n data).1.C m≤if m=a∨m=c then 1 else countOf V.C m:=by
 have h7:=h.file.seven
 have hm:=h.file.most
 unfold writeV writeR
 by_cases hb:blockB n=true
 · have hlt:=blockB_lt hb
   rw [if_neg (by rw [hb];decide),h.place n]
   obtain ⟨p1,p2,p3,p4,p5⟩:=placed (V:=V) (N0:=N0) n.toNat
   rw [p1,p2]
   by_cases h2:nm V.C N0 (n.toNat / 32)<32768
   · rw [if_pos h2]
     by_cases hf:2≤(lowFree (cntsOf V.C) 2).length
     · rw [if_pos hf]
       obtain ⟨s,n',hF,hsn,hn,h0,h1⟩:=lowFree_two hf
       rw [byteAt_cnts h.file.lens (by omega) _ (by omega)] at h0 h1
       obtain ⟨_,c1,c2,c3,_⟩:=h.tab3 hlt hF hsn hn h0 h1 hd
       have hl:=(h.writeTable hlt hF hsn hn h0 h1 hd).1
       refine ⟨s,n',fun m hm'=> ?_⟩
       have:=c1.letGo_cnt c2 hl m hm'
       have:=c3 m hm'
       generalize letGoV (wntV V (findR V.C N0 n.toNat) data) (toldBy [nm V.C N0 (n.toNat / 32),numAt V.C N0 n.toNat])=W at*
       dsimp only
       omega
     · rw [if_neg hf]
       exact ⟨256,256,fun m hm'=>by rw [if_neg (by omega)];exact Nat.le_refl _⟩
   · rw [if_neg h2]
     by_cases h3:numAt V.C N0 n.toNat<32768
     · rw [if_pos h3]
       by_cases hf:0<(lowFree (cntsOf V.C) 1).length
       · rw [if_pos hf]
         obtain ⟨n',hF,hn,h0⟩:=lowFree_one hf
         rw [byteAt_cnts h.file.lens (by omega) _ (by omega)] at h0
         obtain ⟨_,c1,c2,c3,_⟩:=h.blk3 hlt hF hn h0 hd (by omega)
         have hl:=(h.writeBlock hlt hF hn h0 hd (by omega)).1
         refine ⟨n',n',fun m hm'=> ?_⟩
         have:=c1.letGo_cnt c2 hl m hm'
         have h9:=c3 m hm'
         generalize letGoV (wnbV V (findR V.C N0 n.toNat) data) (toldBy [numAt V.C N0 n.toNat])=W at*
         dsimp only
         by_cases e:m=n'
         · rw [if_pos e] at h9;rw [if_pos (Or.inl e)];omega
         · rw [if_neg e] at h9;rw [if_neg (by omega)];omega
       · rw [if_neg hf]
         exact ⟨256,256,fun m hm'=>by rw [if_neg (by omega)];exact Nat.le_refl _⟩
     · rw [if_neg h3]
       have eC:(flushV (putV V (numAt V.C N0 n.toNat%32768) data)).C=putsC V.C [(numAt V.C N0 n.toNat%32768,data)]:=by rw [flushV_C,putV_C];rfl
       have hbl:=h.sound.blk _ (numAt_isBlk (r:=⟨N0,0,[]⟩) (by simp [rsOf]) hlt (show numAt V.C N0 n.toNat≠0 by omega))
       refine ⟨256,256,fun m hm'=> ?_⟩
       rw [if_neg (by omega)]
       show countOf (flushV (putV V (numAt V.C N0 n.toNat%32768) data)).C m≤_
       rw [eC,countOf_put (by exact hbl.2) (by have:=hbl.1;simp only at this;omega) m hm']
       exact Nat.le_refl _
 · have hb':blockB n=false:=by simpa using hb
   rw [if_pos hb']
   exact ⟨256,256,fun m hm'=>by rw [if_neg (by omega)];exact Nat.le_refl _⟩
theorem Vol.told_le (h:Vol base V N0 E) (m:Nat) (hm:m<256):(toldAll V.C N0).count m≤countOf V.C m:=by
 have h1:=h.sound.cnt m hm
 have h2:=h.heldSum m
 have h3:(toldAll V.C N0).count m≤((firstsOf V).flatMap (heldAll V.C)).count m:=by
   rw [h.firsts]
   show _≤(((N0 :: (E.map rootE).map (·.N))).flatMap (heldAll V.C)).count m
   rw [List.flatMap_cons,List.count_append]
   unfold heldAll
   rw [List.count_cons]
   omega
 omega
theorem Vol.takeCnt (h:Vol base V N0 E) (s:ByteArray) (h0:(takeR V s).2=0): ∃ n,n<256∧countOf V.C n=0∧ ∀ m,m<256→countOf (takeR V s).1.C m=if n=m then 1 else countOf V.C m+(toldAll V.C N0).count m:=by
 unfold takeR at h0 ⊢
 rw [h.ents.2,h.ents.1,h.num6] at h0 ⊢
 by_cases hnm:isNameB s.data.toList=false
 · rw [if_pos hnm] at h0;cases h0
 rw [if_neg hnm] at h0 ⊢
 have hnt:isNameB s.data.toList=true:=by cases e:isNameB s.data.toList;exact absurd e hnm;rfl
 by_cases hf:0≤findE (pad4 E) s
 · rw [if_pos hf] at h0;cases h0
 rw [if_neg hf] at h0 ⊢
 by_cases hl:E.length=4
 · rw [if_pos hl] at h0;cases h0
 rw [if_neg hl] at h0 ⊢
 have h4:=h.file.ents.len
 cases hr:roomR V.C N0 with
 | false=>
   rw [h.copyR_no h.roots0 hr] at h0
   cases h0
 | true=>
   obtain ⟨n,hn,hz,hfit,e⟩:=h.copyR_yes h.roots0 hr
   have hnew:=h.fresh (s:=s) (by rw [h.ents.1];omega)
   have h6:=h.sound.free_six hn hz
   have hE':=h.file.ents.snoc hnt hnew (by omega) (show n≠0 by omega) (by omega)
   obtain ⟨t1,t2⟩:=h.take hnt hnew (by omega) hn hz hfit
   obtain ⟨_,_,_,a3,a4,_⟩:=h.copied h.roots0 hn hz hfit
   have h7:=h.file.seven
   have hT:lenTo V.C [n]=max V.C.length (n+1):=rfl
   have e2:flushV (putV (copyV V N0 n) 5 (listTo ((pad4 E).set E.length ⟨s.data.toList,n⟩) 4))=takeV V N0 n (E++[⟨s.data.toList,n⟩]):=by
     rw [pad4_snoc _ (by omega),hE'.clus]
     rfl
   have hc: ∀ m,m<256→countOf (takeV V N0 n (E++[⟨s.data.toList,n⟩])).C m=countOf (copyV V N0 n).C m:=fun m hm=>by
     rw [t1,epoch_C,countOf_put (by omega) (by omega) m hm]
   refine ⟨n,hn,hz,fun m hm=> ?_⟩
   rw [e,if_pos rfl]
   dsimp only
   rw [e2,hc m hm,a4 m hm]
end
end Go.Proofs.YtknjjjenklfeoaaGreatDoor
