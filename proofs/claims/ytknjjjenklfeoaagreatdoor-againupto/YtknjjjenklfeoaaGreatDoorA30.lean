import Derived.Test.YtknjjjenklfeoaaGreatDoorA28
import Derived.Test.YtknjjjenklfeoaaGreatDoorA29
import Derived.Test.YtknjjjenklfeoaaGreatDoorA00
import Derived.Test.YtknjjjenklfeoaaGreatDoorA22
import Derived.Test.YtknjjjenklfeoaaGreatDoorA26
import Derived.Test.YtknjjjenklfeoaaGreatDoorA16
set_option maxHeartbeats 8000000
set_option maxRecDepth 100000
namespace Go.Proofs.YtknjjjenklfeoaaGreatDoor
open Go.RowKit
attribute [local go_sem ↓] loadVar_clus storeVar_clus zeroValue_clus loadVar_op
attribute [local go_sem] run_loadClus run_storeClus run_zeroClus run_storeClus_new run_loadClus_new zc_length run_loadOp HasAt_drew cellsAt_drew
structure Went (w w':World) (p:Nat) (P:PairR) (S:Nat→Prop) (P':PairR) (S':Nat→Prop):Prop where
 at':PairAt w' p P' S'
 base:P'.B=P.B
 marks:P'.ms=P.ms
 ex:P'.ex=P.ex
 log:P'.V.L.length≤P.V.L.length+100
 logp:0<P.V.L.length→0<P'.V.L.length
 kept:Kept S w w'
 new: ∀ k,S' k→S k∨w.heap.size≤k
theorem putsAll_pos (l:List (Option (Nat × Clus))): ∀ V:VolR,V.L.length≤(putsAll V l).L.length:=by
 induction l with
 | nil=>intro V;exact Nat.le_refl _
 | cons x r ih=>
   intro V
   refine Nat.le_trans ?_ (ih (putsOne V x))
   cases x with
   | none=>
     show V.L.length≤(flushV V).L.length
     unfold flushV
     split
     · simp
     · exact Nat.le_refl _
   | some y=>
     show V.L.length≤(putV V y.1 y.2).L.length
     unfold putV
     split
     · exact Nat.le_refl _
     · show V.L.length≤((completeV V).L++[_]).length
       unfold completeV
       split
       · show V.L.length≤((V.L++_)++[_]).length;simp
       · simp
theorem Puts.lenL {V V':VolR} (h:Puts V V'):V.L.length≤V'.L.length:=by
 obtain ⟨l,rfl⟩:=h
 exact putsAll_pos l V
theorem Went.did {w w4 w5 w6:World} {p:Nat} {P:PairR} {S:Nat→Prop} {C1 L1 Qv:Value} {V':VolR} {D':DiskR} (h:PairAt w p P S) (hb:Below w.heap.size w w4) (hs:VStep w4 w5 P.v P.Cv P.Lv C1 L1 V') (hk:Kept (fun k=>k=P.y) w5 w6) (hr:DiskAt w6 P.y Qv D') (hq: ∀ g,Qv.ownBlock=some g→S g∨w.heap.size≤g)
   (hl:V'.L.length≤P.V.L.length+100) (hm:P.V.L.length≤V'.L.length):Went w w6 p P S { P with Cv:=C1,Lv:=L1,V:=V',D:=D',Pv:=Qv } (fun k=>(S k∨foot P.v C1 L1 k)∨Qv.ownBlock=some k):=by
 have h4:=h.below hb
 have h5:=h4.step hs
 refine ⟨h5.refStep hk hr,rfl,rfl,rfl,hl,fun h0=>Nat.lt_of_lt_of_le h0 hm,((Kept.of_below hb).trans (h4.step_kept hs)).trans (hk.mono fun k e=>by rw [e];exact h.inY),fun k hk'=> ?_⟩
 rcases hk' with x | x
 · rcases h4.step_new hs k x with y | y
   · exact Or.inl y
   · have:=hb.size;exact Or.inr (by omega)
 · exact hq k x
end Go.Proofs.YtknjjjenklfeoaaGreatDoor
namespace Go.Proofs.YtknjjjenklfeoaaGreatDoor
section
variable {base:List Clus} {V:VolR} {N0:Nat} {E:List EntR} {s:ByteArray} {f n i:Nat}
theorem Vol.copy_lenL (h:Vol base V N0 E) (hf:f ∈ (rsOf N0 E).map (·.N)) (hn:n<256) (h0:countOf V.C n=0) (hfit:fitsB (cntsOf V.C) (toldAll V.C f)=true):(copyV V f n).L.length≤V.L.length+21∧V.L.length≤(copyV V f n).L.length:=by
 obtain ⟨e1,_⟩:=h.copyA hf hn
 obtain ⟨e2,_⟩:=h.copied hf hn h0 hfit
 have hp:=(puts_copy V f n).lenL
 have l1:=lengthenV_lenL' V [n]
 obtain ⟨_,_,_,a4,_⟩:=h.longer [n] (by rw [lastOf_one];exact hn)
 obtain ⟨r,hr,rfl⟩:=List.mem_map.1 hf
 have h6:=h.sound.fst r hr
 have l2:=epoch_lenL (lengthenV V [n]) (bareList (lengthenV V [n]).C r.N)
 have l3:(bareList (lengthenV V [n]).C r.N).length≤3:=by
   unfold bareList
   rw [a4 r.N (by omega),List.length_map,List.length_cons]
   have:=toldBy_few (cl V.C r.N) (fun i h1 h2=>h.sound.zero r hr i h1 h2)
   omega
 rw [← e1] at l2
 have l4:=epoch_lenL (copy1 V r.N n) (cntPuts (copyCnt V.C r.N n)++[(n,cl (copy1 V r.N n).C r.N)])
 rw [← e2] at l4
 have l5:(cntPuts (copyCnt V.C r.N n)++[(n,cl (copy1 V r.N n).C r.N)]).length=5:=rfl
 omega
theorem Vol.num6 (h:Vol base V N0 E):num (cl V.C 0) 6=N0:=h.file.num6
theorem Vol.roots0 (_h:Vol base V N0 E):N0 ∈ (rsOf N0 E).map (·.N):=by simp [rsOf]
theorem Vol.rootsE (_h:Vol base V N0 E) (hi:i<E.length):(E.getD i ze).first ∈ (rsOf N0 E).map (·.N):=by
 have hg:(E.getD i ze)=E[i]:=by rw [List.getD_eq_getElem?_getD,List.getElem?_eq_getElem hi];rfl
 rw [hg]
 exact List.mem_map.2 ⟨rootE E[i],rsOf_mem.2 (Or.inr ⟨_,List.getElem_mem hi,rfl⟩),rfl⟩
theorem Vol.copyR_yes (h:Vol base V N0 E) (hf:f ∈ (rsOf N0 E).map (·.N)) (hr:roomR V.C f=true): ∃ n,n<256∧countOf V.C n=0∧fitsB (cntsOf V.C) (toldAll V.C f)=true∧copyR V f=(copyV V f n,n,0):=by
 obtain ⟨h1,h2⟩:=(h.room hf).1 hr
 obtain ⟨n,hn,hlt,h0⟩:=lowFree_one h1
 obtain ⟨k1,k2⟩:=h.ok.cnts rfl
 refine ⟨n,hlt,by rw [← k2 n hlt];exact h0,h2,?_⟩
 unfold copyR
 rw [if_pos ⟨h1,h2⟩,hn,List.getD_cons_zero]
theorem Vol.copyR_no (h:Vol base V N0 E) (hf:f ∈ (rsOf N0 E).map (·.N)) (hr:roomR V.C f=false):copyR V f=(V,0,5):=by
 unfold copyR
 rw [if_neg (fun x=>by rw [(h.room hf).2 x] at hr;cases hr)]
theorem Vol.takeCases (h:Vol base V N0 E) (s:ByteArray):
   (∃ c,c≠0∧takeR V s=(V,c)∧refTakeR (dskOf V.C N0 E) s=(dskOf V.C N0 E,c))∨
     ((refTakeR (dskOf V.C N0 E) s).2=0∧roomR V.C N0=false∧takeR V s=(V,5))∨
     ((refTakeR (dskOf V.C N0 E) s).2=0∧roomR V.C N0=true∧(takeR V s).2=0∧(takeR V s).1.L.length≤V.L.length+100∧V.L.length≤(takeR V s).1.L.length∧ ∃ E',Came base V N0 E (takeR V s).1 N0 E' (refTakeR (dskOf V.C N0 E) s).1):=by
 have h4:=h.file.ents.len
 unfold takeR refTakeR
 rw [h.find,dsk_len,h.ents.2,h.ents.1,h.num6]
 by_cases hnm:isNameB s.data.toList=false
 · rw [if_pos hnm,if_pos hnm]
   exact Or.inl ⟨2,by decide,rfl,rfl⟩
 rw [if_neg hnm,if_neg hnm]
 have hnt:isNameB s.data.toList=true:=by cases e:isNameB s.data.toList;exact absurd e hnm;rfl
 by_cases hf:0≤findE (pad4 E) s
 · rw [if_pos hf,if_pos hf]
   exact Or.inl ⟨3,by decide,rfl,rfl⟩
 rw [if_neg hf,if_neg hf]
 by_cases hl:E.length=4
 · rw [if_pos hl,if_pos (show 4≤E.length by omega)]
   exact Or.inl ⟨5,by decide,rfl,rfl⟩
 rw [if_neg hl,if_neg (show ¬ 4≤E.length by omega)]
 right
 cases hr:roomR V.C N0 with
 | false=>
   left
   rw [h.copyR_no h.roots0 hr]
   exact ⟨rfl,rfl,rfl⟩
 | true=>
   right
   obtain ⟨n,hn,h0,hfit,e⟩:=h.copyR_yes h.roots0 hr
   have hnew:=h.fresh (s:=s) (by rw [h.ents.1];omega)
   have h6:=h.sound.free_six hn h0
   have hE':=h.file.ents.snoc hnt hnew (by omega) (show n≠0 by omega) (by omega)
   obtain ⟨t1,t2⟩:=h.take hnt hnew (by omega) hn h0 hfit
   have l1:=h.copy_lenL h.roots0 hn h0 hfit
   have l2:=epoch_lenL (copyV V N0 n) [(5,listBytes (E++[⟨s.data.toList,n⟩]))]
   rw [← t1] at l2
   have l3:=(puts_epoch (Puts.refl (copyV V N0 n)) [(5,listBytes (E++[⟨s.data.toList,n⟩]))]).lenL
   rw [← t1] at l3
   simp only [List.length_cons,List.length_nil] at l2
   have e2:flushV (putV (copyV V N0 n) 5 (listTo ((pad4 E).set E.length ⟨s.data.toList,n⟩) 4))=takeV V N0 n (E++[⟨s.data.toList,n⟩]):=by
     rw [pad4_snoc _ (by omega),hE'.clus]
     rfl
   rw [e,if_pos rfl]
   dsimp only
   rw [e2]
   generalize takeV V N0 n (E++[⟨s.data.toList,n⟩])=W at*
   refine ⟨rfl,rfl,rfl,by omega,by omega,E++[⟨s.data.toList,n⟩],t2.vol,?_,t2.exact⟩
   rw [t2.holds]
   rfl
end
section
variable {base:List Clus} {V:VolR} {N0:Nat} {E:List EntR}
theorem toldBy_len (ns:List Nat):(toldBy ns).length≤ns.length:=by
 unfold toldBy
 rw [List.length_map]
 exact List.length_filter_le _ _
theorem flat_len {α:Type} {f:α→List Nat} {m:Nat}: ∀ l:List α,(∀ x ∈ l,(f x).length≤m)→(l.flatMap f).length≤m*l.length
 | [],_=>by simp
 | a :: r,h=>by
   have h1:=flat_len r (fun x hx=>h x (List.mem_cons_of_mem _ hx))
   have h2:=h a (List.mem_cons_self ..)
   rw [List.flatMap_cons,List.length_append,List.length_cons,Nat.mul_add,Nat.mul_one]
   omega
theorem toldAll_len66 {C:List Clus} {f:Nat} (hz: ∀ i,1<i→i<32→nm C f i=0):(toldAll C f).length≤66:=by
 have h1:(toldBy (numsOf (cl C f))).length≤2:=by
   rw [toldBy_two _ hz]
   exact toldBy_len _
 have h2:=flat_len (f:=fun s=>s :: toldBy (numsOf (cl C s))) (m:=33) (toldBy (numsOf (cl C f))) (fun x _=>by
   have:=toldBy_len (numsOf (cl C x))
   rw [numsOf_length] at this
   rw [List.length_cons];omega)
 unfold toldAll
 omega
theorem bumps_get: ∀ (us M:List Nat) (n:Nat),n<M.length→(bumps M us).getD n 0=M.getD n 0+us.count n
 | [],M,n,_=>by simp [bumps]
 | u :: r,M,n,hn=>by
   have ih:=bumps_get r (bump M u) n (by rw [bump_length];exact hn)
   show (bumps (bump M u) r).getD n 0=_
   rw [ih,List.count_cons]
   unfold bump
   rw [List.getD_eq_getElem?_getD,List.getElem?_set,List.getD_eq_getElem?_getD]
   by_cases e:u=n
   · subst e
     rw [if_pos rfl,if_pos hn]
     simp [List.getD_eq_getElem?_getD]
     omega
   · rw [if_neg e]
     simp [e]
theorem onesTo6 (n:Nat):(onesTo 6).getD n 0=base6 n:=by
 rw [base6_eq]
 unfold onesTo
 rw [List.getD_eq_getElem?_getD]
 by_cases h:n<6
 · rw [List.getElem?_append_left (by simpa using h),List.getElem?_replicate,if_pos h,if_pos h];rfl
 · rw [List.getElem?_append_right (by simpa using h),List.getElem?_replicate,if_neg h]
   split <;> rfl
theorem Vol.heldSum (h:Vol base V N0 E) (n:Nat):((firstsOf V).flatMap (heldAll V.C)).count n=useOf V.C (rsOf N0 E) n:=by
 rw [h.firsts]
 have key: ∀ rs:List RootR,(∀ r ∈ rs,r ∈ rsOf N0 E)→((rs.map (·.N)).flatMap (heldAll V.C)).count n=useOf V.C rs n:=by
   intro rs
   induction rs with
   | nil=>intro _;rfl
   | cons r t ih=>
     intro hr
     have h1:=ih (fun x hx=>hr x (List.mem_cons_of_mem _ hx))
     have h2:=count_held (h.sound.zero r (hr r (List.mem_cons_self ..))) n
     rw [List.map_cons,List.flatMap_cons,List.count_append,h1,h2]
     simp [useOf]
 exact key _ (fun _ hr=>hr)
theorem Vol.uses (h:Vol base V N0 E) (n:Nat) (hn:n<256):(usesOf V).getD n 0=base6 n+useOf V.C (rsOf N0 E) n:=by
 unfold usesOf useAll
 rw [bumps_get _ _ _ (by rw [onesTo_length 6 (by omega)];exact hn),onesTo6 n,h.heldSum]
def sumTo (f:Nat→Nat):Nat→Nat
 | 0=>0
 | k+1=>sumTo f k+f k
theorem sumTo_count (k:Nat): ∀ l:List Nat,sumTo (fun n=>l.count n) k≤l.length
 | []=>by
   have: ∀ k,sumTo (fun n=>([]:List Nat).count n) k=0:=fun k=>by
     induction k with
     | zero=>rfl
     | succ k ih=>rw [sumTo,ih];rfl
   rw [this];exact Nat.zero_le _
 | a :: r=>by
   have ih:=sumTo_count k r
   have: ∀ k,sumTo (fun n=>(a :: r).count n) k=sumTo (fun n=>r.count n) k+(if a<k then 1 else 0):=fun k=>by
     induction k with
     | zero=>rfl
     | succ k ih2=>
       rw [sumTo,sumTo,ih2,List.count_cons]
       by_cases e:a=k
       · subst e;simp;omega
       · have h2:(a == k)=false:=by simpa using e
         have h3:(a<k+1)↔(a<k):=by omega
         simp only [h2,h3]
         simp
         omega
   rw [this,List.length_cons]
   split <;> omega
theorem cntTo_sum {p:Nat→Bool} {f:Nat→Nat} (h: ∀ n,p n=true→0<f n): ∀ k,cntTo p k≤sumTo f k
 | 0=>Nat.le_refl _
 | k+1=>by
   have ih:=cntTo_sum h k
   rw [cntTo,sumTo]
   cases hp:p k with
   | true=>have:=h k hp;rw [if_pos rfl];omega
   | false=>rw [if_neg (by decide)];omega
theorem sumTo_add (f g:Nat→Nat): ∀ k,sumTo (fun n=>f n+g n) k=sumTo f k+sumTo g k
 | 0=>rfl
 | k+1=>by rw [sumTo,sumTo,sumTo,sumTo_add f g k];omega
theorem sum_base6:sumTo base6 256=6:=by decide +kernel
theorem Vol.heldLen (h:Vol base V N0 E):((firstsOf V).flatMap (heldAll V.C)).length≤67*(E.length+1):=by
 rw [h.firsts]
 have:=flat_len (f:=heldAll V.C) (m:=67) ((rsOf N0 E).map (·.N)) (fun x hx=>by
   obtain ⟨r,hr,rfl⟩:=List.mem_map.1 hx
   have:=toldAll_len66 (h.sound.zero r hr)
   unfold heldAll
   rw [List.length_cons];omega)
 rw [List.length_map] at this
 have e:(rsOf N0 E).length=E.length+1:=by simp [rsOf]
 rw [e] at this
 exact this
theorem cntTo_cong {p q:Nat→Bool} (k:Nat) (h: ∀ n,n<k→p n=q n):cntTo p k=cntTo q k:=by
 induction k with
 | zero=>rfl
 | succ k ih=>rw [cntTo,cntTo,ih (fun n hn=>h n (by omega)),h k (by omega)]
def useB (V:VolR) (N0:Nat) (E:List EntR) (n:Nat):Bool:=decide (0<base6 n+useOf V.C (rsOf N0 E) n)
theorem Vol.used (h:Vol base V N0 E):cntTo (usedM (usesOf V)) 256=cntTo (useB V N0 E) 256:=cntTo_cong 256 fun n hn=>by unfold usedM useB;rw [h.uses n hn]
theorem Vol.used_le (h:Vol base V N0 E):cntTo (useB V N0 E) 256≤6+67*(E.length+1):=by
 have h1:=cntTo_sum (p:=useB V N0 E) (f:=fun n=>base6 n+((firstsOf V).flatMap (heldAll V.C)).count n) (fun n hn=>by
   rw [h.heldSum]
   exact of_decide_eq_true hn) 256
 rw [sumTo_add,sum_base6] at h1
 have h2:=sumTo_count 256 ((firstsOf V).flatMap (heldAll V.C))
 have h3:=h.heldLen
 omega
theorem cntTo_not {p:Nat→Bool}: ∀ k,cntTo p k<k→ ∃ n,n<k∧p n=false
 | 0,h=>by omega
 | k+1,h=>by
   rw [cntTo] at h
   cases hp:p k with
   | false=>exact ⟨k,by omega,hp⟩
   | true=>
     rw [hp,if_pos rfl] at h
     obtain ⟨n,hn,h1⟩:=cntTo_not (p:=p) k (by omega)
     exact ⟨n,by omega,h1⟩
theorem lowTo_some {c:List UInt8} {n:Nat} (h0:byteAt c n=0): ∀ k,n<k→0<(lowTo c 1 k).length
 | 0,h=>by omega
 | k+1,h=>by
   rw [lowTo]
   by_cases e:(lowTo c 1 k).length=1
   · rw [if_pos e];omega
   · rw [if_neg e]
     by_cases e2:n=k
     · subst e2;rw [if_pos h0];simp
     · have:=lowTo_some h0 k (by omega)
       split
       · simp
       · exact this
theorem Vol.hasRoom (h:Vol base V N0 E) (hx:ExactS V.C (rsOf N0 E)) (h2:E.length≤2) (hq: ∀ u,useOf V.C (rsOf N0 E) u≤188) {f:Nat} (hf:f ∈ (rsOf N0 E).map (·.N)):roomR V.C f=true:=by
 obtain ⟨k1,k2⟩:=h.ok.cnts rfl
 have hlen:=h.sound.len
 rw [h.room hf]
 have hu:=h.used_le
 obtain ⟨n,hn,hp⟩:=cntTo_not (p:=useB V N0 E) 256 (by omega)
 have h0:countOf V.C n=0:=by
   rw [hx.eq n hn]
   have:=of_decide_eq_false hp
   omega
 refine ⟨lowTo_some (by rw [k2 n hn];exact h0) 256 hn,?_⟩
 obtain ⟨r,hr,rfl⟩:=List.mem_map.1 hf
 have hin: ∀ u ∈ toldAll V.C r.N,u<V.C.length:=fun u hu=>(h.sound.held_lt hr u (List.mem_cons.2 (Or.inr hu))).2
 rw [fits_iff _ _ (fun u hu=>by rw [k1];have:=hin u hu;omega)]
 intro u hu
 have h3:=hin u hu
 have h6:=(h.sound.held_lt hr u (List.mem_cons.2 (Or.inr hu))).1
 rw [k2 u (by omega),hx.eq u (by omega),base6_eq,if_neg (by omega)]
 have h4:=hq u
 have h5:=toldAll_len66 (h.sound.zero r hr)
 have h7:(toldAll V.C r.N).count u≤(toldAll V.C r.N).length:=List.count_le_length ..
 omega
end
section
variable {base:List Clus} {V:VolR} {N0:Nat} {E:List EntR} {data:Clus}
theorem Ok.letGo_cnt {T:Nat} {D:DiskR} {us:List Nat} (h:Ok V.C T N0 E D) (hT:V.C.length=T) (hl:Lets V N0 E us) (m:Nat) (hm:m<256):countOf (letGoV V us).C m+us.count m=countOf V.C m:=by
 obtain ⟨a1,a2,a3,_⟩:=h.letGo1 hT hl
 obtain ⟨_,_,b3,_⟩:=a1.marked a2
 have eC:(letGoV V us).C=(markLoneV (letGoV1 V us)).C:=by unfold letGoV;rw [flushV_C]
 rw [eC,b3 m hm]
 exact a3 m hm
theorem countOf_put {C:List Clus} {x:Nat} {c:Clus} (hx:x<C.length) (h5:5≤x) (m:Nat) (hm:m<256):countOf (putsC C [(x,c)]) m=countOf C m:=by
 have hlen:(putC C (x,c)).length=C.length:=by rw [putC_length];simp only;omega
 have hcl: ∀ t,cl (putC C (x,c)) t=if x=t then c else cl C t:=fun t=>by
   by_cases ht:t<C.length
   · rw [← vw_at (by rw [hlen];exact ht),vw_putC,vw_at ht]
   · rw [cl_past (by omega),cl_past (by omega),if_neg (by omega)]
 show countOf (putC C (x,c)) m=_
 unfold countOf
 rw [hcl,if_neg (by omega)]
theorem Vol.writeCnt (h:Vol base V N0 E) (n:Int) (hd:data.length=64): ∃ a c,∀ m,m<256→countOf (writeV V n data).1.C m≤if m=a∨m=c then 1 else countOf V.C m:=by
 have h7:=h.file.seven
 have hm:=h.file.most
 unfold writeV writeR
 by_cases hb:blockB n=true
 · have hlt:=blockB_lt hb
   rw [if_neg (by rw [hb];decide),h.place n]
   obtain ⟨p1,p2,p3,p4,p5⟩:=placed (V:=V) (N0:=N0) n.toNat
   rw [p1,p2]
   by_cases h2:nm V.C N0 (n.toNat / 32)<32768
   · rw [if_pos h2]
     by_cases hf:2≤(lowFree (cntsOf V.C) 2).length
     · rw [if_pos hf]
       obtain ⟨s,n',hF,hsn,hn,h0,h1⟩:=lowFree_two hf
       rw [byteAt_cnts h.file.lens (by omega) _ (by omega)] at h0 h1
       obtain ⟨_,c1,c2,c3,_⟩:=h.tab3 hlt hF hsn hn h0 h1 hd
       have hl:=(h.writeTable hlt hF hsn hn h0 h1 hd).1
       refine ⟨s,n',fun m hm'=> ?_⟩
       have:=c1.letGo_cnt c2 hl m hm'
       have:=c3 m hm'
       generalize letGoV (wntV V (findR V.C N0 n.toNat) data) (toldBy [nm V.C N0 (n.toNat / 32),numAt V.C N0 n.toNat])=W at*
       dsimp only
       omega
     · rw [if_neg hf]
       exact ⟨256,256,fun m hm'=>by rw [if_neg (by omega)];exact Nat.le_refl _⟩
   · rw [if_neg h2]
     by_cases h3:numAt V.C N0 n.toNat<32768
     · rw [if_pos h3]
       by_cases hf:0<(lowFree (cntsOf V.C) 1).length
       · rw [if_pos hf]
         obtain ⟨n',hF,hn,h0⟩:=lowFree_one hf
         rw [byteAt_cnts h.file.lens (by omega) _ (by omega)] at h0
         obtain ⟨_,c1,c2,c3,_⟩:=h.blk3 hlt hF hn h0 hd (by omega)
         have hl:=(h.writeBlock hlt hF hn h0 hd (by omega)).1
         refine ⟨n',n',fun m hm'=> ?_⟩
         have:=c1.letGo_cnt c2 hl m hm'
         have h9:=c3 m hm'
         generalize letGoV (wnbV V (findR V.C N0 n.toNat) data) (toldBy [numAt V.C N0 n.toNat])=W at*
         dsimp only
         by_cases e:m=n'
         · rw [if_pos e] at h9;rw [if_pos (Or.inl e)];omega
         · rw [if_neg e] at h9;rw [if_neg (by omega)];omega
       · rw [if_neg hf]
         exact ⟨256,256,fun m hm'=>by rw [if_neg (by omega)];exact Nat.le_refl _⟩
     · rw [if_neg h3]
       have eC:(flushV (putV V (numAt V.C N0 n.toNat%32768) data)).C=putsC V.C [(numAt V.C N0 n.toNat%32768,data)]:=by rw [flushV_C,putV_C];rfl
       have hbl:=h.sound.blk _ (numAt_isBlk (r:=⟨N0,0,[]⟩) (by simp [rsOf]) hlt (show numAt V.C N0 n.toNat≠0 by omega))
       refine ⟨256,256,fun m hm'=> ?_⟩
       rw [if_neg (by omega)]
       show countOf (flushV (putV V (numAt V.C N0 n.toNat%32768) data)).C m≤_
       rw [eC,countOf_put (by exact hbl.2) (by have:=hbl.1;simp only at this;omega) m hm']
       exact Nat.le_refl _
 · have hb':blockB n=false:=by simpa using hb
   rw [if_pos hb']
   exact ⟨256,256,fun m hm'=>by rw [if_neg (by omega)];exact Nat.le_refl _⟩
theorem Vol.told_le (h:Vol base V N0 E) (m:Nat) (hm:m<256):(toldAll V.C N0).count m≤countOf V.C m:=by
 have h1:=h.sound.cnt m hm
 have h2:=h.heldSum m
 have h3:(toldAll V.C N0).count m≤((firstsOf V).flatMap (heldAll V.C)).count m:=by
   rw [h.firsts]
   show _≤(((N0 :: (E.map rootE).map (·.N))).flatMap (heldAll V.C)).count m
   rw [List.flatMap_cons,List.count_append]
   unfold heldAll
   rw [List.count_cons]
   omega
 omega
theorem Vol.takeCnt (h:Vol base V N0 E) (s:ByteArray) (h0:(takeR V s).2=0): ∃ n,n<256∧countOf V.C n=0∧ ∀ m,m<256→countOf (takeR V s).1.C m=if n=m then 1 else countOf V.C m+(toldAll V.C N0).count m:=by
 unfold takeR at h0 ⊢
 rw [h.ents.2,h.ents.1,h.num6] at h0 ⊢
 by_cases hnm:isNameB s.data.toList=false
 · rw [if_pos hnm] at h0;cases h0
 rw [if_neg hnm] at h0 ⊢
 have hnt:isNameB s.data.toList=true:=by cases e:isNameB s.data.toList;exact absurd e hnm;rfl
 by_cases hf:0≤findE (pad4 E) s
 · rw [if_pos hf] at h0;cases h0
 rw [if_neg hf] at h0 ⊢
 by_cases hl:E.length=4
 · rw [if_pos hl] at h0;cases h0
 rw [if_neg hl] at h0 ⊢
 have h4:=h.file.ents.len
 cases hr:roomR V.C N0 with
 | false=>
   rw [h.copyR_no h.roots0 hr] at h0
   cases h0
 | true=>
   obtain ⟨n,hn,hz,hfit,e⟩:=h.copyR_yes h.roots0 hr
   have hnew:=h.fresh (s:=s) (by rw [h.ents.1];omega)
   have h6:=h.sound.free_six hn hz
   have hE':=h.file.ents.snoc hnt hnew (by omega) (show n≠0 by omega) (by omega)
   obtain ⟨t1,t2⟩:=h.take hnt hnew (by omega) hn hz hfit
   obtain ⟨_,_,_,a3,a4,_⟩:=h.copied h.roots0 hn hz hfit
   have h7:=h.file.seven
   have hT:lenTo V.C [n]=max V.C.length (n+1):=rfl
   have e2:flushV (putV (copyV V N0 n) 5 (listTo ((pad4 E).set E.length ⟨s.data.toList,n⟩) 4))=takeV V N0 n (E++[⟨s.data.toList,n⟩]):=by
     rw [pad4_snoc _ (by omega),hE'.clus]
     rfl
   have hc: ∀ m,m<256→countOf (takeV V N0 n (E++[⟨s.data.toList,n⟩])).C m=countOf (copyV V N0 n).C m:=fun m hm=>by
     rw [t1,epoch_C,countOf_put (by omega) (by omega) m hm]
   refine ⟨n,hn,hz,fun m hm=> ?_⟩
   rw [e,if_pos rfl]
   dsimp only
   rw [e2,hc m hm,a4 m hm]
end
structure SpotN where
 table:Nat
 index:Nat
 number:Nat
def spFrom (C:List Clus) (t:Nat):Nat→Nat→List SpotN
 | 0,_=>[]
 | m+1,k=>(if nm C t k=0 then [] else [⟨t,k,nm C t k⟩])++spFrom C t m (k+1)
def toldFrom (C:List Clus) (t:Nat):Nat→Nat→List SpotN
 | 0,_=>[]
 | m+1,i=>(if nm C t i=0 then [] else ⟨t,i,nm C t i⟩ :: spFrom C (nm C t i%32768) 32 0)++toldFrom C t m (i+1)
def tellSp (R:FileR) (first:Nat) (s:SpotN):Bool × FileR:=
 if s.table=first then (if 2≤s.index then (false,{ R with bad:=s.table }) else tell R (s.number%32768) 2 s.table) else tell R (s.number%32768) 3 s.table
def foldT (first:Nat):List SpotN→FileR→Bool × FileR
 | [],R=>(true,R)
 | s :: r,R=>if (tellSp R first s).1 then foldT first r (tellSp R first s).2 else (false,(tellSp R first s).2)
theorem foldT_app (first:Nat): ∀ (a b:List SpotN) (R:FileR),foldT first (a++b) R=if (foldT first a R).1 then foldT first b (foldT first a R).2 else (false,(foldT first a R).2)
 | [],b,R=>rfl
 | s :: a,b,R=>by
   rw [List.cons_append,foldT,foldT]
   by_cases h:(tellSp R first s).1=true
   · rw [if_pos h,if_pos h,foldT_app first a b]
   · rw [if_neg h,if_neg h];rfl
theorem foldT_snoc (first:Nat) (a:List SpotN) (s:SpotN) (R:FileR) (h:(foldT first a R).1=true):foldT first (a++[s]) R=tellSp (foldT first a R).2 first s:=by
 rw [foldT_app,if_pos h,foldT]
 by_cases h2:(tellSp (foldT first a R).2 first s).1=true
 · rw [if_pos h2,foldT];exact Prod.ext h2.symm rfl
 · rw [if_neg h2];exact Prod.ext (by simpa using h2) rfl
theorem tellSp_L (R:FileR) (first:Nat) (s:SpotN):(tellSp R first s).2.L=R.L:=by
 unfold tellSp
 split
 · split
   · rfl
   · exact tell_L _ _ _ _
 · exact tell_L _ _ _ _
theorem tellSp_told (R:FileR) (first:Nat) (s:SpotN):(tellSp R first s).2.told.length=R.told.length:=by
 unfold tellSp
 split
 · split
   · rfl
   · exact tell_told _ _ _ _
 · exact tell_told _ _ _ _
theorem foldT_L (first:Nat): ∀ (a:List SpotN) (R:FileR),(foldT first a R).2.L=R.L
 | [],R=>rfl
 | s :: a,R=>by
   rw [foldT]
   split
   · rw [foldT_L first a,tellSp_L]
   · exact tellSp_L _ _ _
theorem foldT_told (first:Nat): ∀ (a:List SpotN) (R:FileR),(foldT first a R).2.told.length=R.told.length
 | [],R=>rfl
 | s :: a,R=>by
   rw [foldT]
   split
   · rw [foldT_told first a,tellSp_told]
   · exact tellSp_told _ _ _
theorem tellSp_ok {R:FileR} {first:Nat} {s:SpotN} (h:(tellSp R first s).1=true):6≤s.number%32768∧s.number%32768<R.L.length:=by
 unfold tellSp at h
 split at h
 · split at h
   · cases h
   · exact tell_ok h
 · exact tell_ok h
theorem tell_bad {R:FileR} {n kind at':Nat} (h:(tell R n kind at').1=false):(tell R n kind at').2.bad=(at':Int):=by
 unfold tell at h ⊢
 split at h
 · rename_i h';rw [if_pos h']
 · cases h
theorem tellSp_bad {R:FileR} {first:Nat} {s:SpotN} (h:(tellSp R first s).1=false):(tellSp R first s).2.bad=(s.table:Int):=by
 unfold tellSp at h ⊢
 by_cases e:s.table=first
 · rw [if_pos e] at h ⊢
   by_cases e2:2≤s.index
   · rw [if_pos e2]
   · rw [if_neg e2] at h ⊢;exact tell_bad h
 · rw [if_neg e] at h ⊢;exact tell_bad h
def treeP (f at':Nat) (R:FileR):Bool × FileR:=if (tell R f 1 at').1 then foldT f (toldFrom R.L f 32 0) (tell R f 1 at').2 else (false,(tell R f 1 at').2)
def foldF:List Nat→Nat→FileR→Bool × FileR
 | [],_,R=>(true,R)
 | f :: r,a,R=>if (treeP f a R).1 then foldF r 5 (treeP f a R).2 else (false,(treeP f a R).2)
theorem foldF_snoc (x:Nat): ∀ (pre:List Nat) (a:Nat) (R:FileR),(foldF pre a R).1=true→foldF (pre++[x]) a R=treeP x (if pre.length=0 then a else 5) (foldF pre a R).2
 | [],a,R,_=>by
   show (if (treeP x a R).1 then (true,(treeP x a R).2) else (false,(treeP x a R).2))=treeP x a R
   by_cases h:(treeP x a R).1=true
   · rw [if_pos h];exact Prod.ext h.symm rfl
   · rw [if_neg h];exact Prod.ext (by simpa using h) rfl
 | f :: pre,a,R,h=>by
   rw [List.cons_append,foldF]
   rw [foldF] at h ⊢
   by_cases h2:(treeP f a R).1=true
   · rw [if_pos h2] at h ⊢
     rw [if_pos h2,foldF_snoc x pre 5 _ h]
     simp
   · rw [if_neg h2] at h;cases h
theorem foldF_pre: ∀ (pre r:List Nat) (a:Nat) (R:FileR),(foldF pre a R).1=false→foldF (pre++r) a R=foldF pre a R
 | [],r,a,R,h=>by cases h
 | f :: pre,r,a,R,h=>by
   rw [List.cons_append,foldF,foldF]
   rw [foldF] at h
   by_cases h2:(treeP f a R).1=true
   · rw [if_pos h2] at h ⊢
     rw [if_pos h2,foldF_pre pre r 5 _ h]
   · rw [if_neg h2,if_neg h2]
theorem treeP_L (f a:Nat) (R:FileR):(treeP f a R).2.L=R.L:=by
 unfold treeP
 split
 · rw [foldT_L,tell_L]
 · exact tell_L _ _ _ _
theorem treeP_told (f a:Nat) (R:FileR):(treeP f a R).2.told.length=R.told.length:=by
 unfold treeP
 split
 · rw [foldT_told,tell_told]
 · exact tell_told _ _ _ _
theorem foldF_L: ∀ (fs:List Nat) (a:Nat) (R:FileR),(foldF fs a R).2.L=R.L
 | [],_,R=>rfl
 | f :: fs,a,R=>by
   rw [foldF]
   split
   · rw [foldF_L fs,treeP_L]
   · exact treeP_L _ _ _
theorem treeIn_fold (C:List Clus) (first t:Nat) (hne:t≠first): ∀ (m k:Nat) (R:FileR),R.L=C→foldT first (spFrom C t m k) R=treeIn t m k R
 | 0,_,_,_=>rfl
 | m+1,k,R,h=>by
   rw [spFrom,treeIn,h]
   by_cases h0:num (cl C t) (2*k)=0
   · rw [if_pos h0,if_pos h0,List.nil_append];exact treeIn_fold C first t hne m (k+1) R h
   · rw [if_neg h0,if_neg h0,List.singleton_append,foldT]
     have e:tellSp R first ⟨t,k,nm C t k⟩=tell R (num (cl C t) (2*k)%32768) 3 t:=by unfold tellSp;rw [if_neg hne]
     rw [e]
     by_cases h2:(tell R (num (cl C t) (2*k)%32768) 3 t).1=true
     · rw [if_pos h2,if_pos h2];exact treeIn_fold C first t hne m (k+1) _ (by rw [tell_L];exact h)
     · rw [if_neg h2,if_neg h2]
theorem tell_one {R:FileR} {n kind at' f:Nat} (h:(tell R n kind at').1=true) (hk:kind≠1) (h1:R.told.getD f 0=1):n≠f∧(tell R n kind at').2.told.getD f 0=1:=by
 unfold tell at h ⊢
 split at h
 · cases h
 · rename_i h'
   rw [if_neg h']
   have hne:n≠f:=by
     rintro rfl
     apply h'
     unfold noTell
     rw [h1]
     have:(1 != kind)=true:=by simp;omega
     simp [this]
   refine ⟨hne,?_⟩
   show (R.told.set n kind).getD f 0=1
   rw [List.getD_eq_getElem?_getD,List.getElem?_set_ne hne,← List.getD_eq_getElem?_getD]
   exact h1
theorem treeIn_one {t f:Nat}: ∀ (m k:Nat) (R:FileR),(treeIn t m k R).1=true→R.told.getD f 0=1→(treeIn t m k R).2.told.getD f 0=1
 | 0,_,_,_,h1=>h1
 | m+1,k,R,h,h1=>by
   rw [treeIn] at h ⊢
   split at h
   · rename_i h0;rw [if_pos h0];exact treeIn_one m (k+1) R h h1
   · split at h
     · rename_i h0 ht
       rw [if_neg h0,if_pos ht]
       exact treeIn_one m (k+1) _ h (tell_one ht (by decide) h1).2
     · cases h
theorem treeOut_fold (C:List Clus) (t:Nat): ∀ (m i:Nat) (R:FileR),R.L=C→R.told.getD t 0=1→foldT t (toldFrom C t m i) R=treeOut t m i R
 | 0,_,_,_,_=>rfl
 | m+1,i,R,h,h1=>by
   rw [toldFrom,treeOut,h]
   by_cases h0:num (cl C t) (2*i)=0
   · rw [if_pos h0,if_pos h0,List.nil_append];exact treeOut_fold C t m (i+1) R h h1
   · rw [if_neg h0,if_neg h0,List.cons_append,foldT]
     by_cases hi:1<i
     · have e:tellSp R t ⟨t,i,nm C t i⟩=(false,{ R with bad:=(t:Int) }):=by unfold tellSp;rw [if_pos rfl,if_pos (show 2≤i by omega)]
       rw [e,if_pos hi,← h];rfl
     · have e:tellSp R t ⟨t,i,nm C t i⟩=tell R (num (cl C t) (2*i)%32768) 2 t:=by unfold tellSp;rw [if_pos rfl,if_neg (show ¬ 2≤i by omega)]
       rw [e,if_neg hi]
       by_cases h2:(tell R (num (cl C t) (2*i)%32768) 2 t).1=true
       · obtain ⟨hne,h3⟩:=tell_one h2 (by decide) h1
         have hL:(tell R (num (cl C t) (2*i)%32768) 2 t).2.L=C:=by rw [tell_L];exact h
         rw [if_pos h2,if_pos h2,foldT_app,treeIn_fold C t _ hne 32 0 _ hL]
         by_cases h4:(treeIn (num (cl C t) (2*i)%32768) 32 0 (tell R (num (cl C t) (2*i)%32768) 2 t).2).1=true
         · rw [if_pos h4,if_pos h4]
           exact treeOut_fold C t m (i+1) _ (by rw [treeIn_L];exact hL) (treeIn_one 32 0 _ h4 h3)
         · rw [if_neg h4,if_neg h4]
       · rw [if_neg h2,if_neg h2]
theorem tell_first {R:FileR} {n at':Nat} (h:(tell R n 1 at').1=true) (hn:n<R.told.length):(tell R n 1 at').2.told.getD n 0=1:=by
 unfold tell at h ⊢
 split at h
 · cases h
 · rename_i h'
   rw [if_neg h']
   show (R.told.set n 1).getD n 0=1
   rw [getD_setN _ _ _ _ hn,if_pos rfl]
theorem treeP_eq (R:FileR) (r:RootR) (hL:R.L.length≤R.told.length):treeP r.N r.At R=tree R r:=by
 unfold treeP tree
 by_cases h:(tell R r.N 1 r.At).1=true
 · rw [if_pos h,if_pos h]
   exact treeOut_fold R.L r.N 32 0 _ (tell_L _ _ _ _) (tell_first h (by have:=(tell_ok h).2;omega))
 · rw [if_neg h,if_neg h]
theorem tree_roots (R:FileR) (r:RootR):(tree R r).2.roots=R.roots:=by
 unfold tree
 split
 · have key: ∀ m i (R:FileR),(treeOut r.N m i R).2.roots=R.roots:=by
     intro m
     induction m with
     | zero=>intro i R;rfl
     | succ m ih=>
       intro i R
       rw [treeOut]
       split
       · exact ih _ _
       · split
         · rfl
         · split
           · split
             · rw [ih,treeIn_roots,tell_roots]
             · rw [treeIn_roots,tell_roots]
           · exact tell_roots _ _ _ _
   rw [key,tell_roots]
 · exact tell_roots _ _ _ _
theorem foldF_trees (rs:List RootR) (a:Nat): ∀ (m i:Nat) (R:FileR),i+m=rs.length→R.roots=rs→R.L.length≤R.told.length→(∀ j,i≤j→j<rs.length→(rs.getD j ⟨0,0,[]⟩).At=if j=i then a else 5)→
   foldF ((rs.drop i).map (·.N)) a R=treesFrom m i R:=by
 intro m
 induction m generalizing a with
 | zero=>intro i R h hr hl hat;rw [List.drop_of_length_le (by omega)];rfl
 | succ m ih=>
   intro i R h hr hl hat
   have hi:i<rs.length:=by omega
   have hg:rs.getD i ⟨0,0,[]⟩=rs[i]:=by rw [List.getD_eq_getElem?_getD,List.getElem?_eq_getElem hi];rfl
   have hro:rootOf R i=rs[i]:=by unfold rootOf;rw [hr,hg]
   have hat0:=hat i (Nat.le_refl _) hi
   rw [if_pos rfl,hg] at hat0
   rw [List.drop_eq_getElem_cons hi,List.map_cons,foldF,treesFrom,hro]
   have e:=treeP_eq R rs[i] hl
   rw [hat0] at e
   rw [e]
   by_cases h2:(tree R rs[i]).1=true
   · rw [if_pos h2,if_pos h2]
     refine ih 5 (i+1) _ (by omega) (by rw [tree_roots];exact hr) ?_ (fun j h3 h4=> ?_)
     · rw [← treeP_eq R rs[i] hl,treeP_L,treeP_told];exact hl
     · rw [hat j (by omega) h4,if_neg (by omega)]
       split <;> rfl
   · rw [if_neg h2,if_neg h2]
theorem Told.back {L:List Clus} {rs:List RootR} {b:Int} {base:Nat→Nat} {ts:Tells} {R:FileR} (h:Told L rs b base ts R) (ok:OkT L ts) {n kind at':Nat} (hk:kind≠0) (ht:(tell R n kind at').1=true):OkT L (ts++[(n,kind)]):=by
 obtain ⟨h6,hn⟩:=tell_ok ht
 rw [h.hL] at hn
 have hno:noTell R n kind=false:=by
   unfold tell at ht
   split at ht
   · cases ht
   · rename_i h';simpa using h'
 unfold noTell at hno
 rw [Bool.or_eq_false_iff,Bool.or_eq_false_iff] at hno
 have hno:=hno.2.2
 have hkind: ∀ x ∈ ts,x.1=n→x.2=kind∧kind≠1:=by
   intro x hx e
   have h1:=h.told x hx
   have h2:=(ok.lo x hx).2.2
   rw [e] at h1
   rw [h1] at hno
   have h3:(x.2 != 0)=true:=by simpa using h2
   rw [h3,Bool.true_and,Bool.or_eq_false_iff] at hno
   exact ⟨by simpa using hno.1,by simpa using hno.2⟩
 refine ⟨fun x hx=> ?_,fun x hx y hy e=> ?_,fun m=> ?_⟩
 · rcases List.mem_append.1 hx with y | y
   · exact ok.lo x y
   · rw [List.mem_singleton.1 y];exact ⟨h6,hn,hk⟩
 · rcases List.mem_append.1 hx with x1 | x1 <;> rcases List.mem_append.1 hy with y1 | y1
   · exact ok.kind x x1 y y1 e
   · rw [List.mem_singleton.1 y1] at e ⊢;exact (hkind x x1 e).1
   · rw [List.mem_singleton.1 x1] at e ⊢;exact (hkind y y1 e.symm).1.symm
   · rw [List.mem_singleton.1 x1,List.mem_singleton.1 y1]
 · rw [List.count_append]
   by_cases e:(n,kind)=(m,1)
   · rw [e]
     have e1:n=m:=by injection e
     have e2:kind=1:=by injection e
     have:ts.count (m,1)=0:=by
       rw [List.count_eq_zero]
       intro hm
       exact (hkind (m,1) hm e1.symm).2 e2
     rw [this];simp
   · have:=ok.once m
     rw [List.count_singleton]
     have:((n,kind) == (m,1))=false:=by simpa using e
     rw [this]
     simpa using ok.once m
section
variable {L:List Clus} {rs:List RootR} {b:Int} {base:Nat→Nat}
theorem treeIn_back (hLL:L.length≤256) (t:Nat): ∀ (m k:Nat) (ts:Tells) (R:FileR),Told L rs b base ts R→OkT L ts→(treeIn t m k R).1=true→OkT L (ts++inTells L t m k)
 | 0,_,ts,R,_,ok,_=>by rw [inTells,List.append_nil];exact ok
 | m+1,k,ts,R,h,ok,ht=>by
   rw [treeIn,h.hL] at ht
   rw [inTells]
   by_cases h0:num (cl L t) (2*k)=0
   · rw [if_pos h0] at ht ⊢
     rw [List.nil_append];exact treeIn_back hLL t m (k+1) ts R h ok ht
   · rw [if_neg h0] at ht ⊢
     by_cases h2:(tell R (num (cl L t) (2*k)%32768) 3 t).1=true
     · rw [if_pos h2] at ht
       have ok1:=h.back ok (by decide) h2
       obtain ⟨_,h3⟩:=h.step hLL _ 3 t ok1
       rw [← List.append_assoc]
       exact treeIn_back hLL t m (k+1) _ _ h3 ok1 ht
     · rw [if_neg h2] at ht;cases ht
theorem treeOut_back (hLL:L.length≤256) (t:Nat): ∀ (m i:Nat) (ts:Tells) (R:FileR),Told L rs b base ts R→OkT L ts→(treeOut t m i R).1=true→
   OkT L (ts++outTells L t m i)∧(∀ j,i≤j→j<i+m→1<j→num (cl L t) (2*j)=0)∧Told L rs b base (ts++outTells L t m i) (treeOut t m i R).2
 | 0,_,ts,R,h,ok,_=>by rw [outTells,List.append_nil];exact ⟨ok,fun j h1 h2=>by omega,h⟩
 | m+1,i,ts,R,h,ok,ht=>by
   rw [treeOut,h.hL] at ht ⊢
   rw [outTells]
   by_cases h0:num (cl L t) (2*i)=0
   · rw [if_pos h0] at ht ⊢
     rw [List.nil_append,if_pos h0]
     obtain ⟨h1,h2,h3⟩:=treeOut_back hLL t m (i+1) ts R h ok ht
     refine ⟨h1,fun j j1 j2 j3=> ?_,h3⟩
     by_cases e:j=i
     · rw [e];exact h0
     · exact h2 j (by omega) (by omega) j3
   · rw [if_neg h0] at ht ⊢
     rw [if_neg h0]
     by_cases hi:1<i
     · rw [if_pos hi] at ht;cases ht
     · rw [if_neg hi] at ht ⊢
       by_cases h2:(tell R (num (cl L t) (2*i)%32768) 2 t).1=true
       · rw [if_pos h2] at ht ⊢
         have ok1:=h.back ok (by decide) h2
         obtain ⟨_,h3⟩:=h.step hLL _ 2 t ok1
         by_cases h4:(treeIn (num (cl L t) (2*i)%32768) 32 0 (tell R (num (cl L t) (2*i)%32768) 2 t).2).1=true
         · rw [if_pos h4] at ht ⊢
           have ok2:=treeIn_back hLL _ 32 0 _ _ h3 ok1 h4
           obtain ⟨_,h5⟩:=treeIn_told hLL _ 32 0 _ _ h3 ok2
           obtain ⟨h6,h7,h8⟩:=treeOut_back hLL t m (i+1) _ _ h5 ok2 ht
           have e:ts++((num (cl L t) (2*i)%32768,2) :: inTells L (num (cl L t) (2*i)%32768) 32 0++outTells L t m (i+1))=((ts++[(num (cl L t) (2*i)%32768,2)])++inTells L (num (cl L t) (2*i)%32768) 32 0)++outTells L t m (i+1):=by simp
           rw [e]
           exact ⟨h6,fun j j1 j2 j3=>h7 j (by omega) (by omega) j3,h8⟩
         · rw [if_neg h4] at ht;cases ht
       · rw [if_neg h2] at ht;cases ht
theorem tree_back (hLL:L.length≤256) (r:RootR) (ts:Tells) (R:FileR) (h:Told L rs b base ts R) (ok:OkT L ts) (ht:(tree R r).1=true):
   OkT L (ts++treeTells L r.N)∧(∀ j,1<j→j<32→num (cl L r.N) (2*j)=0)∧Told L rs b base (ts++treeTells L r.N) (tree R r).2:=by
 unfold tree at ht ⊢
 by_cases h1:(tell R r.N 1 r.At).1=true
 · rw [if_pos h1] at ht ⊢
   have ok1:=h.back ok (by decide) h1
   obtain ⟨_,h3⟩:=h.step hLL _ 1 r.At ok1
   obtain ⟨h4,h5,h6⟩:=treeOut_back hLL r.N 32 0 _ _ h3 ok1 ht
   have e:ts++treeTells L r.N=(ts++[(r.N,1)])++outTells L r.N 32 0:=by rw [treeTells];simp
   rw [e]
   exact ⟨h4,fun j j1 j2=>h5 j (by omega) (by omega) j1,h6⟩
 · rw [if_neg h1] at ht;cases ht
theorem treesFrom_back (hLL:L.length≤256): ∀ (m i:Nat) (ts:Tells) (R:FileR),i+m≤rs.length→Told L rs b base ts R→OkT L ts→(treesFrom m i R).1=true→
   OkT L (ts++allTells L rs m i)∧(∀ j,i≤j→j<i+m→ ∀ k,1<k→k<32→num (cl L (rs.getD j ⟨0,0,[]⟩).N) (2*k)=0)∧Told L rs b base (ts++allTells L rs m i) (treesFrom m i R).2
 | 0,_,ts,R,_,h,ok,_=>by rw [allTells,List.append_nil];exact ⟨ok,fun j h1 h2=>by omega,h⟩
 | m+1,i,ts,R,hm,h,ok,ht=>by
   have hr:rootOf R i=rs.getD i ⟨0,0,[]⟩:=by unfold rootOf;rw [h.hR]
   rw [treesFrom,hr] at ht ⊢
   by_cases h1:(tree R (rs.getD i ⟨0,0,[]⟩)).1=true
   · rw [if_pos h1] at ht ⊢
     obtain ⟨h2,h3,h4⟩:=tree_back hLL _ ts R h ok h1
     obtain ⟨h5,h6,h7⟩:=treesFrom_back hLL m (i+1) _ _ (by omega) h4 h2 ht
     rw [allTells,← List.append_assoc]
     refine ⟨h5,fun j j1 j2=> ?_,h7⟩
     by_cases e:j=i
     · rw [e];exact h3
     · exact h6 j (by omega) (by omega)
   · rw [if_neg h1] at ht;cases ht
end
end Go.Proofs.YtknjjjenklfeoaaGreatDoor
