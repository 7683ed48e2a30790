import Derived.Test.YtknjjjenklfeoaaGreatDoorC32
import Derived.Test.YtknjjjenklfeoaaGreatDoorC25
import Derived.Test.YtknjjjenklfeoaaGreatDoorC21
set_option maxHeartbeats 8000000
set_option maxRecDepth 100000
namespace Go.Proofs.YtknjjjenklfeoaaGreatDoor
open Go.RowKit Go.Shelf
attribute [local go_sem ↓] loadVar_clus storeVar_clus zeroValue_clus loadVar_tab storeVar_tab zeroValue_tab loadVar_cnt storeVar_cnt zeroValue_cnt loadVar_head storeVar_head zeroValue_head build_head buildSlice_clus loadVar_wr storeVar_wr zeroValue_wr build_wr buildSlice_wr equalIn_clus loadVar_place storeVar_place zeroValue_place build_place
attribute [local go_sem] run_loadClus run_storeClus run_zeroClus run_storeClus_new run_loadClus_new zc_length run_loadTab run_storeTab run_zeroTab run_storeTab_new run_loadTab_new zt_length run_loadCnt run_storeCnt run_zeroCnt run_storeCnt_new run_loadCnt_new zk_length run_loadHead run_storeHead run_zeroHead run_storeHead_new run_bHead HasAt_drew cellsAt_drew HasAt_drewN cellsAt_drewN run_bsClus run_loadWr run_zeroWr run_storeWr run_storeWr_new run_bWr0 run_bsWr run_loadPlace run_storePlace run_zeroPlace run_storePlace_new run_bPlace
attribute [local go_sem] field_head1 field_head0 Oper.semAt_some
def bCnt (parts:Array (Nat × Value)):Sem Value:=Instr.build 123 parts
theorem build_cnt (parts:Array (Nat × Value)):Instr.build 123 parts=bCnt parts:=rfl
theorem run_bCnt0 (w:World):(bCnt #[]).run Tryz.prog w= .ok (.agg (cv zk).toArray) w:=by
 unfold bCnt Instr.build
 simp only [zeroValue_cnt]
 simp [run_zeroCnt]
 rfl
attribute [local go_sem ↓] build_cnt
attribute [local go_sem] run_bCnt0
theorem results_cells {fn:Func} {p q:Tmp} {ty tz:TypeId} (h:fn.results= #[.cell p ty,.cell q tz]) {tmps:Array Value} {P:Program} {w:World} (a b:Addr) {v u:Value} (ht:tmps.getD p undef= .pointer (some a)) (hq:tmps.getD q undef= .pointer (some b)) (hl:(loadVar ty a).run P w= .ok v w) (hm:(loadVar tz b).run P w= .ok u w):
   (results fn tmps).run P w= .ok (.tuple #[v,u]) w:=by
 simp only [results,h]
 simp [-Array.getD_eq_getD_getElem?,asAddr,ht,hq,hl,hm]
def sharedR (C:List Clus) (f:Nat):List UInt8 × Bool:=if fitsB (cntsOf C) (toldAll C f) then (plus (cntsOf C) (toldAll C f),true) else (zk,false)
theorem Locs.shut {w W:World} {os:List Obj} {D:Nat} (h:Locs w W os) (hD:w.heap.size+os.length≤D):Locs w (W.putObj D (.deferred none)) os:=by
 have hg:=grownBy_putObj' W D (.deferred none)
 have hk:Kept (fun k=>k=D) W (W.putObj D (.deferred none)):=⟨hg.os,hg.tape,hg.output,hg.size,fun k hk hs=>hg.block k hk (fun e=>hs (by injection e))⟩
 refine ⟨fun i o ho=>hk.blk ?_ (h.objs i o ho),h.below.grown hg h.below.size (fun k e=>by cases e;omega)⟩
 have:=(List.getElem?_eq_some_iff.1 ho).1
 omega
theorem load_bool {w:World} {b:Nat} {x:Bool} {t:TypeId} {fr:Nat × Nat} (h:w.heap[b]? = some (.cells #[.bool x] t fr)):(loadVar 4 ⟨b,0,none⟩).run Tryz.prog w= .ok (.bool x) w:=by
 have c:w.cell? ⟨b,0,none⟩=some (.bool x):=(cell_blk h 0).trans rfl
 simp [go_sem,c]
theorem shared_any (w:World) (v:Nat) (Cv Lv:Value) (V:VolR) (h:VolAt w v Cv Lv V) (h5:5<V.C.length) (hC:V.C.length≤256) (first:Nat) (hF:FirstOK V first):
   CallsIn Fence.wide 100 Tryz.prog 144 #[.pointer (some ⟨v,0,none⟩),.int .i64 (first:Nat)] w fun e w'=>e= .returned (.tuple #[.agg (cv (sharedR V.C first).1).toArray,.bool (sharedR V.C first).2])∧Below w.heap.size w w':=by
 have L0:=Locs.two w (.cells (cv zk).toArray 123) (.cells #[.bool false] 4)
 have Hc:=hide (counts_vol _ v Cv Lv V (h.below L0.below) (by omega))
 have hcl:=cntsOf_length V.C h.lenC (by omega)
 have HR:Hid (sharedR V.C first=if fitsB (cntsOf V.C) (toldAll V.C first) then (plus (cntsOf V.C) (toldAll V.C first),true) else (zk,false)):=rfl
 have H:=hide h
 have L0:=hide L0
 have hvl:v<w.heap.size:=h.lt
 have hfl: ∀ j,foot v Cv Lv j→j<w.heap.size:=h.foot_lt
 clear h
 generalize cntsOf V.C=k at*
 refine callsIn_of_wp_marks Tryz.func144 rfl trivial ?_ rfl
 simp only [Tryz.ntmps144,List.size_toArray,List.length_cons,List.length_nil,Nat.reduceAdd,Nat.reduceSub,Array.replicate_succ,Array.replicate_zero,List.push_toArray,List.append_toArray,List.nil_append,List.cons_append]
 gi_wp2_with fail
 refine ⟨trivial,(callsIn_wide.2 (uh Hc)).mono ?_⟩
 rintro e w1 ⟨rfl,hb1⟩
 have L1:=(uh L0).later hb1
 have hw1:w.heap.size+1<w1.heap.size:=blk_lt L1.o1
 have L2:=hide (L1.alloc (.cells (cv k).toArray 123))
 have k2:(w1.alloc (.cells (cv k).toArray 123)).heap[w1.heap.size]? = some (.cells (cv k).toArray 123 (0,0)):=heap_alloc_new _ _
 have Ht:=hide (told_make (w1.alloc (.cells (cv k).toArray 123)) v first)
 simp only [World.size_alloc] at Ht
 clear Hc hb1 L1 L0
 gi_wp2_with fail
 refine ⟨trivial,(callsIn_wide.2 (uh Ht)).mono ?_⟩
 rintro e w3 ⟨rfl,hw3⟩
 have L3:=((uh L2).alloc (.cells #[.pointer (some ⟨v,0,none⟩)] 82)).alloc (.cells #[.int .i64 (first:Nat)] 3)
 rw [← hw3] at L3
 have hs3:w3.heap.size=w1.heap.size+3:=by rw [hw3];simp
 have k3:w3.heap[w1.heap.size]? = some (.cells (cv k).toArray 123 (0,0)):=by
   rw [hw3,heap_alloc_old _ _ (by simp;omega),heap_alloc_old _ _ (by simp)];exact k2
 have v3:w3.heap[w1.heap.size+1]? = some (.cells #[.pointer (some ⟨v,0,none⟩)] 82 (0,0)):=by
   rw [hw3,heap_alloc_old _ _ (by simp)]
   have:=heap_alloc_new (w1.alloc (.cells (cv k).toArray 123)) (.cells #[.pointer (some ⟨v,0,none⟩)] 82)
   rwa [World.size_alloc] at this
 have f3:w3.heap[w1.heap.size+1+1]? = some (.cells #[.int .i64 (first:Nat)] 3 (0,0)):=by
   rw [hw3]
   have:=heap_alloc_new ((w1.alloc (.cells (cv k).toArray 123)).alloc (.cells #[.pointer (some ⟨v,0,none⟩)] 82)) (.cells #[.int .i64 (first:Nat)] 3)
   rwa [World.size_alloc,World.size_alloc] at this
 have hTA:=told_any 99 (by omega) (fun j=>j=w1.heap.size∨j=w.heap.size∨j=w.heap.size+1) v (w1.heap.size+1) (w1.heap.size+1+1) first (w3.heap.size+2) V Cv Lv w3 ((uh H).below L3.below) v3 f3 (by omega) (by omega) (fun hf=>by have:=hfl _ hf;omega) (fun hf=>by have:=hfl _ hf;omega) (by rintro j (rfl | rfl | rfl) <;> omega) hF
 have L3:=hide L3
 clear L2 k2 v3 f3 Ht hw3
 gi_wp2_with fail
 refine range_any (by omega) (gf:=174) (lb:= #[.pointer (some ⟨w1.heap.size+1,0,none⟩),.pointer (some ⟨w1.heap.size+1+1,0,none⟩)]) rfl (enters_of Tryz.func174 (by kernel_rfl) rfl) hTA
   (fun A B C h k=>KeepV.trans (R:=EqV) (fun _ _ _ a b=>Eq.trans a b) h k) (fun W o o' hl hc=>KeepV.turn (R:=EqV) (fun _=>rfl) W _ o o' hl hc (by omega)) (Below.refl _ _) (fun _=>rfl)
   (fun pre W=>Locs w W [.cells (cv zk).toArray 123,.cells #[.bool false] 4]∧W.heap[w1.heap.size]? = some (.cells (cv (plus k (numsS pre))).toArray 123 (0,0))∧fitsB k (numsS pre)=true)
   (fun pre W=>Locs w W [.cells (cv zk).toArray 123,.cells #[.bool false] 4]∧fitsB k (numsS pre)=false)
   ?ownI ?ownX
   ⟨uh L3,k3,rfl⟩
   (fun x a' W'=> ∃ bx,w1.heap.size<bx∧W'.heap[bx]? = some (.cells #[.int .i64 ((x.table:Nat):Int),.int .i64 ((x.index:Nat):Int),.int .u16 ((x.number:Nat):Int)] 219 (0,0))∧a'={ tmps:= #[.pointer (some ⟨v,0,none⟩),.int .i64 (first:Nat),undef,undef,.pointer (some ⟨w.heap.size,0,none⟩),.pointer (some ⟨w.heap.size+1,0,none⟩),.pointer (some ⟨w1.heap.size,0,none⟩),.pointer (some ⟨bx,0,none⟩),undef,.pointer (some ⟨v,0,none⟩),.agg (cv k).toArray,.pointer (some ⟨v,0,none⟩),.int .i64 (first:Nat),.func (.func 174) #[] #[.pointer (some ⟨w1.heap.size+1,0,none⟩),.pointer (some ⟨w1.heap.size+1+1,0,none⟩)],spotVal x,undef,undef,undef,undef,undef,undef,undef,undef,undef,undef,undef,undef,undef,undef],defers:=[] })
   ?ownA ?assign ?body ?done ?stop
 case ownI=>
   intro pre A B row hs hg hr
   refine ⟨⟨fun i o ho=>blk_turn hg hr (hs.1.objs i o ho) ?_,hs.1.below.grown hg hs.1.below.size (fun k e=>by have:=(hr k e).1;omega)⟩,blk_turn hg hr hs.2.1 (by omega),hs.2.2⟩
   have:=(List.getElem?_eq_some_iff.1 ho).1
   simp only [List.length_cons,List.length_nil] at this
   omega
 case ownX=>
   intro pre A B row hs hg hr
   refine ⟨⟨fun i o ho=>blk_turn hg hr (hs.1.objs i o ho) ?_,hs.1.below.grown hg hs.1.below.size (fun k e=>by have:=(hr k e).1;omega)⟩,hs.2⟩
   have:=(List.getElem?_eq_some_iff.1 ho).1
   simp only [List.length_cons,List.length_nil] at this
   omega
 case ownA=>
   intro x a' _ A' B' row hs hg hr
   obtain ⟨bx,h1,h2,h3⟩:=hs
   refine ⟨bx,h1,?_,h3⟩
   rw [hg.block bx (blk_lt h2) (fun e=>by
     obtain ⟨_,o,ho,hc⟩:=hr bx e.symm
     rw [h2] at ho
     injection ho with ho
     subst ho
     cases hc)]
   exact h2
 case assign=>
   rintro l pre x W K ⟨hL,hk,hf⟩ hK
   unfold spotVal
   gi_wp2
   have hb:Below W.heap.size W (W.alloc (.cells #[.int .i64 ((x.table:Nat):Int),.int .i64 ((x.index:Nat):Int),.int .u16 ((x.number:Nat):Int)] 219)):=(Below.refl _ _).alloc (Nat.le_refl _) _
   exact hK _ _ ((KeepsOthers.alloc _ _).from _) (KeepV.below (R:=EqV) (fun _=>rfl) hb) ⟨hL.alloc _,(hb.block _ (blk_lt hk)).trans hk,hf⟩ ⟨_,blk_lt hk,heap_alloc_new _ _,rfl⟩
 case body=>
   rintro l pre x a' W hl _ ⟨hL,hk,hf⟩ ⟨bx,hbx0,hbx,rfl⟩ hlen
   have hV:=(uh H).below hL.below
   have hxl:x.number%32768<256:=by have:=x.hc.2;omega
   have hkl:(plus k (numsS pre)).length=256:=by rw [plus_length];exact hcl
   have hsn:plus k (numsS (pre++[x]))=plus1 (plus k (numsS pre)) (x.number%32768):=by rw [numsS_snoc,plus_snoc]
   have hfn:fitsB k (numsS (pre++[x]))=decide (byteAt (plus k (numsS pre)) (x.number%32768)<254):=by rw [numsS_snoc,fitsB_snoc,hf,Bool.true_and]
   have c2:W.cell? ⟨bx,2,none⟩=some (.int .u16 ((x.number:Nat):Int)):=(cell_blk hbx 2).trans rfl
   have Hc:Hid (∀ W,_):=fun W=>cluster_of x.number x.hn W
   generalize plus k (numsS pre)=kk at*
   generalize x.number%32768=n at*
   have hni:(n:Int)<256:=by omega
   have c1:W.cell? ⟨w1.heap.size,n,none⟩=some (.int .u8 (byteAt kk n:Nat)):=by
     rw [cell_blk hk,List.getElem?_toArray,cv_get _ _ (by omega)]
   have f1:=frozen_blk hk
   have hbl:=byteAt_lt kk n
   have nf: ∀ j,w.heap.size≤j→ ¬ foot v Cv Lv j:=fun j hj hf=>by have:=hfl j hf;omega
   by_cases hfit:byteAt kk n<254
   · rw [decide_eq_true hfit] at hfn
     have hwr:IntKind.u8.wrap (((byteAt kk n:Nat):Int)+1)=(((byteAt kk n+1)%256:Nat):Int):=by
       rw [IntKind.wrap_u8];omega
     have K3:KeepV (fun j=>j=w1.heap.size∨j=w.heap.size∨j=w.heap.size+1) (fun k=>w3.heap.size+2≤k) v EqV W (W.setCell ⟨w1.heap.size,n,none⟩ (.int .u8 (((byteAt kk n+1)%256:Nat):Int))):=
       KeepV.own hV (Kept.only _ _ _ _) (by rintro j rfl;exact ⟨Or.inl rfl,nf _ (by omega),_,hk,rfl⟩) rfl
     have hset:(cv kk).toArray.setIfInBounds n (.int .u8 (((byteAt kk n+1)%256:Nat):Int))=(cv (plus1 kk n)).toArray:=by
       rw [List.setIfInBounds_toArray,plus1,cv_setB kk n _ (Nat.mod_lt _ (by omega))]
     have hk3:=heap_setCell_same W w1.heap.size n (.int .u8 (((byteAt kk n+1)%256:Nat):Int)) _ _ _ hk
     rw [hset,← hsn] at hk3
     have L3:Locs w (W.setCell ⟨w1.heap.size,n,none⟩ (.int .u8 (((byteAt kk n+1)%256:Nat):Int))) [.cells (cv zk).toArray 123,.cells #[.bool false] 4]:=by
       have hkp:=Kept.only W w1.heap.size n (.int .u8 (((byteAt kk n+1)%256:Nat):Int))
       refine ⟨fun i o ho=>hkp.blk ?_ (hL.objs i o ho),hL.below.setCell (by show w.heap.size≤w1.heap.size;omega) _⟩
       have:=(List.getElem?_eq_some_iff.1 ho).1
       simp only [List.length_cons,List.length_nil] at this
       omega
     have L3:=hide L3
     have K3:=hide K3
     have dg: ¬ ((254:Int)≤((byteAt kk n:Nat):Int)):=by omega
     clear hset hsn hL hV
     generalize byteAt kk n=bb at*
     generalize (bb+1)%256=b2 at*
     gi_wp2_with fail
     refine ⟨trivial,(CallsIn.inRound l (callsIn_wide.2 (uh Hc _))).mono ?_⟩
     rintro e W2 ⟨rfl,rfl⟩
     gi_wp2
     exact ⟨(KeepsOthers.setCell _ _ _).from _,uh K3,uh L3,hk3,hfn⟩
   · rw [decide_eq_false hfit] at hfn
     have hge:(254:Int)≤((byteAt kk n:Nat):Int):=by omega
     have th:=there_blk hL.o0 0 256 (by simp [cv_length,zk_length])
     have L2:=hL.setCells 0 rfl 0 (cv zk)
     rw [Nat.add_zero,setList_all _ _ (by simp [cv_length,zk_length])] at L2
     simp only [List.set_cons_zero] at L2
     have KA:KeepV (fun j=>j=w1.heap.size∨j=w.heap.size∨j=w.heap.size+1) (fun k=>w3.heap.size+2≤k) v EqV W (W.setCells w.heap.size 0 (cv zk)):=
       KeepV.own hV (Kept.onlys _ _ _ _) (by rintro j rfl;exact ⟨Or.inr (Or.inl rfl),nf _ (Nat.le_refl _),_,hL.o0,rfl⟩) rfl
     have FA:KeepsFrom w3.heap.size W (W.setCells w.heap.size 0 (cv zk)):=⟨(Kept.onlys W w.heap.size 0 (cv zk)).size,fun j o hB hj _=>(Kept.onlys W w.heap.size 0 (cv zk)).blk (by omega) hj⟩
     generalize hWA:W.setCells w.heap.size 0 (cv zk)=WA at*
     have r1:WA.cell? ⟨w.heap.size+1,0,none⟩=some (.bool false):=(cell_blk L2.o1 0).trans rfl
     have f2:=frozen_blk L2.o1
     have L3:=L2.setCell 1 rfl 0 (.bool false)
     have KB:KeepV (fun j=>j=w1.heap.size∨j=w.heap.size∨j=w.heap.size+1) (fun k=>w3.heap.size+2≤k) v EqV WA (WA.setCell ⟨w.heap.size+1,0,none⟩ (.bool false)):=
       KeepV.own ((uh H).below L2.below) (Kept.only _ _ _ _) (by rintro j rfl;exact ⟨Or.inr (Or.inr rfl),nf _ (by omega),_,L2.o1,rfl⟩) rfl
     have FB:KeepsFrom w3.heap.size WA (WA.setCell ⟨w.heap.size+1,0,none⟩ (.bool false)):=(KeepsOthers.setCell _ _ _).from _
     have K3:=hide (KeepV.trans (R:=EqV) (fun _ _ _ a b=>Eq.trans a b) KA KB)
     have F3:=hide (FA.trans FB)
     have L3:Locs w (WA.setCell ⟨w.heap.size+1,0,none⟩ (.bool false)) [.cells (cv zk).toArray 123,.cells #[.bool false] 4]:=L3
     have L3:=hide L3
     clear KA KB FA FB L2 hL hV hsn
     generalize byteAt kk n=bb at*
     gi_wp2_with fail
     refine ⟨trivial,(CallsIn.inRound l (callsIn_wide.2 (uh Hc _))).mono ?_⟩
     rintro e W2 ⟨rfl,rfl⟩
     gi_wp2
     exact ⟨uh F3,uh K3,uh L3,hfn⟩
 case done=>
   rintro D xs W hD hS ⟨hL,hk,hf⟩ hK
   have hS':numsS xs=toldAll V.C first:=by rw [hS,told_nums]
   rw [hS'] at hk hf
   have hR:sharedR V.C first=(plus k (toldAll V.C first),true):=by rw [uh HR,if_pos hf]
   have hR:=hide hR
   have hkl:(plus k (toldAll V.C first)).length=256:=by rw [plus_length];exact hcl
   generalize plus k (toldAll V.C first)=kk at*
   have l1:=blk_has hk (n:=256) (by rw [cv_length,hkl])
   have l2:=blk_cells hk (n:=256) (by rw [cv_length,hkl])
   have th:=there_blk hL.o0 0 256 (by simp [cv_length,zk_length])
   have L2:=hL.setCells 0 rfl 0 (cv kk)
   rw [Nat.add_zero,setList_all _ _ (by simp [cv_length,zk_length,hkl])] at L2
   simp only [List.set_cons_zero] at L2
   have hK2:(W.setCells w.heap.size 0 (cv kk)).heap[D]? = some (.deferred (some [])):=(Kept.onlys W w.heap.size 0 (cv kk)).blk (by omega) hK
   generalize hWA:W.setCells w.heap.size 0 (cv kk)=WA at*
   have r1:WA.cell? ⟨w.heap.size+1,0,none⟩=some (.bool false):=(cell_blk L2.o1 0).trans rfl
   have f2:=frozen_blk L2.o1
   have L3:Locs w (WA.setCell ⟨w.heap.size+1,0,none⟩ (.bool true)) [.cells (cv kk).toArray 123,.cells #[.bool true] 4]:=L2.setCell 1 rfl 0 (.bool true)
   have hK3:(WA.setCell ⟨w.heap.size+1,0,none⟩ (.bool true)).heap[D]? = some (.deferred (some [])):=(Kept.only WA (w.heap.size+1) 0 (.bool true)).blk (by omega) hK2
   have L3:=hide L3
   clear L2 hL hk hK hK2 hTA hS
   gi_wp2
   refine ⟨by simp,.inl ⟨_,_,rfl,run_takeDeferred hK3,?_⟩⟩
   have L5:=(uh L3).shut (D:=D) (by simp;omega)
   have n3:=blk_has L5.o0 (n:=256) (by rw [cv_length,hkl])
   have n4:=blk_cells L5.o0 (n:=256) (by rw [cv_length,hkl])
   refine ⟨_,results_cells rfl ⟨w.heap.size,0,none⟩ ⟨w.heap.size+1,0,none⟩ rfl rfl (v:= .agg (cv kk).toArray) (u:= .bool true) (by rw [loadVar_cnt,run_loadCnt n3,n4]) (load_bool L5.o1),?_,L5.below⟩
   rw [uh hR]
 case stop=>
   rintro D pre W hD hSp ⟨hL,hf⟩ hK
   have hff:fitsB k (toldAll V.C first)=false:=by
     rw [← told_nums V first hF]
     refine fitsB_pre (pre:=numsS pre) ?_ hf
     obtain ⟨r,hr⟩:=hSp
     exact ⟨numsS r,by rw [← hr];simp [numsS]⟩
   have hR:sharedR V.C first=(zk,false):=by rw [uh HR,hff];rfl
   have hR:=hide hR
   clear hTA
   gi_wp2
   refine ⟨by simp,.inl ⟨_,_,rfl,run_takeDeferred hK,?_⟩⟩
   have L5:=hL.shut (D:=D) (by simp;omega)
   have n3:=blk_has L5.o0 (n:=256) (by rw [cv_length,zk_length])
   have n4:=blk_cells L5.o0 (n:=256) (by rw [cv_length,zk_length])
   refine ⟨_,results_cells rfl ⟨w.heap.size,0,none⟩ ⟨w.heap.size+1,0,none⟩ rfl rfl (v:= .agg (cv zk).toArray) (u:= .bool false) (by rw [loadVar_cnt,run_loadCnt n3,n4]) (load_bool L5.o1),?_,L5.below⟩
   rw [uh hR]
end Go.Proofs.YtknjjjenklfeoaaGreatDoor
namespace Go.Proofs.YtknjjjenklfeoaaGreatDoor
theorem numsOf_two (c:Clus):numsOf c=[num c 0,num c 2]++(List.range 30).map (fun i=>num c (2*(i+2))):=by
 apply List.ext_getElem?
 intro i
 unfold numsOf
 rw [List.getElem?_map]
 by_cases hi:i<32
 · rw [List.getElem?_range hi]
   match i,hi with
   | 0,_=>rfl
   | 1,_=>rfl
   | k+2,hk=>rw [List.getElem?_append_right (by simp),List.getElem?_map,List.getElem?_range (by simp;omega)];simp
 · rw [List.getElem?_eq_none (by simpa using hi),List.getElem?_eq_none (by simp;omega)];rfl
theorem toldBy_two (c:Clus) (h: ∀ i,1<i→i<32→num c (2*i)=0):toldBy (numsOf c)=toldBy [num c 0,num c 2]:=by
 unfold toldBy
 rw [numsOf_two,List.filter_append]
 have e2:((List.range 30).map (fun i=>num c (2*(i+2)))).filter (· != 0)=[]:=by
   rw [List.filter_eq_nil_iff]
   intro a ha
   obtain ⟨i,hi,rfl⟩:=List.mem_map.1 ha
   have:=List.mem_range.1 hi
   rw [h (i+2) (by omega) (by omega)]
   decide
 rw [e2,List.append_nil]
theorem sum_sumFrom (f:Nat→Nat): ∀ m k,((List.range m).map fun i=>f (k+i)).sum=sumFrom f m k
 | 0,_=>rfl
 | m+1,k=>by
   rw [sumFrom,List.range_succ_eq_map,List.map_cons,List.sum_cons,List.map_map,← sum_sumFrom f m (k+1)]
   congr 2
   apply List.map_congr_left
   intro i _
   simp only [Function.comp]
   congr 1
   omega
theorem count_nums (C:List Clus) (s m:Nat):(toldBy (numsOf (cl C s))).count m=inOcc C s m:=by
 rw [count_toldBy]
 unfold numsOf inOcc nm
 rw [List.map_map]
 have:=sum_sumFrom (fun k=>hit (num (cl C s) (2*k)) m) 32 0
 rw [← this]
 congr 1
theorem count_told {C:List Clus} {f:Nat} (hz: ∀ i,1<i→i<32→nm C f i=0) (m:Nat):(toldAll C f).count m=secOcc C f 0 m+secOcc C f 1 m:=by
 unfold toldAll
 rw [toldBy_two _ hz]
 have key: ∀ x:Nat,((toldBy [x]).flatMap fun s=>s :: toldBy (numsOf (cl C s))).count m=if x=0 then 0 else hit x m+inOcc C (x%32768) m:=by
   intro x
   unfold toldBy
   by_cases h:x=0
   · subst h;simp
   · have e:([x].filter (· != 0))=[x]:=by simp [h]
     rw [e,List.map_cons,List.map_nil,List.flatMap_cons,List.flatMap_nil,List.append_nil,if_neg h,List.count_cons]
     have:=count_nums C (x%32768) m
     unfold toldBy at this
     rw [this,Nat.add_comm]
     congr 1
     by_cases e2:x%32768=m
     · rw [hit_one h e2,if_pos (by simp [e2])]
     · rw [if_neg (by simp [e2])]
       unfold hit
       rw [if_neg (fun z=>e2 z.2)]
 have e:toldBy [num (cl C f) 0,num (cl C f) 2]=toldBy [num (cl C f) 0]++toldBy [num (cl C f) 2]:=by
   unfold toldBy
   rw [← List.map_append,← List.filter_append];rfl
 rw [e,List.flatMap_append,List.count_append,key,key]
 rfl
theorem count_held {C:List Clus} {f:Nat} (hz: ∀ i,1<i→i<32→nm C f i=0) (m:Nat):(heldAll C f).count m=treeOcc C f m:=by
 unfold heldAll treeOcc
 rw [List.count_cons,count_told hz,Nat.add_comm]
 congr 1
 by_cases e:f=m
 · rw [if_pos e,if_pos (by simp [e])]
 · rw [if_neg e,if_neg (by simp [e])]
theorem mem_toldAll {C:List Clus} {f c:Nat} (hz: ∀ i,1<i→i<32→nm C f i=0) (h:c ∈ toldAll C f):
   ∃ j,j<2∧nm C f j≠0∧(nm C f j%32768=c∨ ∃ k,k<32∧nm C (nm C f j%32768) k≠0∧nm C (nm C f j%32768) k%32768=c):=by
 unfold toldAll at h
 obtain ⟨s,hs,hc⟩:=List.mem_flatMap.1 h
 obtain ⟨i,hi,h0,e⟩:=mem_toldBy hs
 have hi2:i<2:=by
   by_cases h2:i<2
   · exact h2
   · exact absurd (hz i (by omega) hi) h0
 refine ⟨i,hi2,h0,?_⟩
 rcases List.mem_cons.1 hc with x | x
 · exact Or.inl (e.trans x.symm)
 · obtain ⟨k,hk,hk0,e2⟩:=mem_toldBy x
   refine Or.inr ⟨k,hk,?_,?_⟩
   · show num (cl C (num (cl C f) (2*i)%32768)) (2*k)≠0
     rw [e];exact hk0
   · show num (cl C (num (cl C f) (2*i)%32768)) (2*k)%32768=c
     rw [e];exact e2
theorem toldAll_mem1 {C:List Clus} {f j:Nat} (hj:j<2) (h0:nm C f j≠0):nm C f j%32768 ∈ toldAll C f:=
 List.mem_flatMap.2 ⟨_,toldBy_mem (by omega) h0,by simp⟩
theorem toldAll_mem2 {C:List Clus} {f j k:Nat} (hj:j<2) (h0:nm C f j≠0) (hk:k<32) (h1:nm C (nm C f j%32768) k≠0):nm C (nm C f j%32768) k%32768 ∈ toldAll C f:=
 List.mem_flatMap.2 ⟨_,toldBy_mem (by omega) h0,List.mem_cons.2 (Or.inr (toldBy_mem hk h1))⟩
def sharedOf (n:Nat):Nat:=n%32768
theorem sharedOf_marks:Marks sharedOf:=fun n _ _ _=>⟨by unfold sharedOf;omega,by unfold sharedOf;omega⟩
def bareTab (c:Clus):Clus:=bytesOf (chgT sharedOf (numsOf c))
theorem bare_num (c:Clus) (q:Nat) (hq:q<32):num (bareTab c) (2*q)=num c (2*q)%32768:=by
 have:=chg_num sharedOf c (fun q _ _=>by unfold sharedOf;omega) q hq
 unfold bareTab
 rw [this]
 by_cases h:num c (2*q)=0
 · rw [if_pos h,h]
 · rw [if_neg h];rfl
theorem bareTab_length (c:Clus):(bareTab c).length=64:=bytesOf_length _
theorem bareTab_twice (c:Clus):bareTab (bareTab c)=bareTab c:=by
 have e:chgT sharedOf (numsOf (bareTab c))=chgT sharedOf (numsOf c):=by
   apply list_ext_getD
   · rw [chgT_length,chgT_length,numsOf_length,numsOf_length]
   · intro i hi
     rw [chgT_length,numsOf_length] at hi
     rw [chgT_get,chgT_get,numsOf_get _ _ hi,numsOf_get _ _ hi,bare_num _ _ hi]
     unfold sharedOf
     by_cases h:num c (2*i)=0
     · simp [h]
     · by_cases h2:num c (2*i)%32768=0
       · simp [h2]
       · rw [if_neg h2,if_neg h];omega
 show bytesOf (chgT sharedOf (numsOf (bareTab c)))=bytesOf (chgT sharedOf (numsOf c))
 rw [e]
theorem renumTab_bare (V:VolR) (t:Nat):renumTab sharedOf V t=putV V t (bareTab (cl V.C t)):=rfl
theorem bare_puts (C0:List Clus) (ts:List Nat): ∀ V:VolR,(∀ t ∈ ts,t<V.C.length)→(∀ t,t<V.C.length→cl V.C t=cl C0 t∨cl V.C t=bareTab (cl C0 t))→
   renumV sharedOf V ts=puts V (ts.map fun t=>(t,bareTab (cl C0 t))):=by
 induction ts with
 | nil=>intro V _ _;rfl
 | cons t r ih=>
   intro V ht hC
   have htl:=ht t (by simp)
   have e:renumTab sharedOf V t=putV V t (bareTab (cl C0 t)):=by
     rw [renumTab_bare]
     rcases hC t htl with x | x
     · rw [x]
     · rw [x,bareTab_twice]
   rw [renumV_cons,e,List.map_cons,puts_cons]
   dsimp only
   have hlen:=putV_lenC V t (bareTab (cl C0 t))
   refine ih (putV V t (bareTab (cl C0 t))) (fun x hx=>by rw [hlen];have:=ht x (by simp [hx]);omega) (fun x hx=> ?_)
   by_cases ex:t=x
   · subst ex;rw [cl_putV_at];exact Or.inr rfl
   · rw [cl_putV_ne _ _ _ _ (by rw [hlen] at hx;omega) ex]
     exact hC x (by rw [hlen] at hx;omega)
def bareList (C0:List Clus) (f:Nat):List (Nat × Clus):=(f :: toldBy (numsOf (cl C0 f))).map fun t=>(t,bareTab (cl C0 t))
section
variable {L:List Clus} {rs:List RootR} {f:Nat}
theorem SoundL.noShare (h:SoundL L rs) (hf:f ∈ rs.map (·.N)) {t q:Nat} (ht:IsFst rs t∨IsSec L rs t) (hn:t ∉ f :: toldBy (numsOf (cl L f))) (hq:q<32) (h0:nm L t q≠0) (h1:countOf L (nm L t q%32768)=1):(toldAll L f).count (nm L t q%32768)=0:=by
 obtain ⟨rf,hrf,rfl⟩:=List.mem_map.1 hf
 refine List.count_eq_zero.2 fun hm=> ?_
 have hin:=h.num_in ht q hq h0
 have hlen:=h.len
 have u1:=h.used1 ht q hq h0
 have u2:=h.cnt (nm L t q%32768) (by omega)
 have hu:useOf L rs (nm L t q%32768)=1:=by omega
 obtain ⟨j',hj',hj0,hc⟩:=mem_toldAll (fun i h1 h2=>h.zero rf hrf i h1 h2) hm
 rcases ht with ⟨r,hr,rfl⟩ | ⟨r,hr,j,hj,hjj,e⟩
 · have hq2:q<2:=by
     by_cases x:q<2
     · exact x
     · exact absurd (h.zero r hr q (by omega) hq) h0
   rcases hc with e | ⟨k,hk,hk0,e⟩
   · have:=sec_place hu hr hrf hq2 hj' h0 hj0 rfl e
     exact hn (by rw [this.1];simp)
   · exact h.sb _ ⟨r,hr,q,hq2,h0,rfl⟩ ⟨_,⟨rf,hrf,j',hj',hj0,rfl⟩,k,hk,hk0,e⟩
 · have hblk:IsBlk L rs (nm L t q%32768):=⟨t,⟨r,hr,j,hj,hjj,e⟩,q,hq,h0,rfl⟩
   rcases hc with e2 | ⟨k,hk,hk0,e2⟩
   · exact h.sb _ ⟨rf,hrf,j',hj',hj0,e2⟩ hblk
   · have e3:nm L (nm L r.N j%32768) q=nm L t q:=by rw [e]
     have:=blk_place hu hr hrf hj hj' hq hk hjj hj0 (by rw [e3];exact h0) hk0 (by rw [e3]) e2
     refine hn (List.mem_cons.2 (Or.inr ?_))
     rw [← e,← this.1,← this.2.1]
     exact toldBy_mem (by omega) hj0
end
section
variable {base:List Clus} {V:VolR} {N0:Nat} {E:List EntR} {f n:Nat}
def copy1 (V:VolR) (f n:Nat):VolR:=flushV (renumV sharedOf (lengthenV V [n]) (tabsOf (lengthenV V [n]) f))
def copyCnt (C:List Clus) (f n:Nat):List UInt8:=(plus (cntsOf C) (toldAll C f)).set n 1
def copyV (V:VolR) (f n:Nat):VolR:=flushV (putV (putCnt (copy1 V f n) (copyCnt V.C f n) 4) n (cl (putCnt (copy1 V f n) (copyCnt V.C f n) 4).C f))
def ofTree (C:List Clus) (f t:Nat):Prop:=t ∈ f :: toldBy (numsOf (cl C f))
theorem SoundL.same_bare {L:List Clus} {rs:List RootR} (h:SoundL L rs) {t:Nat} (ht:IsFst rs t∨IsSec L rs t) (q:Nat) (hq:q<32):SameN (num (bareTab (cl L t)) (2*q)) (nm L t q):=by
 rw [bare_num _ _ hq]
 show SameN (nm L t q%32768) (nm L t q)
 refine ⟨⟨fun e=> ?_,fun e=> ?_⟩,by omega⟩
 · by_cases h0:nm L t q=0
   · exact h0
   · have:=h.num_in ht q hq h0;omega
 · rw [e]
theorem Vol.copyA (h:Vol base V N0 E) (hf:f ∈ (rsOf N0 E).map (·.N)) (hn:n<256):
   copy1 V f n=epoch (lengthenV V [n]) (bareList (lengthenV V [n]).C f)∧(∀ ps,(∀ x ∈ ps,x ∈ bareList (lengthenV V [n]).C f)→Ok (putsC (lengthenV V [n]).C ps) (lenTo V.C [n]) N0 E (dskOf V.C N0 E))∧
     Ok (copy1 V f n).C (lenTo V.C [n]) N0 E (dskOf V.C N0 E)∧(copy1 V f n).C.length=V.C.length∧(∀ t,t≠0→ofTree V.C f t→cl (copy1 V f n).C t=bareTab (cl V.C t))∧(∀ t,t≠0→ ¬ ofTree V.C f t→cl (copy1 V f n).C t=cl V.C t):=by
 obtain ⟨a1,a2,a3,a4,a5⟩:=h.longer [n] (by rw [lastOf_one];exact hn)
 have hlen:=h.sound.len
 have htab: ∀ t,ofTree V.C f t→IsFst (rsOf N0 E) t∨IsSec V.C (rsOf N0 E) t:=fun t ht=>tabs_kind h.sound hf ht
 have hlt: ∀ t,ofTree V.C f t→6≤t∧t<V.C.length:=fun t ht=>h.sound.tab_lt (htab t ht)
 have hf6:=hlt f (by unfold ofTree;simp)
 have ef:cl (lengthenV V [n]).C f=cl V.C f:=a4 f (by omega)
 have e:copy1 V f n=epoch (lengthenV V [n]) (bareList (lengthenV V [n]).C f):=by
   unfold copy1 epoch bareList tabsOf
   rw [bare_puts (lengthenV V [n]).C _ (lengthenV V [n]) (fun t ht=> ?_) (fun t _=>Or.inl rfl)]
   rw [ef] at ht
   rw [a2];exact (hlt t ht).2
 have hmem: ∀ x ∈ bareList (lengthenV V [n]).C f,ofTree V.C f x.1∧x.2=bareTab (cl V.C x.1):=by
   intro x hx
   unfold bareList at hx
   rw [ef] at hx
   obtain ⟨t,ht,rfl⟩:=List.mem_map.1 hx
   exact ⟨ht,by rw [a4 t (by have:=hlt t ht;omega)]⟩
 have hpad: ∀ t q,t≠0→t<V.C.length→nm (padTo (lengthenV V [n]).C (lenTo V.C [n])) t q=nm V.C t q:=by
   intro t q h0 ht
   rw [nm_pad _ _ _ _ (by unfold lenTo;omega),vw_at (by rw [a2];exact ht),a4 t h0]
 have hok: ∀ ps,(∀ x ∈ ps,x ∈ bareList (lengthenV V [n]).C f)→Ok (putsC (lengthenV V [n]).C ps) (lenTo V.C [n]) N0 E (dskOf V.C N0 E):=by
   intro ps hps
   refine a1.marks ps fun x hx=> ?_
   obtain ⟨b1,b2⟩:=hmem x (hps x hx)
   have b3:=hlt x.1 b1
   have hsec: ∀ s,IsSec V.C (rsOf N0 E) s→IsSec (padTo (lengthenV V [n]).C (lenTo V.C [n])) (rsOf N0 E) s:=by
     rintro s ⟨r,hr,j,hj,h0,e⟩
     have:=h.sound.fst r hr
     exact ⟨r,hr,j,hj,by rw [hpad _ _ (by omega) this.2];exact h0,by rw [hpad _ _ (by omega) this.2];exact e⟩
   refine ⟨?_,by rw [b2];exact bareTab_length _,fun q hq=> ?_,fun q hq hm=> ?_⟩
   · rcases htab _ b1 with y | y
     · exact Or.inl y
     · exact Or.inr (hsec _ y)
   · rw [hpad _ _ (by omega) b3.2,b2]
     exact h.sound.same_bare (htab _ b1) q hq
   · rw [b2,bare_num _ _ hq] at hm
     omega
 have hC:(copy1 V f n).C=putsC (lengthenV V [n]).C (bareList (lengthenV V [n]).C f):=by rw [e,epoch_C]
 have hl2:(copy1 V f n).C.length=V.C.length:=by
   rw [hC]
   have:=putsC_length (bareList (lengthenV V [n]).C f) (lengthenV V [n]).C V.C.length (by omega) (fun x hx=>(hlt _ (hmem x hx).1).2)
   omega
 refine ⟨e,hok,by rw [hC];exact hok _ (fun x hx=>hx),hl2,fun t h0 ht=> ?_,fun t h0 ht=> ?_⟩
 · have:=hlt t ht
   rw [← vw_at (by rw [hl2];exact this.2),hC]
   exact vw_puts_new (fun t=>bareTab (cl V.C t)) t _ _ (fun x hx=>(hmem x hx).2) ⟨(t,bareTab (cl (lengthenV V [n]).C t)),by
     unfold bareList
     rw [ef]
     exact List.mem_map.2 ⟨t,ht,rfl⟩,rfl⟩
 · by_cases hl:t<V.C.length
   · rw [← vw_at (by rw [hl2];exact hl),hC,vw_puts_none t _ _ (fun x hx z=>ht (by rw [← z];exact (hmem x hx).1)),vw_at (by rw [a2];exact hl),a4 t h0]
   · rw [cl_past (by omega),cl_past (by omega)]
theorem Vol.copy_cnt (h:Vol base V N0 E) (hf:f ∈ (rsOf N0 E).map (·.N)) (hn:n<256) (hfit:fitsB (cntsOf V.C) (toldAll V.C f)=true):(copyCnt V.C f n).length=256∧(∀ m,m<256→byteAt (copyCnt V.C f n) m=if n=m then 1 else countOf V.C m+(toldAll V.C f).count m)∧(∀ u ∈ toldAll V.C f,6≤u∧u<V.C.length):=by
 obtain ⟨k1,k2⟩:=h.ok.cnts rfl
 obtain ⟨r,hr,rfl⟩:=List.mem_map.1 hf
 have hlen:=h.sound.len
 have hu: ∀ u ∈ toldAll V.C r.N,6≤u∧u<V.C.length:=fun u hu=>by
   obtain ⟨j,hj,h0,x | ⟨k,hk,hk0,x⟩⟩:=mem_toldAll (fun i h1 h2=>h.sound.zero r hr i h1 h2) hu
   · exact h.sound.sec _ ⟨r,hr,j,hj,h0,x⟩
   · exact h.sound.blk _ ⟨_,⟨r,hr,j,hj,h0,rfl⟩,k,hk,hk0,x⟩
 refine ⟨by unfold copyCnt;rw [List.length_set,plus_length,k1],fun m hm=> ?_,hu⟩
 unfold copyCnt
 rw [byteAt_set _ _ _ _ (by rw [plus_length,k1];exact hn),plus_get _ _ _ (fun u h=>by rw [k1];have:=hu u h;omega) hfit,k2 m hm]
 rfl
theorem Vol.copied (h:Vol base V N0 E) (hf:f ∈ (rsOf N0 E).map (·.N)) (hn:n<256) (h0:countOf V.C n=0) (hfit:fitsB (cntsOf V.C) (toldAll V.C f)=true):
   copyV V f n=epoch (copy1 V f n) (cntPuts (copyCnt V.C f n)++[(n,cl (copy1 V f n).C f)])∧
     (∀ ps,(∀ x ∈ ps,x ∈ cntPuts (copyCnt V.C f n)++[(n,cl (copy1 V f n).C f)])→Ok (putsC (copy1 V f n).C ps) (lenTo V.C [n]) N0 E (dskOf V.C N0 E))∧
     Ok (copyV V f n).C (lenTo V.C [n]) N0 E (dskOf V.C N0 E)∧(copyV V f n).C.length=lenTo V.C [n]∧
     (∀ m,m<256→countOf (copyV V f n).C m=if n=m then 1 else countOf V.C m+(toldAll V.C f).count m)∧cl (copyV V f n).C n=bareTab (cl V.C f)∧
     (∀ t,5≤t→t<V.C.length→t≠n→ofTree V.C f t→cl (copyV V f n).C t=bareTab (cl V.C t))∧(∀ t,5≤t→t<V.C.length→t≠n→ ¬ ofTree V.C f t→cl (copyV V f n).C t=cl V.C t)∧Shape V.C (copyV V f n).C (rsOf N0 E):=by
 obtain ⟨a0,a1,a2,a3,a4,a5⟩:=h.copyA hf hn
 obtain ⟨k1,k2,k3⟩:=h.copy_cnt hf hn hfit
 have hT:lenTo V.C [n]=max V.C.length (n+1):=rfl
 have h6:=h.sound.free_six hn h0
 have h7:=h.file.seven
 have hlen:=h.sound.len
 have hun:=h.sound.untold hn h0
 have htab: ∀ t,ofTree V.C f t→IsFst (rsOf N0 E) t∨IsSec V.C (rsOf N0 E) t:=fun t ht=>tabs_kind h.sound hf ht
 have hf6:=h.sound.tab_lt (htab f (by unfold ofTree;simp))
 have hnt: ¬ ofTree V.C f n:=fun x=>by
   rcases htab n x with y | y
   · exact hun.1 y
   · exact hun.2.1 y
 have same: ∀ t,(IsFst (rsOf N0 E) t∨IsSec V.C (rsOf N0 E) t)→ ∀ q,q<32→SameN (nm (padTo (copy1 V f n).C (lenTo V.C [n])) t q) (nm V.C t q)∧(32768≤nm (padTo (copy1 V f n).C (lenTo V.C [n])) t q→ ¬ ofTree V.C f t∧nm (padTo (copy1 V f n).C (lenTo V.C [n])) t q=nm V.C t q):=by
   intro t ht q hq
   have:=h.sound.tab_lt ht
   rw [nm_pad _ _ _ _ (by omega),vw_at (by omega)]
   by_cases ho:ofTree V.C f t
   · rw [a4 t (by omega) ho]
     exact ⟨h.sound.same_bare ht q hq,fun hm=>by rw [bare_num _ _ hq] at hm;omega⟩
   · rw [a5 t (by omega) ho]
     exact ⟨SameN.refl _,fun _=>⟨ho,rfl⟩⟩
 have hs1:Shape V.C (padTo (copy1 V f n).C (lenTo V.C [n])) (rsOf N0 E):=⟨fun r hr j hj=>(same _ (Or.inl ⟨r,hr,rfl⟩) j hj).1,fun s hs k hk=>(same s (Or.inr hs) k hk).1⟩
 have key: ∀ t,(IsFst (rsOf N0 E) t∨IsSec V.C (rsOf N0 E) t)→ ∀ q,q<32→32768≤nm (padTo (copy1 V f n).C (lenTo V.C [n])) t q→byteAt (copyCnt V.C f n) (nm (padTo (copy1 V f n).C (lenTo V.C [n])) t q%32768)=1:=by
   intro t ht q hq hm
   obtain ⟨ho,e⟩:=(same t ht q hq).2 hm
   rw [e] at hm ⊢
   have hin:=h.sound.num_in ht q hq (by omega)
   have h1:=h.sound.marked1 ht q hq hm
   rw [k2 _ (by omega)]
   have hz:=h.sound.noShare hf ht ho hq (by omega) h1
   split
   · rfl
   · omega
 have hok: ∀ ps,(∀ x ∈ ps,x ∈ cntPuts (copyCnt V.C f n)++[(n,cl (copy1 V f n).C f)])→Ok (putsC (copy1 V f n).C ps) (lenTo V.C [n]) N0 E (dskOf V.C N0 E):=by
   intro ps hps
   refine a2.counts (copyCnt V.C f n) k1 (fun m=>m=n) (fun m hm=> ?_) (fun m hm=> ?_) (fun m hm=> ?_) (fun m hm hTm=> ?_) (fun r hr j hj hm=>key r.N (Or.inl ⟨r,hr,rfl⟩) j (by omega) hm) (fun s hs q hq hm=>key s (Or.inr ((hs1.isSec s).1 hs)) q hq hm) ps (fun x hx=> ?_)
   · rw [hm]
     exact ⟨by omega,h6,hun.1,fun x=>hun.2.1 ((hs1.isSec n).1 x),fun x=>hun.2.2 ((hs1.isBlk n).1 x)⟩
   · rw [hs1.use,k2 m hm]
     by_cases e:n=m
     · subst e
       rw [if_pos rfl,use_none h.sound hun,base6_eq,if_neg (by omega)]
       omega
     · rw [if_neg e]
       have:=h.sound.cnt m hm
       omega
   · rw [k2 m hm]
     split
     · omega
     · obtain ⟨c1,c2⟩:=h.ok.cnts rfl
       by_cases hmm:m ∈ toldAll V.C f
       · have:=(fits_iff _ _ (fun u hu=>by rw [c1];have:=k3 u hu;omega)).1 hfit m hmm
         rw [c2 m hm] at this
         omega
       · rw [List.count_eq_zero.2 hmm]
         have:=h.sound.top m hm
         omega
   · rw [k2 m hm,if_neg (by omega),h.sound.none m hm (by omega),List.count_eq_zero.2 (fun x=>by have:=k3 m x;omega)]
   · rcases List.mem_append.1 (hps x hx) with y | y
     · exact Or.inl (cntPuts_mem y)
     · rw [List.mem_singleton.1 y]
       refine Or.inr ⟨rfl,?_⟩
       exact a2.file.lens _ (by
         unfold cl
         rw [List.getD_eq_getElem?_getD,List.getElem?_eq_getElem (by omega)]
         exact List.getElem_mem _)
 have e:copyV V f n=epoch (copy1 V f n) (cntPuts (copyCnt V.C f n)++[(n,cl (copy1 V f n).C f)]):=by
   unfold copyV epoch
   rw [puts_append,← putCnt_puts,puts_one]
   dsimp only
   rw [cl_putCnt _ (by omega) f (by omega) 4 (by omega),if_neg (by omega)]
 have hC:(copyV V f n).C=putsC (copy1 V f n).C (cntPuts (copyCnt V.C f n)++[(n,cl (copy1 V f n).C f)]):=by rw [e,epoch_C]
 have e2:putsC (copy1 V f n).C (cntPuts (copyCnt V.C f n)++[(n,cl (copy1 V f n).C f)])=putC (putsC (copy1 V f n).C (cntPuts (copyCnt V.C f n))) (n,cl (copy1 V f n).C f):=by simp [putsC]
 have hl4:(putsC (copy1 V f n).C (cntPuts (copyCnt V.C f n))).length=V.C.length:=by
   have:=putsC_length (cntPuts (copyCnt V.C f n)) (copy1 V f n).C V.C.length (by omega) (fun x hx=>by obtain ⟨p,hp,rfl⟩:=cntPuts_mem hx;simp only;omega)
   omega
 have hl:(copyV V f n).C.length=lenTo V.C [n]:=by
   rw [hC,e2,putC_length,hl4];rfl
 have hvw: ∀ t,5≤t→t<V.C.length→t≠n→cl (copyV V f n).C t=cl (copy1 V f n).C t:=fun t h5 ht hne=>by
   rw [← vw_at (by omega),hC,e2,vw_putC,if_neg (fun z=>hne z.symm),vw_puts_none t _ _ (fun x hx=>by obtain ⟨p,hp,rfl⟩:=cntPuts_mem hx;simp only;omega),vw_at (by omega)]
 have hb1: ∀ t,5≤t→t<V.C.length→t≠n→ofTree V.C f t→cl (copyV V f n).C t=bareTab (cl V.C t):=fun t h5 ht hne ho=>by rw [hvw t h5 ht hne,a4 t (by omega) ho]
 have hb2: ∀ t,5≤t→t<V.C.length→t≠n→ ¬ ofTree V.C f t→cl (copyV V f n).C t=cl V.C t:=fun t h5 ht hne ho=>by rw [hvw t h5 ht hne,a5 t (by omega) ho]
 have same2: ∀ t,(IsFst (rsOf N0 E) t∨IsSec V.C (rsOf N0 E) t)→ ∀ q,q<32→SameN (nm (copyV V f n).C t q) (nm V.C t q):=fun t ht q hq=>by
   have h1:=h.sound.tab_lt ht
   have hne:t≠n:=fun z=>by
     rw [z] at ht
     rcases ht with y | y
     · exact hun.1 y
     · exact hun.2.1 y
   unfold nm
   by_cases ho:ofTree V.C f t
   · rw [hb1 t (by omega) h1.2 hne ho];exact h.sound.same_bare ht q hq
   · rw [hb2 t (by omega) h1.2 hne ho];exact SameN.refl _
 refine ⟨e,hok,by rw [hC];exact hok _ (fun x hx=>hx),hl,fun m hm=> ?_,?_,hb1,hb2,⟨fun r hr j hj=>same2 _ (Or.inl ⟨r,hr,rfl⟩) j hj,fun s hs k hk=>same2 s (Or.inr hs) k hk⟩⟩
 · have:=vw_cntPuts (copy1 V f n).C (copyCnt V.C f n) m hm [(n,cl (copy1 V f n).C f)] (fun x hx=>by rw [List.mem_singleton.1 hx];simp only;omega)
   unfold countOf
   rw [← vw_at (by omega),hC,this,k2 m hm]
   rfl
 · rw [← vw_at (by omega),hC,e2,vw_putC,if_pos rfl,a4 f (by omega) (by unfold ofTree;simp)]
end
end Go.Proofs.YtknjjjenklfeoaaGreatDoor
