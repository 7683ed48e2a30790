import Derived.Test.YtknjjjenklfeoaaGreatDoorT12
set_option maxHeartbeats 8000000
set_option maxRecDepth 100000
namespace Go.Proofs.YtknjjjenklfeoaaGreatDoor
open Go.RowKit Go.Shelf
attribute [local go_sem ↓] loadVar_clus storeVar_clus zeroValue_clus loadVar_tab storeVar_tab zeroValue_tab loadVar_cnt storeVar_cnt zeroValue_cnt loadVar_head storeVar_head zeroValue_head build_head buildSlice_clus loadVar_wr storeVar_wr zeroValue_wr build_wr buildSlice_wr equalIn_clus loadVar_place storeVar_place zeroValue_place build_place
attribute [local go_sem] run_loadClus run_storeClus run_zeroClus run_storeClus_new run_loadClus_new zc_length run_loadTab run_storeTab run_zeroTab run_storeTab_new run_loadTab_new zt_length run_loadCnt run_storeCnt run_zeroCnt run_storeCnt_new run_loadCnt_new zk_length run_loadHead run_storeHead run_zeroHead run_storeHead_new run_bHead HasAt_drew cellsAt_drew HasAt_drewN cellsAt_drewN run_bsClus run_loadWr run_zeroWr run_storeWr run_storeWr_new run_bWr0 run_bsWr run_loadPlace run_storePlace run_zeroPlace run_storePlace_new run_bPlace
attribute [local go_sem] field_head1 field_head0 Oper.semAt_some
def bCnt (parts:Array (Nat × Value)):Sem Value:=Instr.build 123 parts
theorem build_cnt (parts:Array (Nat × Value)):Instr.build 123 parts=bCnt parts:=rfl
theorem run_bCnt0 (w:World):(bCnt #[]).run Tryz.prog w= .ok (.agg (cv zk).toArray) w:=by
 unfold bCnt Instr.build
 simp only [zeroValue_cnt]
 simp [run_zeroCnt]
 rfl
attribute [local go_sem ↓] build_cnt
attribute [local go_sem] run_bCnt0
theorem results_cells {fn:Func} {p q:Tmp} {ty tz:TypeId} (h:fn.results= #[.cell p ty,.cell q tz]) {tmps:Array Value} {P:Program} {w:World} (a b:Addr) {v u:Value} (ht:tmps.getD p undef= .pointer (some a)) (hq:tmps.getD q undef= .pointer (some b)) (hl:(loadVar ty a).run P w= .ok v w) (hm:(loadVar tz b).run P w= .ok u w):
   (results fn tmps).run P w= .ok (.tuple #[v,u]) w:=by
 simp only [results,h]
 simp [-Array.getD_eq_getD_getElem?,asAddr,ht,hq,hl,hm]
def sharedR (C:List Clus) (f:Nat):List UInt8 × Bool:=if fitsB (cntsOf C) (toldAll C f) then (plus (cntsOf C) (toldAll C f),true) else (zk,false)
theorem Locs.shut {w W:World} {os:List Obj} {D:Nat} (h:Locs w W os) (hD:w.heap.size+os.length≤D):Locs w (W.putObj D (.deferred none)) os:=by
 have hg:=grownBy_putObj' W D (.deferred none)
 have hk:Kept (fun k=>k=D) W (W.putObj D (.deferred none)):=⟨hg.os,hg.tape,hg.output,hg.size,fun k hk hs=>hg.block k hk (fun e=>hs (by injection e))⟩
 refine ⟨fun i o ho=>hk.blk ?_ (h.objs i o ho),h.below.grown hg h.below.size (fun k e=>by cases e;omega)⟩
 have:=(List.getElem?_eq_some_iff.1 ho).1
 omega
theorem load_bool {w:World} {b:Nat} {x:Bool} {t:TypeId} {fr:Nat × Nat} (h:w.heap[b]? = some (.cells #[.bool x] t fr)):(loadVar 4 ⟨b,0,none⟩).run Tryz.prog w= .ok (.bool x) w:=by
 have c:w.cell? ⟨b,0,none⟩=some (.bool x):=(cell_blk h 0).trans rfl
 simp [go_sem,c]
theorem shared_any (w:World) (v:Nat) (Cv Lv:Value) (V:VolR) (h:VolAt w v Cv Lv V) (h5:5<V.C.length) (hC:V.C.length≤256) (first:Nat) (hF:FirstOK V first):
   CallsIn Fence.wide 100 Tryz.prog 144 #[.pointer (some ⟨v,0,none⟩),.int .i64 (first:Nat)] w fun e w'=>e= .returned (.tuple #[.agg (cv (sharedR V.C first).1).toArray,.bool (sharedR V.C first).2])∧Below w.heap.size w w':=by
 have L0:=Locs.two w (.cells (cv zk).toArray 123) (.cells #[.bool false] 4)
 have Hc:=hide (counts_vol _ v Cv Lv V (h.below L0.below) (by omega))
 have hcl:=cntsOf_length V.C h.lenC (by omega)
 have HR:Hid (sharedR V.C first=if fitsB (cntsOf V.C) (toldAll V.C first) then (plus (cntsOf V.C) (toldAll V.C first),true) else (zk,false)):=rfl
 have H:=hide h
 have L0:=hide L0
 have hvl:v<w.heap.size:=h.lt
 have hfl: ∀ j,foot v Cv Lv j→j<w.heap.size:=h.foot_lt
 clear h
 generalize cntsOf V.C=k at*
 refine callsIn_of_wp_marks Tryz.func144 rfl trivial ?_ rfl
 simp only [Tryz.ntmps144,List.size_toArray,List.length_cons,List.length_nil,Nat.reduceAdd,Nat.reduceSub,Array.replicate_succ,Array.replicate_zero,List.push_toArray,List.append_toArray,List.nil_append,List.cons_append]
 gi_wp2_with fail
 refine ⟨trivial,(callsIn_wide.2 (uh Hc)).mono ?_⟩
 rintro e w1 ⟨rfl,hb1⟩
 have L1:=(uh L0).later hb1
 have hw1:w.heap.size+1<w1.heap.size:=blk_lt L1.o1
 have L2:=hide (L1.alloc (.cells (cv k).toArray 123))
 have k2:(w1.alloc (.cells (cv k).toArray 123)).heap[w1.heap.size]? = some (.cells (cv k).toArray 123 (0,0)):=heap_alloc_new _ _
 have Ht:=hide (told_make (w1.alloc (.cells (cv k).toArray 123)) v first)
 simp only [World.size_alloc] at Ht
 clear Hc hb1 L1 L0
 gi_wp2_with fail
 refine ⟨trivial,(callsIn_wide.2 (uh Ht)).mono ?_⟩
 rintro e w3 ⟨rfl,hw3⟩
 have L3:=((uh L2).alloc (.cells #[.pointer (some ⟨v,0,none⟩)] 82)).alloc (.cells #[.int .i64 (first:Nat)] 3)
 rw [← hw3] at L3
 have hs3:w3.heap.size=w1.heap.size+3:=by rw [hw3];simp
 have k3:w3.heap[w1.heap.size]? = some (.cells (cv k).toArray 123 (0,0)):=by
   rw [hw3,heap_alloc_old _ _ (by simp;omega),heap_alloc_old _ _ (by simp)];exact k2
 have v3:w3.heap[w1.heap.size+1]? = some (.cells #[.pointer (some ⟨v,0,none⟩)] 82 (0,0)):=by
   rw [hw3,heap_alloc_old _ _ (by simp)]
   have:=heap_alloc_new (w1.alloc (.cells (cv k).toArray 123)) (.cells #[.pointer (some ⟨v,0,none⟩)] 82)
   rwa [World.size_alloc] at this
 have f3:w3.heap[w1.heap.size+1+1]? = some (.cells #[.int .i64 (first:Nat)] 3 (0,0)):=by
   rw [hw3]
   have:=heap_alloc_new ((w1.alloc (.cells (cv k).toArray 123)).alloc (.cells #[.pointer (some ⟨v,0,none⟩)] 82)) (.cells #[.int .i64 (first:Nat)] 3)
   rwa [World.size_alloc,World.size_alloc] at this
 have hTA:=told_any 99 (by omega) (fun j=>j=w1.heap.size∨j=w.heap.size∨j=w.heap.size+1) v (w1.heap.size+1) (w1.heap.size+1+1) first (w3.heap.size+2) V Cv Lv w3 ((uh H).below L3.below) v3 f3 (by omega) (by omega) (fun hf=>by have:=hfl _ hf;omega) (fun hf=>by have:=hfl _ hf;omega) (by rintro j (rfl | rfl | rfl) <;> omega) hF
 have L3:=hide L3
 clear L2 k2 v3 f3 Ht hw3
 gi_wp2_with fail
 refine range_any (by omega) (gf:=174) (lb:= #[.pointer (some ⟨w1.heap.size+1,0,none⟩),.pointer (some ⟨w1.heap.size+1+1,0,none⟩)]) rfl (enters_of Tryz.func174 (by kernel_rfl) rfl) hTA
   (fun A B C h k=>KeepV.trans (R:=EqV) (fun _ _ _ a b=>Eq.trans a b) h k) (fun W o o' hl hc=>KeepV.turn (R:=EqV) (fun _=>rfl) W _ o o' hl hc (by omega)) (Below.refl _ _) (fun _=>rfl)
   (fun pre W=>Locs w W [.cells (cv zk).toArray 123,.cells #[.bool false] 4]∧W.heap[w1.heap.size]? = some (.cells (cv (plus k (numsS pre))).toArray 123 (0,0))∧fitsB k (numsS pre)=true)
   (fun pre W=>Locs w W [.cells (cv zk).toArray 123,.cells #[.bool false] 4]∧fitsB k (numsS pre)=false)
   ?ownI ?ownX
   ⟨uh L3,k3,rfl⟩
   (fun x a' W'=> ∃ bx,w1.heap.size<bx∧W'.heap[bx]? = some (.cells #[.int .i64 ((x.table:Nat):Int),.int .i64 ((x.index:Nat):Int),.int .u16 ((x.number:Nat):Int)] 219 (0,0))∧a'={ tmps:= #[.pointer (some ⟨v,0,none⟩),.int .i64 (first:Nat),undef,undef,.pointer (some ⟨w.heap.size,0,none⟩),.pointer (some ⟨w.heap.size+1,0,none⟩),.pointer (some ⟨w1.heap.size,0,none⟩),.pointer (some ⟨bx,0,none⟩),undef,.pointer (some ⟨v,0,none⟩),.agg (cv k).toArray,.pointer (some ⟨v,0,none⟩),.int .i64 (first:Nat),.func (.func 174) #[] #[.pointer (some ⟨w1.heap.size+1,0,none⟩),.pointer (some ⟨w1.heap.size+1+1,0,none⟩)],spotVal x,undef,undef,undef,undef,undef,undef,undef,undef,undef,undef,undef,undef,undef,undef],defers:=[] })
   ?ownA ?assign ?body ?done ?stop
 case ownI=>
   intro pre A B row hs hg hr
   refine ⟨⟨fun i o ho=>blk_turn hg hr (hs.1.objs i o ho) ?_,hs.1.below.grown hg hs.1.below.size (fun k e=>by have:=(hr k e).1;omega)⟩,blk_turn hg hr hs.2.1 (by omega),hs.2.2⟩
   have:=(List.getElem?_eq_some_iff.1 ho).1
   simp only [List.length_cons,List.length_nil] at this
   omega
 case ownX=>
   intro pre A B row hs hg hr
   refine ⟨⟨fun i o ho=>blk_turn hg hr (hs.1.objs i o ho) ?_,hs.1.below.grown hg hs.1.below.size (fun k e=>by have:=(hr k e).1;omega)⟩,hs.2⟩
   have:=(List.getElem?_eq_some_iff.1 ho).1
   simp only [List.length_cons,List.length_nil] at this
   omega
 case ownA=>
   intro x a' _ A' B' row hs hg hr
   obtain ⟨bx,h1,h2,h3⟩:=hs
   refine ⟨bx,h1,?_,h3⟩
   rw [hg.block bx (blk_lt h2) (fun e=>by
     obtain ⟨_,o,ho,hc⟩:=hr bx e.symm
     rw [h2] at ho
     injection ho with ho
     subst ho
     cases hc)]
   exact h2
 case assign=>
   rintro l pre x W K ⟨hL,hk,hf⟩ hK
   unfold spotVal
   gi_wp2
   have hb:Below W.heap.size W (W.alloc (.cells #[.int .i64 ((x.table:Nat):Int),.int .i64 ((x.index:Nat):Int),.int .u16 ((x.number:Nat):Int)] 219)):=(Below.refl _ _).alloc (Nat.le_refl _) _
   exact hK _ _ ((KeepsOthers.alloc _ _).from _) (KeepV.below (R:=EqV) (fun _=>rfl) hb) ⟨hL.alloc _,(hb.block _ (blk_lt hk)).trans hk,hf⟩ ⟨_,blk_lt hk,heap_alloc_new _ _,rfl⟩
 case body=>
   rintro l pre x a' W hl _ ⟨hL,hk,hf⟩ ⟨bx,hbx0,hbx,rfl⟩ hlen
   have hV:=(uh H).below hL.below
   have hxl:x.number%32768<256:=by have:=x.hc.2;omega
   have hkl:(plus k (numsS pre)).length=256:=by rw [plus_length];exact hcl
   have hsn:plus k (numsS (pre++[x]))=plus1 (plus k (numsS pre)) (x.number%32768):=by rw [numsS_snoc,plus_snoc]
   have hfn:fitsB k (numsS (pre++[x]))=decide (byteAt (plus k (numsS pre)) (x.number%32768)<254):=by rw [numsS_snoc,fitsB_snoc,hf,Bool.true_and]
   have c2:W.cell? ⟨bx,2,none⟩=some (.int .u16 ((x.number:Nat):Int)):=(cell_blk hbx 2).trans rfl
   have Hc:Hid (∀ W,_):=fun W=>cluster_of x.number x.hn W
   generalize plus k (numsS pre)=kk at*
   generalize x.number%32768=n at*
   have hni:(n:Int)<256:=by omega
   have c1:W.cell? ⟨w1.heap.size,n,none⟩=some (.int .u8 (byteAt kk n:Nat)):=by
     rw [cell_blk hk,List.getElem?_toArray,cv_get _ _ (by omega)]
   have f1:=frozen_blk hk
   have hbl:=byteAt_lt kk n
   have nf: ∀ j,w.heap.size≤j→ ¬ foot v Cv Lv j:=fun j hj hf=>by have:=hfl j hf;omega
   by_cases hfit:byteAt kk n<254
   · rw [decide_eq_true hfit] at hfn
     have hwr:IntKind.u8.wrap (((byteAt kk n:Nat):Int)+1)=(((byteAt kk n+1)%256:Nat):Int):=by
       rw [IntKind.wrap_u8];omega
     have K3:KeepV (fun j=>j=w1.heap.size∨j=w.heap.size∨j=w.heap.size+1) (fun k=>w3.heap.size+2≤k) v EqV W (W.setCell ⟨w1.heap.size,n,none⟩ (.int .u8 (((byteAt kk n+1)%256:Nat):Int))):=
       KeepV.own hV (Kept.only _ _ _ _) (by rintro j rfl;exact ⟨Or.inl rfl,nf _ (by omega),_,hk,rfl⟩) rfl
     have hset:(cv kk).toArray.setIfInBounds n (.int .u8 (((byteAt kk n+1)%256:Nat):Int))=(cv (plus1 kk n)).toArray:=by
       rw [List.setIfInBounds_toArray,plus1,cv_setB kk n _ (Nat.mod_lt _ (by omega))]
     have hk3:=heap_setCell_same W w1.heap.size n (.int .u8 (((byteAt kk n+1)%256:Nat):Int)) _ _ _ hk
     rw [hset,← hsn] at hk3
     have L3:Locs w (W.setCell ⟨w1.heap.size,n,none⟩ (.int .u8 (((byteAt kk n+1)%256:Nat):Int))) [.cells (cv zk).toArray 123,.cells #[.bool false] 4]:=by
       have hkp:=Kept.only W w1.heap.size n (.int .u8 (((byteAt kk n+1)%256:Nat):Int))
       refine ⟨fun i o ho=>hkp.blk ?_ (hL.objs i o ho),hL.below.setCell (by show w.heap.size≤w1.heap.size;omega) _⟩
       have:=(List.getElem?_eq_some_iff.1 ho).1
       simp only [List.length_cons,List.length_nil] at this
       omega
     have L3:=hide L3
     have K3:=hide K3
     have dg: ¬ ((254:Int)≤((byteAt kk n:Nat):Int)):=by omega
     clear hset hsn hL hV
     generalize byteAt kk n=bb at*
     generalize (bb+1)%256=b2 at*
     gi_wp2_with fail
     refine ⟨trivial,(CallsIn.inRound l (callsIn_wide.2 (uh Hc _))).mono ?_⟩
     rintro e W2 ⟨rfl,rfl⟩
     gi_wp2
     exact ⟨(KeepsOthers.setCell _ _ _).from _,uh K3,uh L3,hk3,hfn⟩
   · rw [decide_eq_false hfit] at hfn
     have hge:(254:Int)≤((byteAt kk n:Nat):Int):=by omega
     have th:=there_blk hL.o0 0 256 (by simp [cv_length,zk_length])
     have L2:=hL.setCells 0 rfl 0 (cv zk)
     rw [Nat.add_zero,setList_all _ _ (by simp [cv_length,zk_length])] at L2
     simp only [List.set_cons_zero] at L2
     have KA:KeepV (fun j=>j=w1.heap.size∨j=w.heap.size∨j=w.heap.size+1) (fun k=>w3.heap.size+2≤k) v EqV W (W.setCells w.heap.size 0 (cv zk)):=
       KeepV.own hV (Kept.onlys _ _ _ _) (by rintro j rfl;exact ⟨Or.inr (Or.inl rfl),nf _ (Nat.le_refl _),_,hL.o0,rfl⟩) rfl
     have FA:KeepsFrom w3.heap.size W (W.setCells w.heap.size 0 (cv zk)):=⟨(Kept.onlys W w.heap.size 0 (cv zk)).size,fun j o hB hj _=>(Kept.onlys W w.heap.size 0 (cv zk)).blk (by omega) hj⟩
     generalize hWA:W.setCells w.heap.size 0 (cv zk)=WA at*
     have r1:WA.cell? ⟨w.heap.size+1,0,none⟩=some (.bool false):=(cell_blk L2.o1 0).trans rfl
     have f2:=frozen_blk L2.o1
     have L3:=L2.setCell 1 rfl 0 (.bool false)
     have KB:KeepV (fun j=>j=w1.heap.size∨j=w.heap.size∨j=w.heap.size+1) (fun k=>w3.heap.size+2≤k) v EqV WA (WA.setCell ⟨w.heap.size+1,0,none⟩ (.bool false)):=
       KeepV.own ((uh H).below L2.below) (Kept.only _ _ _ _) (by rintro j rfl;exact ⟨Or.inr (Or.inr rfl),nf _ (by omega),_,L2.o1,rfl⟩) rfl
     have FB:KeepsFrom w3.heap.size WA (WA.setCell ⟨w.heap.size+1,0,none⟩ (.bool false)):=(KeepsOthers.setCell _ _ _).from _
     have K3:=hide (KeepV.trans (R:=EqV) (fun _ _ _ a b=>Eq.trans a b) KA KB)
     have F3:=hide (FA.trans FB)
     have L3:Locs w (WA.setCell ⟨w.heap.size+1,0,none⟩ (.bool false)) [.cells (cv zk).toArray 123,.cells #[.bool false] 4]:=L3
     have L3:=hide L3
     clear KA KB FA FB L2 hL hV hsn
     generalize byteAt kk n=bb at*
     gi_wp2_with fail
     refine ⟨trivial,(CallsIn.inRound l (callsIn_wide.2 (uh Hc _))).mono ?_⟩
     rintro e W2 ⟨rfl,rfl⟩
     gi_wp2
     exact ⟨uh F3,uh K3,uh L3,hfn⟩
 case done=>
   rintro D xs W hD hS ⟨hL,hk,hf⟩ hK
   have hS':numsS xs=toldAll V.C first:=by rw [hS,told_nums]
   rw [hS'] at hk hf
   have hR:sharedR V.C first=(plus k (toldAll V.C first),true):=by rw [uh HR,if_pos hf]
   have hR:=hide hR
   have hkl:(plus k (toldAll V.C first)).length=256:=by rw [plus_length];exact hcl
   generalize plus k (toldAll V.C first)=kk at*
   have l1:=blk_has hk (n:=256) (by rw [cv_length,hkl])
   have l2:=blk_cells hk (n:=256) (by rw [cv_length,hkl])
   have th:=there_blk hL.o0 0 256 (by simp [cv_length,zk_length])
   have L2:=hL.setCells 0 rfl 0 (cv kk)
   rw [Nat.add_zero,setList_all _ _ (by simp [cv_length,zk_length,hkl])] at L2
   simp only [List.set_cons_zero] at L2
   have hK2:(W.setCells w.heap.size 0 (cv kk)).heap[D]? = some (.deferred (some [])):=(Kept.onlys W w.heap.size 0 (cv kk)).blk (by omega) hK
   generalize hWA:W.setCells w.heap.size 0 (cv kk)=WA at*
   have r1:WA.cell? ⟨w.heap.size+1,0,none⟩=some (.bool false):=(cell_blk L2.o1 0).trans rfl
   have f2:=frozen_blk L2.o1
   have L3:Locs w (WA.setCell ⟨w.heap.size+1,0,none⟩ (.bool true)) [.cells (cv kk).toArray 123,.cells #[.bool true] 4]:=L2.setCell 1 rfl 0 (.bool true)
   have hK3:(WA.setCell ⟨w.heap.size+1,0,none⟩ (.bool true)).heap[D]? = some (.deferred (some [])):=(Kept.only WA (w.heap.size+1) 0 (.bool true)).blk (by omega) hK2
   have L3:=hide L3
   clear L2 hL hk hK hK2 hTA hS
   gi_wp2
   refine ⟨by simp,.inl ⟨_,_,rfl,run_takeDeferred hK3,?_⟩⟩
   have L5:=(uh L3).shut (D:=D) (by simp;omega)
   have n3:=blk_has L5.o0 (n:=256) (by rw [cv_length,hkl])
   have n4:=blk_cells L5.o0 (n:=256) (by rw [cv_length,hkl])
   refine ⟨_,results_cells rfl ⟨w.heap.size,0,none⟩ ⟨w.heap.size+1,0,none⟩ rfl rfl (v:= .agg (cv kk).toArray) (u:= .bool true) (by rw [loadVar_cnt,run_loadCnt n3,n4]) (load_bool L5.o1),?_,L5.below⟩
   rw [uh hR]
 case stop=>
   rintro D pre W hD hSp ⟨hL,hf⟩ hK
   have hff:fitsB k (toldAll V.C first)=false:=by
     rw [← told_nums V first hF]
     refine fitsB_pre (pre:=numsS pre) ?_ hf
     obtain ⟨r,hr⟩:=hSp
     exact ⟨numsS r,by rw [← hr];simp [numsS]⟩
   have hR:sharedR V.C first=(zk,false):=by rw [uh HR,hff];rfl
   have hR:=hide hR
   clear hTA
   gi_wp2
   refine ⟨by simp,.inl ⟨_,_,rfl,run_takeDeferred hK,?_⟩⟩
   have L5:=hL.shut (D:=D) (by simp;omega)
   have n3:=blk_has L5.o0 (n:=256) (by rw [cv_length,zk_length])
   have n4:=blk_cells L5.o0 (n:=256) (by rw [cv_length,zk_length])
   refine ⟨_,results_cells rfl ⟨w.heap.size,0,none⟩ ⟨w.heap.size+1,0,none⟩ rfl rfl (v:= .agg (cv zk).toArray) (u:= .bool false) (by rw [loadVar_cnt,run_loadCnt n3,n4]) (load_bool L5.o1),?_,L5.below⟩
   rw [uh hR]
end Go.Proofs.YtknjjjenklfeoaaGreatDoor
namespace Go.Proofs.YtknjjjenklfeoaaGreatDoor
open Go.RowKit Go.Shelf
section
variable {α:Type} {g:Operand} {ps:Array Tmp} {assign body:Code} {Q:Exit→Act→World→Prop} {a:Act} {w:World} {n:Nat}
theorem range_in {l₀:Nat} {r₀:Loop} (hl₀:w.heap[l₀]? = some (.loop r₀)) (h1:1≤n) {gf:Nat} {lb:Array Value} (hg:a.eval g= .func (.func gf) #[] lb) (eg: ∀ args w,(callFunc gf args).run Tryz.prog w= .ok (.enter gf args) w)
   {encs:α→Array Value} {Kp:World→World→Prop} {S Sp:List α→Prop} {N:Nat} {w0:World} (hseq:SeqAny (n - 1) gf lb encs Kp S Sp N (w.heap.size+1) w0)
   (hKt: ∀ A B C:World,Kp A B→Kp B C→Kp A C) (hKb: ∀ (W:World) (o o':Obj),W.heap[w.heap.size]? = some o→o.isCells=false→Kp W (W.putObj w.heap.size o')) (hb0:Below w0.heap.size w0 w) (hps: ∀ x,(encs x).size=ps.size)
   (I Ix:List α→World→Prop) (hI:OwnFrom w.heap.size I) (hIx:OwnFrom w.heap.size Ix) (h0:I [] w) (Ax:α→Act→World→Prop) (hAx: ∀ x a',OwnFrom w.heap.size (fun (_:Unit) W=>Ax x a' W))
   (hassign: ∀ (l:Nat) (pre:List α) (x:α) (W:World) (K:Act→World→Prop),I pre W→(∀ a' W',KeepsFrom w.heap.size W W'→Kp W W'→I pre W'→Ax x a' W'→K a' W')→
     assign.wpIn (Fence.wide.inRound l) (n - 1 - 1) Tryz.prog (Exit.then K (fun _ _ _=>False)) { tmps:=(ps.zip (encs x)).foldl (fun t (p,v)=>t.setIfInBounds p v) a.tmps,defers:=[] } W)
   (hbody: ∀ (l:Nat) (pre:List α) (x:α) (a':Act) (W:World),w.heap.size≤l→(∃ r,W.heap[l]? = some (.loop r))→I pre W→Ax x a' W→pre.length<N→body.wpIn (Fence.wide.inRound l) (n - 1 - 1) Tryz.prog (anyPost w.heap.size Kp I Ix (pre++[x]) W) a' W)
   (hdone: ∀ (xs:List α) (W:World),S xs→I xs W→Q .normal a W)
   (hstop: ∀ (pre:List α) (W:World),Sp pre→Ix pre W→Code.ret.wpIn (Fence.wide.inRound l₀) n Tryz.prog Q a W):
   (Code.rangeFunc g ps assign body).wpIn (Fence.wide.inRound l₀) n Tryz.prog Q a w:=by
 refine wpIn_rangeFunc fun fn hfn=> ?_
 obtain ⟨rec,hrec⟩: ∃ rec:LoopState→Option Code→Loop,rec=fun st pe=>{ state:=st,pending:=pe,fn,tmps:=a.tmps,params:=ps,assign,body,defers:=r₀.defers }:=⟨_,rfl⟩
 let d:=w.heap.size
 let W1:=w.alloc (.loop (rec .ready none))
 have hL1:W1.heap[d]? = some (.loop (rec .ready none)):=heap_alloc_new w _
 have hI1:I [] W1:=hI.alloc _ h0
 have hsz:W1.heap.size=d+1:=by simp [W1,d]
 have hw1:Below w0.heap.size w0 W1:=hb0.trans (((Below.refl _ w).alloc (Nat.le_refl _) _).mono hb0.size)
 refine ⟨d,[],W1,{ target:= .fn (.func gf) lb,args:= #[.func (.yield d) #[] #[]] },W1,gf,#[.func (.yield d) #[] #[]]++lb,W1,?_,?_,fun _ _=>trivial,?_,fun _=>h1,?_⟩
 · show (Instr.enterLoop fn a.tmps ps assign body (some l₀)).run Tryz.prog w=_
   rw [run_enterLoop_inner hl₀]
   simp only [W1,hrec,d]
 · simp only [resolve,hg];simp [go_sem]
 · simp [invoke,go_sem,eg]
 have hJ:OwnFrom W1.heap.size (fun (pre:List α) W=>I pre W∧W.heap[d]? = some (.loop (rec .ready none))):=fun s A B row hs hg' hr=>
   ⟨hI s A B row hs.1 hg' (fun r e=>⟨by have:=(hr r e).1;omega,(hr r e).2⟩),blk_turn hg' hr hs.2 (by omega)⟩
 have hJx:OwnFrom W1.heap.size (fun (pre:List α) W=>Ix pre W∧W.heap[d]? = some (.loop (rec .done (some .ret)))):=fun s A B row hs hg' hr=>
   ⟨hIx s A B row hs.1 hg' (fun r e=>⟨by have:=(hr r e).1;omega,(hr r e).2⟩),blk_turn hg' hr hs.2 (by omega)⟩
 refine (CallsIn.inRound l₀ (hseq d (fun pre W=>I pre W∧W.heap[d]? = some (.loop (rec .ready none))) (fun pre W=>Ix pre W∧W.heap[d]? = some (.loop (rec .done (some .ret)))) W1 hw1 (by omega) hJ hJx ?_ ⟨hI1,hL1⟩)).mono ?_
 · rintro pre x W ⟨hi,hb⟩ hlen
   have hy:=run_yield (P:=Tryz.prog) (args:=encs x) hb (by rw [hrec];exact hps x)
   rw [hrec] at hy
   refine ⟨fn,_,assign,body,hy,roundIn_of_wpIn hfn (hassign d pre x W _ hi fun a' Wa hkf hkp hia hax=> ?_)⟩
   have hba:=hkf.same _ _ (Nat.le_refl _) hb rfl
   refine ⟨_,run_beginRound hba (by rw [hrec]),?_⟩
   have hbb:(Wa.putObj d (.loop { rec .ready none with state:= .busy })).heap[d]? = some (.loop { rec .ready none with state:= .busy }):=World.putObj_heap_same (blk_lt hba)
   have hkb:Kp Wa (Wa.putObj d (.loop { rec .ready none with state:= .busy })):=hKb _ _ _ hba rfl
   refine wpIn_mono (hbody d pre x a' _ (Nat.le_refl _) ⟨_,hbb⟩ (hI.putObj _ hia (Nat.le_refl _) hba rfl) ((hAx x a').putObj (s:=()) _ hax (Nat.le_refl _) hba rfl) hlen) ?_
   have fin: ∀ (jump:Option Code) (W3:World),KeepsFrom d (Wa.putObj d (.loop { rec .ready none with state:= .busy })) W3→
       (Instr.endRound d jump).run Tryz.prog W3= .ok (.bool jump.isNone) (W3.putObj d (.loop (rec (if jump.isNone then .ready else .done) jump)))∧
       W3.heap[d]? = some (.loop { rec .ready none with state:= .busy })∧
       (W3.putObj d (.loop (rec (if jump.isNone then .ready else .done) jump))).heap[d]? = some (.loop (rec (if jump.isNone then .ready else .done) jump)):=fun jump W3 hk3=>by
     have hl3:=hk3.same _ _ (Nat.le_refl _) hbb rfl
     have:=run_endRound (P:=Tryz.prog) jump hl3
     rw [hrec] at this ⊢
     exact ⟨this,by rw [hrec] at hl3;exact hl3,World.putObj_heap_same (blk_lt hl3)⟩
   rintro e a3 W3 hp
   cases e with
   | normal=>
     obtain ⟨hkf3,hkp3,hi3⟩:=hp
     obtain ⟨hr,hl3,hl4⟩:=fin none W3 hkf3
     exact ⟨_,_,hr,hKt _ _ _ hkp (hKt _ _ _ hkb (hKt _ _ _ hkp3 (hKb _ _ _ hl3 rfl))),.inl ⟨rfl,hI.putObj _ hi3 (Nat.le_refl _) hl3 rfl,hl4⟩⟩
   | ret=>
     obtain ⟨hkf3,hkp3,hi3⟩:=hp
     obtain ⟨hr,hl3,hl4⟩:=fin (some .ret) W3 hkf3
     exact ⟨_,_,hr,hKt _ _ _ hkp (hKt _ _ _ hkb (hKt _ _ _ hkp3 (hKb _ _ _ hl3 rfl))),.inr ⟨rfl,hIx.putObj _ hi3 (Nat.le_refl _) hl3 rfl,hl4⟩⟩
   | exit id=>exact hp.elim
   | goto t=>exact hp.elim
   | panic ch=>exact hp.elim
   | outgrown=>exact hp.elim
 · rintro e W2 ⟨⟨v,rfl⟩,(⟨xs,hS,hi,hb⟩ | ⟨pre,hSp,hi,hb⟩)⟩
   · have hh:(rec .ready none).state≠ .busy:=by rw [hrec];simp
     have hp:(rec .ready none).pending=none:=by rw [hrec]
     refine ⟨_,_,run_endLoop hb hh,?_⟩
     rw [hp]
     exact hdone xs _ hS (hI.putObj _ hi (Nat.le_refl _) hb rfl)
   · have hh:(rec .done (some .ret)).state≠ .busy:=by rw [hrec];simp
     have hp:(rec .done (some .ret)).pending=some .ret:=by rw [hrec]
     refine ⟨_,_,run_endLoop hb hh,?_⟩
     rw [hp]
     exact hstop pre _ hSp (hIx.putObj _ hi (Nat.le_refl _) hb rfl)
theorem range_inA {l₀:Nat} {r₀:Loop} (hl₀:w.heap[l₀]? = some (.loop r₀)) (h1:1≤n) {gf:Nat} {lb:Array Value} (hg:a.eval g= .func (.func gf) #[] lb) (eg: ∀ args w,(callFunc gf args).run Tryz.prog w= .ok (.enter gf args) w)
   {encs:α→Array Value} {Kp:World→World→Prop} {S:List α→Prop} {N:Nat} {w0:World} (hseq:SeqAll (n - 1) gf lb encs Kp S N (w.heap.size+1) w0)
   (hKt: ∀ A B C:World,Kp A B→Kp B C→Kp A C) (hKb: ∀ (W:World) (o o':Obj),W.heap[w.heap.size]? = some o→o.isCells=false→Kp W (W.putObj w.heap.size o')) (hb0:Below w0.heap.size w0 w) (hps: ∀ x,(encs x).size=ps.size)
   (I:List α→World→Prop) (hI:OwnFrom w.heap.size I) (h0:I [] w) (Ax:α→Act→World→Prop) (hAx: ∀ x a',OwnFrom w.heap.size (fun (_:Unit) W=>Ax x a' W))
   (hassign: ∀ (l:Nat) (pre:List α) (x:α) (W:World) (K:Act→World→Prop),I pre W→(∀ a' W',KeepsFrom w.heap.size W W'→Kp W W'→I pre W'→Ax x a' W'→K a' W')→
     assign.wpIn (Fence.wide.inRound l) (n - 1 - 1) Tryz.prog (Exit.then K (fun _ _ _=>False)) { tmps:=(ps.zip (encs x)).foldl (fun t (p,v)=>t.setIfInBounds p v) a.tmps,defers:=[] } W)
   (hbody: ∀ (l:Nat) (pre:List α) (x:α) (a':Act) (W:World),w.heap.size≤l→(∃ r,W.heap[l]? = some (.loop r))→I pre W→Ax x a' W→pre.length<N→body.wpIn (Fence.wide.inRound l) (n - 1 - 1) Tryz.prog (fun e _ W'=>e= .normal∧KeepsFrom w.heap.size W W'∧Kp W W'∧I (pre++[x]) W') a' W)
   (hdone: ∀ (xs:List α) (W:World),S xs→I xs W→Q .normal a W):
   (Code.rangeFunc g ps assign body).wpIn (Fence.wide.inRound l₀) n Tryz.prog Q a w:=by
 refine wpIn_rangeFunc fun fn hfn=> ?_
 obtain ⟨rec,hrec⟩: ∃ rec:LoopState→Option Code→Loop,rec=fun st pe=>{ state:=st,pending:=pe,fn,tmps:=a.tmps,params:=ps,assign,body,defers:=r₀.defers }:=⟨_,rfl⟩
 let d:=w.heap.size
 let W1:=w.alloc (.loop (rec .ready none))
 have hL1:W1.heap[d]? = some (.loop (rec .ready none)):=heap_alloc_new w _
 have hI1:I [] W1:=hI.alloc _ h0
 have hsz:W1.heap.size=d+1:=by simp [W1,d]
 have hw1:Below w0.heap.size w0 W1:=hb0.trans (((Below.refl _ w).alloc (Nat.le_refl _) _).mono hb0.size)
 refine ⟨d,[],W1,{ target:= .fn (.func gf) lb,args:= #[.func (.yield d) #[] #[]] },W1,gf,#[.func (.yield d) #[] #[]]++lb,W1,?_,?_,fun _ _=>trivial,?_,fun _=>h1,?_⟩
 · show (Instr.enterLoop fn a.tmps ps assign body (some l₀)).run Tryz.prog w=_
   rw [run_enterLoop_inner hl₀]
   simp only [W1,hrec,d]
 · simp only [resolve,hg];simp [go_sem]
 · simp [invoke,go_sem,eg]
 have hJ:OwnFrom W1.heap.size (fun (pre:List α) W=>I pre W∧W.heap[d]? = some (.loop (rec .ready none))):=fun s A B row hs hg' hr=>
   ⟨hI s A B row hs.1 hg' (fun r e=>⟨by have:=(hr r e).1;omega,(hr r e).2⟩),blk_turn hg' hr hs.2 (by omega)⟩
 refine (CallsIn.inRound l₀ (hseq d (fun pre W=>I pre W∧W.heap[d]? = some (.loop (rec .ready none))) W1 hw1 (by omega) hJ ?_ ⟨hI1,hL1⟩)).mono ?_
 · rintro pre x W ⟨hi,hb⟩ hlen
   have hy:=run_yield (P:=Tryz.prog) (args:=encs x) hb (by rw [hrec];exact hps x)
   rw [hrec] at hy
   refine ⟨fn,_,assign,body,hy,roundIn_of_wpIn hfn (hassign d pre x W _ hi fun a' Wa hkf hkp hia hax=> ?_)⟩
   have hba:=hkf.same _ _ (Nat.le_refl _) hb rfl
   refine ⟨_,run_beginRound hba (by rw [hrec]),?_⟩
   have hbb:(Wa.putObj d (.loop { rec .ready none with state:= .busy })).heap[d]? = some (.loop { rec .ready none with state:= .busy }):=World.putObj_heap_same (blk_lt hba)
   have hkb:Kp Wa (Wa.putObj d (.loop { rec .ready none with state:= .busy })):=hKb _ _ _ hba rfl
   refine wpIn_mono (hbody d pre x a' _ (Nat.le_refl _) ⟨_,hbb⟩ (hI.putObj _ hia (Nat.le_refl _) hba rfl) ((hAx x a').putObj (s:=()) _ hax (Nat.le_refl _) hba rfl) hlen) ?_
   have fin: ∀ (jump:Option Code) (W3:World),KeepsFrom d (Wa.putObj d (.loop { rec .ready none with state:= .busy })) W3→
       (Instr.endRound d jump).run Tryz.prog W3= .ok (.bool jump.isNone) (W3.putObj d (.loop (rec (if jump.isNone then .ready else .done) jump)))∧
       W3.heap[d]? = some (.loop { rec .ready none with state:= .busy })∧
       (W3.putObj d (.loop (rec (if jump.isNone then .ready else .done) jump))).heap[d]? = some (.loop (rec (if jump.isNone then .ready else .done) jump)):=fun jump W3 hk3=>by
     have hl3:=hk3.same _ _ (Nat.le_refl _) hbb rfl
     have:=run_endRound (P:=Tryz.prog) jump hl3
     rw [hrec] at this ⊢
     exact ⟨this,by rw [hrec] at hl3;exact hl3,World.putObj_heap_same (blk_lt hl3)⟩
   rintro e a3 W3 ⟨rfl,hkf3,hkp3,hi3⟩
   obtain ⟨hr,hl3,hl4⟩:=fin none W3 hkf3
   exact ⟨_,_,hr,rfl,⟨hI.putObj _ hi3 (Nat.le_refl _) hl3 rfl,hl4⟩,hKt _ _ _ hkp (hKt _ _ _ hkb (hKt _ _ _ hkp3 (hKb _ _ _ hl3 rfl)))⟩
 · rintro e W2 ⟨⟨v,rfl⟩,xs,hS,hi,hb⟩
   have hh:(rec .ready none).state≠ .busy:=by rw [hrec];simp
   have hp:(rec .ready none).pending=none:=by rw [hrec]
   refine ⟨_,_,run_endLoop hb hh,?_⟩
   rw [hp]
   exact hdone xs _ hS (hI.putObj _ hi (Nat.le_refl _) hb rfl)
end
end Go.Proofs.YtknjjjenklfeoaaGreatDoor
