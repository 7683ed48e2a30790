import Derived.Test.YtknjjjenklfeoaaGreatDoorT38
import Derived.Test.YtknjjjenklfeoaaGreatDoorT15
set_option maxHeartbeats 8000000
set_option maxRecDepth 100000
namespace Go.Proofs.YtknjjjenklfeoaaGreatDoor
open Go.RowKit Go.Shelf
attribute [local go_sem ↓] loadVar_clus storeVar_clus zeroValue_clus loadVar_tab storeVar_tab zeroValue_tab loadVar_cnt storeVar_cnt zeroValue_cnt loadVar_head storeVar_head zeroValue_head build_head buildSlice_clus loadVar_wr storeVar_wr zeroValue_wr build_wr buildSlice_wr equalIn_clus loadVar_place storeVar_place zeroValue_place build_place
attribute [local go_sem] run_loadClus run_storeClus run_zeroClus run_storeClus_new run_loadClus_new zc_length run_loadTab run_storeTab run_zeroTab run_storeTab_new run_loadTab_new zt_length run_loadCnt run_storeCnt run_zeroCnt run_storeCnt_new run_loadCnt_new zk_length run_loadHead run_storeHead run_zeroHead run_storeHead_new run_bHead HasAt_drew cellsAt_drew HasAt_drewN cellsAt_drewN run_bsClus run_loadWr run_zeroWr run_storeWr run_storeWr_new run_bWr0 run_bsWr run_loadPlace run_storePlace run_zeroPlace run_storePlace_new run_bPlace
attribute [local go_sem] field_head1 field_head0 Oper.semAt_some
attribute [local go_sem ↓] build_cnt
attribute [local go_sem] run_bCnt0
theorem checkMarks_in (w:World) (v:Nat) (Cv Lv:Value) (V:VolR) (h:VolAt w v Cv Lv V) (hG:Glob w) (h5:5<V.C.length) (hC:V.C.length≤256) (hF: ∀ f ∈ firstsOf V,FirstOK V f):
   CallsIn Fence.wide 100 Tryz.prog 96 #[.pointer (some ⟨v,0,none⟩)] w fun e w'=>((marksP V.C (cntsOf V.C) (firstsOf V)= -1∧e= .returned .nilIface)∨ ∃ (n:Nat) (x:Value),marksP V.C (cntsOf V.C) (firstsOf V)=(n:Int)∧isIface x∧e= .returned (faultV n x))∧Below w.heap.size w w':=by
 have hcl:=cntsOf_length V.C h.lenC (by omega)
 have H:=hide h
 have HG:=hide hG
 have hvl:v<w.heap.size:=h.lt
 have hfl: ∀ j,foot v Cv Lv j→j<w.heap.size:=h.foot_lt
 clear h hG
 refine callsIn_of_wp_marks Tryz.func96 rfl trivial ?_ rfl
 simp only [Tryz.ntmps96,List.size_toArray,List.length_cons,List.length_nil,Nat.reduceAdd,Nat.reduceSub,Array.replicate_succ,Array.replicate_zero,List.push_toArray,List.append_toArray,List.nil_append,List.cons_append]
 have U0:Below w.heap.size w ((w.alloc (.cells #[.pointer (some ⟨v,0,none⟩)] 82)).alloc (.cells #[.nilIface] 98)):=((Below.refl _ w).alloc (Nat.le_refl _) _).alloc (by simp) _
 have L0:=hide (Locs.two w (.cells #[.pointer (some ⟨v,0,none⟩)] 82) (.cells #[.nilIface] 98))
 have Hc:=hide (counts_vol _ v Cv Lv V ((uh H).below U0) (by omega))
 have Hm0:=hide (fun W=>firsts_make W v)
 clear U0
 generalize hk:cntsOf V.C=k at*
 gi_wp2_with fail
 refine ⟨trivial,(callsIn_wide.2 (uh Hc)).mono ?_⟩
 rintro e w1 ⟨rfl,hb1⟩
 have L1:=(uh L0).later hb1
 have hw1:w.heap.size+1<w1.heap.size:=blk_lt L1.o1
 have M2:MkAt w (w1.alloc (.cells (cv k).toArray 123)) v w1.heap.size k .nilIface:=
   ⟨(L1.alloc _).below,(L1.alloc _).o0,(L1.alloc _).o1,heap_alloc_new _ _,by omega⟩
 have cv0:(w1.alloc (.cells (cv k).toArray 123)).cell? ⟨w.heap.size,0,none⟩=some (.pointer (some ⟨v,0,none⟩)):=(cell_blk M2.bv 0).trans rfl
 have M2:=hide M2
 have hs2:w1.heap.size<(w1.alloc (.cells (cv k).toArray 123)).heap.size:=by simp
 clear Hc hb1 L1 L0
 gi_wp2_with fail
 generalize w1.alloc (.cells (cv k).toArray 123)=wr at*
 generalize w1.heap.size=bc at*
 refine ⟨trivial,(callsIn_wide.2 (uh Hm0 wr)).mono ?_⟩
 rintro e W3 ⟨rfl,hW3⟩
 have hs3:wr.heap.size+1≤W3.heap.size:=by rw [hW3];simp
 have hb3:Below wr.heap.size wr W3:=by rw [hW3];exact (Below.refl _ _).alloc (Nat.le_refl _) _
 have hbx:W3.heap[wr.heap.size]? = some (.cells #[.pointer (some ⟨v,0,none⟩)] 82 (0,0)):=by rw [hW3];exact heap_alloc_new _ _
 have M3:=(uh M2).later hb3
 have hV3:=(uh H).below M3.below
 have hFA:=firsts_any (Pc:=FirstOK V) 99 (by omega) (fun j=>j=w.heap.size+1) v wr.heap.size (W3.heap.size+2) V Cv Lv W3 hV3 hbx (by omega) (fun hf=>by have:=hfl _ hf;omega) (fun j hj=>by rw [hj];omega) h5 hF
 have M3:=hide M3
 clear M2 hV3 hbx hb3 hW3 Hm0 cv0
 gi_wp2_with fail
 refine range_any (by omega) (gf:=173) (lb:= #[.pointer (some ⟨wr.heap.size,0,none⟩)]) rfl (enters_of Tryz.func173 (by kernel_rfl) rfl) hFA
   (fun A B C h k=>KeepV.trans (R:=SameNum) (fun _ _ _ a b=>a.trans b) h k) (fun W o o' hl hc=>KeepV.turn SameNum.refl W _ o o' hl hc (by omega)) (Below.refl _ _) (fun _=>rfl)
   (fun pre W'=>MkAt w W' v bc k .nilIface∧(toldF V.C (valsM pre)).find? (markP k)=none)
   (fun pre W'=> ∃ sp x,(toldF V.C (valsM pre)).find? (markP k)=some sp∧isIface x∧MkAt w W' v bc k (faultV sp.table x))
   (fun _ _ _ _ hs hg hr=>⟨MkAt.turned hs.1 (by omega) hg hr,hs.2⟩)
   (fun _ _ _ _ hs hg hr=>by obtain ⟨sp,x,h1,h2,h3⟩:=hs;exact ⟨sp,x,h1,h2,MkAt.turned h3 (by omega) hg hr⟩)
   ⟨uh M3,rfl⟩
   (fun x a' _=>a'={ tmps:= #[.pointer (some ⟨v,0,none⟩),.pointer (some ⟨w.heap.size,0,none⟩),.pointer (some ⟨w.heap.size+1,0,none⟩),.pointer (some ⟨bc,0,none⟩),.int .i64 ((x.1:Nat):Int),undef,.pointer (some ⟨v,0,none⟩),.agg (cv k).toArray,.pointer (some ⟨v,0,none⟩),.func (.func 173) #[] #[.pointer (some ⟨wr.heap.size,0,none⟩)],.int .i64 ((x.1:Nat):Int),undef,undef,undef,undef,undef,undef,undef,undef,undef,undef,undef,undef,undef,undef,undef,undef,undef,undef,undef,undef],defers:=[] })
   (fun _ _ _ _ _ _ hs _ _=>hs)
   ?assign ?body ?done ?stop
 case assign=>
   rintro l pre x W' K hi hK
   gi_wp2
   exact hK _ _ (KeepsFrom.refl _ _) (KeepV.below SameNum.refl (Below.refl _ _)) hi rfl
 case done=>
   rintro D ys W' hD hS ⟨hM,hf⟩ hK
   have hS':valsM ys=firstsOf V:=hS
   rw [hS'] at hf
   have hmk:marksP V.C k (firstsOf V)= -1:=by unfold marksP;show badTab ((toldF V.C (firstsOf V)).find? (markP k))= -1;rw [hf];rfl
   have Hmk:=hide hmk
   have r1:W'.cell? ⟨w.heap.size+1,0,none⟩=some .nilIface:=(cell_blk hM.br 0).trans rfl
   have f2:=frozen_blk hM.br
   have M5:=hM.put .nilIface
   have hK5:(W'.setCell ⟨w.heap.size+1,0,none⟩ .nilIface).heap[D]? = some (.deferred (some [])):=(Kept.only W' (w.heap.size+1) 0 .nilIface).blk (by omega) hK
   have br5:=M5.br
   have HB:=hide (below_shut (D:=D) M5.below (by omega))
   have Hbr:=hide br5
   clear hM hS hS' hf hFA M3 hmk M5 br5
   gi_wp2
   refine ⟨by simp,.inl ⟨_,_,rfl,run_takeDeferred hK5,?_⟩⟩
   have hbr6:((W'.setCell ⟨w.heap.size+1,0,none⟩ .nilIface).putObj D (.deferred none)).heap[w.heap.size+1]? = some (.cells #[.nilIface] 98 (0,0)):=(World.putObj_heap_other (by omega)).trans (uh Hbr)
   refine ⟨_,results_cell rfl ⟨w.heap.size+1,0,none⟩ rfl (load_err hbr6),Or.inl ⟨?_,rfl⟩,uh HB⟩
   exact uh Hmk
 case stop=>
   rintro D pre W' hD hSp ⟨sp,x,h1,h2,hM⟩ hK
   have hf:=find_pre (toldF_pre (C:=V.C) (show valsM pre <+: firstsOf V from hSp)) h1
   have hmk:marksP V.C k (firstsOf V)=(sp.table:Int):=by unfold marksP;show badTab ((toldF V.C (firstsOf V)).find? (markP k))=_;rw [hf];rfl
   have Hmk:=hide hmk
   have HB:=hide (below_shut (D:=D) hM.below (by omega))
   have hbr:=hM.br
   clear hFA M3 hf h1 hmk hM
   gi_wp2
   refine ⟨by simp,.inl ⟨_,_,rfl,run_takeDeferred hK,?_⟩⟩
   have hbr6:(W'.putObj D (.deferred none)).heap[w.heap.size+1]? = some (.cells #[faultV sp.table x] 98 (0,0)):=(World.putObj_heap_other (by omega)).trans hbr
   refine ⟨_,results_cell rfl ⟨w.heap.size+1,0,none⟩ rfl (load_err hbr6),Or.inr ⟨sp.table,x,?_,h2,rfl⟩,uh HB⟩
   exact uh Hmk
 case body=>
   rintro l pre x a' W hl ⟨r,hr⟩ ⟨hM,hf0⟩ rfl hlen
   obtain ⟨x,hx⟩:=x
   have cv0:W.cell? ⟨w.heap.size,0,none⟩=some (.pointer (some ⟨v,0,none⟩)):=(cell_blk hM.bv 0).trans rfl
   have Hm:=hide (told_make W v x)
   have M1:=hide hM
   have hbr2:=blk_lt hM.bk
   have hlo:=hM.lo
   clear hM hFA
   dsimp only
   gi_wp2_with fail
   refine ⟨trivial,(CallsIn.inRound l (callsIn_wide.2 (uh Hm))).mono ?_⟩
   rintro e wc ⟨rfl,hwc⟩
   have hs5:W.heap.size+2≤wc.heap.size:=by rw [hwc];simp
   have hb5:Below W.heap.size W wc:=by rw [hwc];exact ((Below.refl _ _).alloc (Nat.le_refl _) _).alloc (by simp) _
   have hb1:wc.heap[W.heap.size]? = some (.cells #[.pointer (some ⟨v,0,none⟩)] 82 (0,0)):=by rw [hwc];exact (Below.heap_alloc _ _ _ (by simp)).trans (heap_alloc_new _ _)
   have hb2:wc.heap[W.heap.size+1]? = some (.cells #[.int .i64 (x:Nat)] 3 (0,0)):=by rw [hwc];have:=heap_alloc_new (W.alloc (.cells #[.pointer (some ⟨v,0,none⟩)] 82)) (.cells #[.int .i64 (x:Nat)] 3);rwa [World.size_alloc] at this
   have M5:=(uh M1).later hb5
   have hV5:=(uh H).below M5.below
   have hVW:=(uh H).below (uh M1).below
   have hr5:wc.heap[l]? = some (.loop r):=(hb5.block _ (blk_lt hr)).trans hr
   have hHA:=told_any 97 (by omega) (fun j=>j=w.heap.size+1) v W.heap.size (W.heap.size+1) x (wc.heap.size+1) V Cv Lv wc hV5 hb1 hb2 (by omega) (by omega) (fun hf=>by have:=hVW.foot_lt _ hf;omega) (fun hf=>by have:=hVW.foot_lt _ hf;omega) (fun k hk=>by rw [hk];omega) hx
   have hKF5:KeepsFrom W3.heap.size W wc:=⟨hb5.size,fun k o _ hk _=>(hb5.block k (blk_lt hk)).trans hk⟩
   have hK5:KeepV (fun j=>j=w.heap.size+1) (fun k=>W3.heap.size+2≤k) v SameNum W wc:=KeepV.below SameNum.refl hb5
   have hsn:toldF V.C (valsM (pre++[⟨x,hx⟩]))=toldF V.C (valsM pre)++toldFrom V.C x 32 0:=by rw [valsM_snoc,toldF_snoc]
   have M5:=hide M5
   clear M1 hV5 hb1 hb2 hwc Hm cv0 hr hVW
   gi_wp2_with fail
   refine range_in (l₀:=l) (r₀:=r) hr5 (by omega) (gf:=174) (lb:= #[.pointer (some ⟨W.heap.size,0,none⟩),.pointer (some ⟨W.heap.size+1,0,none⟩)]) rfl (enters_of Tryz.func174 (by kernel_rfl) rfl) hHA
     (fun A B C h k=>KeepV.trans (R:=EqV) (fun _ _ _ a b=>Eq.trans a b) h k) (fun W o o' hl hc=>KeepV.turn (R:=EqV) (fun _=>rfl) W _ o o' hl hc (by omega)) (Below.refl _ _) (fun _=>rfl)
     (fun ip W'=>(MkAt w W' v bc k .nilIface∧(spotsN ip).find? (markP k)=none)∧KeepsFrom W3.heap.size W W'∧KeepV (fun j=>j=w.heap.size+1) (fun k=>W3.heap.size+2≤k) v SameNum W W')
     (fun ip W'=>(∃ sp x,(spotsN ip).find? (markP k)=some sp∧isIface x∧MkAt w W' v bc k (faultV sp.table x))∧KeepsFrom W3.heap.size W W'∧KeepV (fun j=>j=w.heap.size+1) (fun k=>W3.heap.size+2≤k) v SameNum W W')
     (fun s A B row hs hg hr=>⟨⟨MkAt.turned hs.1.1 (by omega) hg hr,hs.1.2⟩,ownFrom_keepsFrom (β:=Unit) hb5.size () A B row hs.2.1 hg hr,ownFrom_keepVY (R:=SameNum) SameNum.refl (fun _ _ _ a b=>a.trans b) (β:=Unit) hb5.size () A B row hs.2.2 hg hr⟩)
     (fun s A B row hs hg hr=>⟨by obtain ⟨sp,x,h1,h2,h3⟩:=hs.1;exact ⟨sp,x,h1,h2,MkAt.turned h3 (by omega) hg hr⟩,ownFrom_keepsFrom (β:=Unit) hb5.size () A B row hs.2.1 hg hr,ownFrom_keepVY (R:=SameNum) SameNum.refl (fun _ _ _ a b=>a.trans b) (β:=Unit) hb5.size () A B row hs.2.2 hg hr⟩)
     ⟨⟨uh M5,rfl⟩,hKF5,hK5⟩
     (fun y a' W'=> ∃ bx,W'.heap[bx]? = some (.cells #[.int .i64 ((y.table:Nat):Int),.int .i64 ((y.index:Nat):Int),.int .u16 ((y.number:Nat):Int)] 219 (0,0))∧a'={ tmps:= #[.pointer (some ⟨v,0,none⟩),.pointer (some ⟨w.heap.size,0,none⟩),.pointer (some ⟨w.heap.size+1,0,none⟩),.pointer (some ⟨bc,0,none⟩),.int .i64 ((x:Nat):Int),.pointer (some ⟨bx,0,none⟩),.pointer (some ⟨v,0,none⟩),.agg (cv k).toArray,.pointer (some ⟨v,0,none⟩),.func (.func 173) #[] #[.pointer (some ⟨wr.heap.size,0,none⟩)],.int .i64 ((x:Nat):Int),.pointer (some ⟨v,0,none⟩),.int .i64 ((x:Nat):Int),.func (.func 174) #[] #[.pointer (some ⟨W.heap.size,0,none⟩),.pointer (some ⟨W.heap.size+1,0,none⟩)],spotVal y,undef,undef,undef,undef,undef,undef,undef,undef,undef,undef,undef,undef,undef,undef,undef,undef],defers:=[] })
     (fun y a'' _ A' B' row hs hg hr=>by
       obtain ⟨bx2,h2,h3⟩:=hs
       refine ⟨bx2,?_,h3⟩
       rw [hg.block bx2 (blk_lt h2) (fun e=>by
         obtain ⟨_,o,ho,hc⟩:=hr bx2 e.symm
         rw [h2] at ho
         injection ho with ho
         subst ho
         cases hc)]
       exact h2) ?assign2 ?body2 ?done2 ?stop2
   case assign2=>
     rintro l2 ip y W' K ⟨⟨g1,g4⟩,g2,g3⟩ hK
     have hb:Below W'.heap.size W' (W'.alloc (.cells #[.int .i64 ((y.table:Nat):Int),.int .i64 ((y.index:Nat):Int),.int .u16 ((y.number:Nat):Int)] 219)):=(Below.refl _ _).alloc (Nat.le_refl _) _
     have G1:=hide (g1.later hb)
     have G2:=hide (g2.trans ((KeepsOthers.alloc W' (.cells #[.int .i64 ((y.table:Nat):Int),.int .i64 ((y.index:Nat):Int),.int .u16 ((y.number:Nat):Int)] 219)).from _))
     have G3:=hide (g3.trans (fun _ _ _ a b=>a.trans b) (KeepV.below SameNum.refl hb))
     have G4:=hide g4
     clear g1 g2 g3 g4
     unfold spotVal
     gi_wp2
     exact hK _ _ ((KeepsOthers.alloc _ _).from _) (KeepV.below (R:=EqV) (fun _=>rfl) hb) ⟨⟨uh G1,uh G4⟩,uh G2,uh G3⟩ ⟨_,heap_alloc_new _ _,rfl⟩
   case done2=>
     rintro ip W' hS ⟨⟨g1,g4⟩,g2,g3⟩
     have hS':spotsN ip=toldFrom V.C x 32 0:=by rw [hS];exact told_toN V x hx
     rw [hS'] at g4
     have hall:(toldF V.C (valsM (pre++[⟨x,hx⟩]))).find? (markP k)=none:=by rw [hsn,List.find?_append,hf0,g4];rfl
     have G1:=hide g1
     have G2:=hide g2
     have G3:=hide g3
     have G4:=hide hall
     clear g1 g2 g3 g4 hall hsn hf0 hS hS'
     gi_wp2
     repeat (first | exact uh G1 | exact uh G2 | exact uh G3 | exact uh G4 | refine ⟨?_,?_⟩)
   case stop2=>
     rintro ip W' hSp ⟨⟨sp,e,g1,g5,g4⟩,g2,g3⟩
     have hpre:spotsN ip <+: toldFrom V.C x 32 0:=by
       rw [← told_toN V x hx]
       obtain ⟨rr,hrr⟩:=hSp
       exact ⟨spotsN rr,by rw [← hrr];simp [spotsN]⟩
     have hall:(toldF V.C (valsM (pre++[⟨x,hx⟩]))).find? (markP k)=some sp:=by rw [hsn,List.find?_append,hf0,find_pre hpre g1];rfl
     have G2:=hide g2
     have G3:=hide g3
     have G4:Hid (∃ sp x_1,(toldF V.C (valsM (pre++[⟨x,hx⟩]))).find? (markP k)=some sp∧isIface x_1∧MkAt w W' v bc k (faultV sp.table x_1)):=⟨sp,e,hall,g5,g4⟩
     clear g1 g2 g3 g4 g5 hall hsn hf0 hSp hpre
     gi_wp2
     repeat (first | exact uh G2 | exact uh G3 | exact uh G4 | refine ⟨?_,?_⟩)
   case body2=>
     rintro l2 ip y a' W' hl2 _ ⟨⟨g1,g4⟩,g2,g3⟩ ⟨bx,hbx,rfl⟩ hip
     have hsb:(spotsN (ip++[y])).find? (markP k)=if markP k (toNs y) then some (toNs y) else none:=by
       rw [spotsN_snoc,List.find?_append,g4,Option.none_or,List.find?_cons]
       cases markP k (toNs y) <;> rfl
     have hmk:markP k (toNs y)=(decide (32768≤y.number) && decide (byteAt k (y.number%32768)≠1)):=rfl
     have hV':=(uh H).below g1.below
     have hn:=y.hn
     have hc:=y.hc.2
     have hci:((y.number%32768:Nat):Int)<256:=by omega
     have c0:W'.cell? ⟨bx,0,none⟩=some (.int .i64 ((y.table:Nat):Int)):=(cell_blk hbx 0).trans rfl
     have c1:W'.cell? ⟨bx,2,none⟩=some (.int .u16 ((y.number:Nat):Int)):=(cell_blk hbx 2).trans rfl
     have c2:W'.cell? ⟨bc,y.number%32768,none⟩=some (.int .u8 ((byteAt k (y.number%32768):Nat):Int)):=by
       rw [cell_blk g1.bk,List.getElem?_toArray,cv_get _ _ (by omega)]
     have Hcl:=hide (fun W=>cluster_of y.number y.hn W)
     have Hmk:=hide (fun W=>marked_of y.number y.hn W)
     have htab:(toNs y).table=y.table:=rfl
     have c3:W'.cell? ⟨w.heap.size+1,0,none⟩=some .nilIface:=(cell_blk g1.br 0).trans rfl
     have f3:=frozen_blk g1.br
     obtain ⟨t4,v4,g44⟩:=((uh HG).below g1.below).err 4 (by omega)
     have hown: ∀ j,j=w.heap.size+1→j=w.heap.size+1∧ ¬ foot v Cv Lv j∧ ∃ o,W'.heap[j]? = some o∧o.isCells=true:=fun j e=>by
       subst e
       exact ⟨rfl,fun hf=>by have:=(uh H).foot_lt _ hf;omega,_,g1.br,rfl⟩
     rw [hmk] at hsb
     have G1:=hide g1
     have G2:=hide g2
     have G3:=hide g3
     have GK:=hide (KeepsFrom.refl (B:=wc.heap.size) W')
     clear hmk g1 g2 g3 g4
     generalize toNs y=ty at*
     generalize spotVal y=sv at*
     generalize byteAt k (y.number%32768)=m at*
     generalize y.number%32768=cc at*
     generalize y.number=nn at*
     by_cases hk2:32768≤nn
     · have dk:decide (32768≤nn)=true:=decide_eq_true hk2
       rw [dk] at Hmk hsb
       by_cases hm1:m=1
       · rw [decide_eq_false (by simpa using hm1),Bool.true_and,if_neg (by decide)] at hsb
         have Hsb:=hide hsb
         have dm:(((m:Nat):Int) != 1)=false:=by rw [hm1];rfl
         clear hsb hown c3 f3 c0 g44
         gi_wp2_with fail
         refine ⟨trivial,(CallsIn.inRound l2 (callsIn_wide.2 (uh Hmk _))).mono ?_⟩
         rintro e w5 ⟨rfl,rfl⟩
         gi_wp2_with fail
         refine ⟨trivial,(CallsIn.inRound l2 (callsIn_wide.2 (uh Hcl _))).mono ?_⟩
         rintro e w5 ⟨rfl,rfl⟩
         gi_wp2
         repeat (first | exact uh G1 | exact uh G2 | exact uh G3 | exact uh Hsb | exact KeepsFrom.refl _ _ | exact KeepV.below (R:=EqV) (fun _=>rfl) (Below.refl _ _) | refine ⟨?_,?_⟩)
       · rw [decide_eq_true (by simpa using hm1),Bool.true_and,if_pos rfl] at hsb
         have dm:(((m:Nat):Int) != 1)=true:=by rw [bne_iff_ne];omega
         have M6:=(uh G1).put (faultV y.table (.iface t4 v4))
         rw [← htab] at M6
         have hex: ∃ sp x,(spotsN (ip++[y])).find? (markP k)=some sp∧isIface x∧MkAt w (W'.setCell ⟨w.heap.size+1,0,none⟩ (faultV y.table (.iface t4 v4))) v bc k (faultV sp.table x):=⟨ty,_,hsb,⟨_,_,rfl⟩,by rw [← htab];exact M6⟩
         have Hex:=hide hex
         have K3:KeepV (fun j=>j=w.heap.size+1) (fun k=>wc.heap.size+1≤k) v EqV W' (W'.setCell ⟨w.heap.size+1,0,none⟩ (faultV y.table (.iface t4 v4))):=KeepV.own hV' (Kept.only _ _ _ _) hown rfl
         have K4:KeepV (fun j=>j=w.heap.size+1) (fun k=>W3.heap.size+2≤k) v SameNum W' (W'.setCell ⟨w.heap.size+1,0,none⟩ (faultV y.table (.iface t4 v4))):=KeepV.own hV' (Kept.only _ _ _ _) hown (SameNum.refl _)
         have K5:=hide ((uh G3).trans (fun _ _ _ a b=>a.trans b) K4)
         have hf:=hide ((KeepsOthers.setCell W' ⟨w.heap.size+1,0,none⟩ (faultV y.table (.iface t4 v4))).from wc.heap.size)
         have hf2:=hide ((uh G2).trans ((KeepsOthers.setCell W' ⟨w.heap.size+1,0,none⟩ (faultV y.table (.iface t4 v4))).from W3.heap.size))
         have K3:=hide K3
         clear hsb hown hex K4 M6
         gi_wp2_with fail
         refine ⟨trivial,(CallsIn.inRound l2 (callsIn_wide.2 (uh Hmk _))).mono ?_⟩
         rintro e w5 ⟨rfl,rfl⟩
         gi_wp2_with fail
         refine ⟨trivial,(CallsIn.inRound l2 (callsIn_wide.2 (uh Hcl _))).mono ?_⟩
         rintro e w5 ⟨rfl,rfl⟩
         gi_wp2
         repeat (first | exact uh Hex | exact uh hf | exact uh hf2 | exact uh K3 | exact uh K5 | refine ⟨?_,?_⟩)
     · have dk:decide (32768≤nn)=false:=decide_eq_false hk2
       rw [dk] at Hmk hsb
       rw [Bool.false_and,if_neg (by decide)] at hsb
       have Hsb:=hide hsb
       clear hsb hown c3 f3 c0 g44
       gi_wp2_with fail
       refine ⟨trivial,(CallsIn.inRound l2 (callsIn_wide.2 (uh Hmk _))).mono ?_⟩
       rintro e w5 ⟨rfl,rfl⟩
       gi_wp2
       refine ⟨trivial,?_⟩
       gi_wp2
       repeat (first | exact uh G1 | exact uh G2 | exact uh G3 | exact uh Hsb | exact KeepsFrom.refl _ _ | exact KeepV.below (R:=EqV) (fun _=>rfl) (Below.refl _ _) | refine ⟨?_,?_⟩)
end Go.Proofs.YtknjjjenklfeoaaGreatDoor
namespace Go.Proofs.YtknjjjenklfeoaaGreatDoor
open Go.RowKit Go.Shelf
def zM:List Nat:=List.replicate 256 0
def storeRol (a:Addr) (v:Value):Sem Unit:=storeVar 212 a v
theorem storeVar_rol (a:Addr) (v:Value):storeVar 212 a v=storeRol a v:=rfl
theorem rv_length (M:List Nat):(rv M).length=M.length:=List.length_map _
theorem rol_length (T:Nat) (M:List Nat):(roleCells T M).length=M.length+1:=by simp [roleCells,rv_length]
theorem rol_one (T:Nat) (M:List Nat): ∀ v ∈ roleCells T M,v.oneCell'=true:=by
 intro v hv
 rcases List.mem_cons.1 hv with rfl | hv
 · rfl
 · obtain ⟨x,_,rfl⟩:=List.mem_map.1 hv
   rfl
theorem run_storeRol_new {w:World} {T T':Nat} {z M:List Nat} (hz:z.length=256) (hM:M.length=256):
   (storeRol ⟨w.heap.size,0,none⟩ (.agg (roleCells T M).toArray)).run Tryz.prog (w.alloc (.cells (roleCells T' z).toArray 212))= .ok () (w.alloc (.cells (roleCells T M).toArray 212)):=
 run_storeVar_new w 212 (roleCells T' z).toArray (roleCells T M).toArray (by simp only [List.size_toArray,rol_length,hM];kernel_rfl) (by simp [rol_length,hz,hM]) (all_oneCell_toArray (rol_one T M))
def zeroRol:Sem Value:=zeroValue 212
theorem zeroValue_rol:zeroValue 212=zeroRol:=rfl
theorem run_zeroRol (w:World):zeroRol.run Tryz.prog w= .ok (.agg (roleCells 0 zM).toArray) w:=
 (zero_of_info (P:=Tryz.prog) (t:=212) (v:= .agg (roleCells 0 zM).toArray) (n:=257) (by kernel_rfl)).1 w
def bRol (parts:Array (Nat × Value)):Sem Value:=Instr.build 212 parts
theorem build_rol (parts:Array (Nat × Value)):Instr.build 212 parts=bRol parts:=rfl
theorem run_bRol (T:Nat) (w:World):(bRol #[(0,.int .i64 (T:Nat))]).run Tryz.prog w= .ok (.agg (roleCells T zM).toArray) w:=by
 have hz:=(zero_of_info (P:=Tryz.prog) (t:=212) (v:= .agg (roleCells 0 zM).toArray) (n:=257) (by kernel_rfl)).1
 exact run_build_struct w 212 _ (.agg (roleCells 0 zM).toArray) #[(0,1),(1,256)] #[(0,.int .i64 (T:Nat))] _ Tryz.underlying212 hz (fun w=>by kernel_rfl) (by kernel_rfl)
theorem zM_length:zM.length=256:=by unfold zM;exact List.length_replicate
theorem tell_refuses {R:FileR} {n kind a:Nat} (h:noTellM R.told R.L.length n kind=true):tell R n kind a=(false,{ R with bad:=(a:Int) }):=by
 unfold tell
 rw [if_pos (show noTell R n kind=true from h)]
theorem tell_takes {R:FileR} {n kind a:Nat} (h:noTellM R.told R.L.length n kind=false):(tell R n kind a).1=true∧(tell R n kind a).2.told=R.told.set n kind:=by
 unfold tell
 rw [if_neg (by rw [show noTell R n kind=false from h];decide)]
 exact ⟨rfl,rfl⟩
theorem tellSp_refuses {R:FileR} {first:Nat} {s:SpotN} (h:spotNo R.told R.L.length first s.table s.index s.number=true):(tellSp R first s).1=false:=by
 unfold spotNo at h
 unfold tellSp
 by_cases e:s.table=first
 · rw [if_pos e] at h ⊢
   by_cases e2:2≤s.index
   · rw [if_pos e2]
   · rw [decide_eq_false e2,Bool.false_or] at h
     rw [if_neg e2,tell_refuses h]
 · rw [if_neg e] at h ⊢
   rw [tell_refuses h]
theorem tellSp_takes {R:FileR} {first:Nat} {s:SpotN} (h:spotNo R.told R.L.length first s.table s.index s.number=false):(tellSp R first s).1=true∧(tellSp R first s).2.told=R.told.set (s.number%32768) (spotKind first s.table):=by
 unfold spotNo at h
 unfold tellSp spotKind
 by_cases e:s.table=first
 · rw [if_pos e] at h ⊢
   rw [Bool.or_eq_false_iff] at h
   rw [if_neg (of_decide_eq_false h.1),if_pos e]
   exact tell_takes h.2
 · rw [if_neg e] at h ⊢
   rw [if_neg e]
   exact tell_takes h
theorem foldT_pre {first:Nat} {a b:List SpotN} {R:FileR} (h:a <+: b) (hf:(foldT first a R).1=false):foldT first b R=foldT first a R:=by
 obtain ⟨r,rfl⟩:=h
 rw [foldT_app,if_neg (by rw [hf];decide)]
 exact Prod.ext hf.symm rfl
theorem foldT_last {first:Nat} {a:List SpotN} {s:SpotN} {R:FileR} (h:(foldT first (a++[s]) R).1=true):(foldT first a R).1=true∧(tellSp (foldT first a R).2 first s).1=true:=by
 by_cases h1:(foldT first a R).1=true
 · rw [foldT_snoc first a s R h1] at h
   exact ⟨h1,h⟩
 · rw [foldT_app,if_neg h1] at h
   cases h
def Small (M:List Nat):Prop:= ∀ i,M.getD i 0<256
theorem Small.set {M:List Nat} (h:Small M) (n:Nat) {kind:Nat} (hk:kind<256):Small (M.set n kind):=fun i=>by
 rw [List.getD_eq_getElem?_getD,List.getElem?_set]
 by_cases e:n=i
 · rw [if_pos e]
   split
   · exact hk
   · decide
 · rw [if_neg e,← List.getD_eq_getElem?_getD];exact h i
theorem zM_small:Small zM:=fun i=>by
 unfold zM
 rw [List.getD_eq_getElem?_getD,List.getElem?_replicate]
 split <;> decide
structure NumAt (w W:World) (v bs bi:Nat) (r:Value) (T:Nat) (M:List Nat) (n:Nat):Prop where
 below:Below w.heap.size w W
 bv:W.heap[w.heap.size]? = some (.cells #[.pointer (some ⟨v,0,none⟩)] 82 (0,0))
 br:W.heap[w.heap.size+1]? = some (.cells #[r] 98 (0,0))
 roles:RolesAt W bs T M
 bin:W.heap[bi]? = some (.cells #[.int .i64 (n:Nat)] 3 (0,0))
 lo:w.heap.size+2≤bs
 lt:bs<bi
section
variable {w W W':World} {v bs bi T n:Nat} {r:Value} {M:List Nat}
theorem NumAt.later (h:NumAt w W v bs bi r T M n) (hb:Below W.heap.size W W'):NumAt w W' v bs bi r T M n:=
 ⟨h.below.trans (hb.mono h.below.size),(hb.block _ (blk_lt h.bv)).trans h.bv,(hb.block _ (blk_lt h.br)).trans h.br,h.roles.below hb,(hb.block _ (blk_lt h.bin)).trans h.bin,h.lo,h.lt⟩
theorem NumAt.turned {B:Nat} {row:Option Nat} (h:NumAt w W v bs bi r T M n) (hB:bi<B) (hg:W.grownBy W' row) (hr: ∀ r,row=some r→B≤r∧ ∃ o:Obj,W.heap[r]? = some o∧o.isCells=false):NumAt w W' v bs bi r T M n:=by
 have:=h.lo
 have:=h.lt
 exact ⟨below_turned h.below hg (fun r e=>by have:=(hr r e).1;omega),blk_turn hg hr h.bv (by omega),blk_turn hg hr h.br (by omega),⟨blk_turn hg hr h.roles.blk (by omega),h.roles.len⟩,blk_turn hg hr h.bin (by omega),h.lo,h.lt⟩
theorem Below.only {b i:Nat} {x:Value} (h:Below w.heap.size w W) (hb:w.heap.size≤b):Below w.heap.size w (W.setCell ⟨b,i,none⟩ x):=by
 have hk:=Kept.only W b i x
 exact ⟨hk.os.trans h.os,hk.tape.trans h.tape,hk.output.trans h.output,Nat.le_trans h.size hk.size,fun j hj=>by
     rw [hk.block j (Nat.lt_of_lt_of_le hj h.size) (by omega)];exact h.block j hj⟩
theorem NumAt.answer (h:NumAt w W v bs bi r T M n) (x:Value):NumAt w (W.setCell ⟨w.heap.size+1,0,none⟩ x) v bs bi x T M n:=by
 have hk:=Kept.only W (w.heap.size+1) 0 x
 have:=h.lo
 have:=h.lt
 refine ⟨Below.only h.below (by omega),hk.blk (by omega) h.bv,?_,h.roles.kept hk (by omega),hk.blk (by omega) h.bin,h.lo,h.lt⟩
 rw [heap_setCell_same _ _ _ _ _ _ _ h.br]
 rfl
theorem NumAt.place (h:NumAt w W v bs bi r T M n) (m:Nat):NumAt w (W.setCell ⟨bi,0,none⟩ (.int .i64 (m:Nat))) v bs bi r T M m:=by
 have hk:=Kept.only W bi 0 (.int .i64 (m:Nat))
 have:=h.lo
 have:=h.lt
 refine ⟨Below.only h.below (by omega),hk.blk (by omega) h.bv,hk.blk (by omega) h.br,h.roles.kept hk (by omega),?_,h.lo,h.lt⟩
 rw [heap_setCell_same _ _ _ _ _ _ _ h.bin]
 rfl
theorem NumAt.role {M':List Nat} (h:NumAt w W v bs bi r T M n) (hr:RolesAt W' bs T M') (hk:Kept (fun j=>j=bs) W W'):NumAt w W' v bs bi r T M' n:=by
 have:=h.lo
 have:=h.lt
 exact ⟨⟨hk.os.trans h.below.os,hk.tape.trans h.below.tape,hk.output.trans h.below.output,Nat.le_trans h.below.size hk.size,fun j hj=>by
     rw [hk.block j (Nat.lt_of_lt_of_le hj h.below.size) (by omega)];exact h.below.block j hj⟩,hk.blk (by omega) h.bv,hk.blk (by omega) h.br,hr,hk.blk (by omega) h.bin,h.lo,h.lt⟩
end
def byB (M:List Nat):Nat→List UInt8
 | 0=>zk
 | k+1=>(byB M k).set k (UInt8.ofNat (M.getD k 0%256))
theorem byB_length (M:List Nat): ∀ k,(byB M k).length=256
 | 0=>zk_length
 | k+1=>by rw [byB,List.length_set,byB_length M k]
def repair1 (V:VolR):VolR:=flushV (putCnt (completeV V) (byB (usesOf V) 256) 4)
def repairV (V:VolR):VolR:=flushV (markLoneV (repair1 V))
theorem part_nat (M:List Nat) (i:Nat) (hi:i<M.length) (w:World):(part 3 (nv M).toArray (i*1)).run Tryz.prog w= .ok (.int .i64 ((M.getD i 0:Nat):Int)) w:=by
 have ha:(isAgg 3).run Tryz.prog w= .ok false w:=by unfold isAgg;rw [Sem.run_bind,run_underlying Tryz.underlying3 w];rfl
 unfold part
 rw [Sem.run_bind,ha]
 simp only [Result.andThen_ok,Bool.false_eq_true,if_false,Nat.mul_one]
 rw [List.getElem?_toArray,nv_get M i hi]
 rfl
theorem run_index_use (w:World) (M:List Nat) (hM:M.length=256) (k:Nat) (hk:k<256):(Instr.index 161 (.agg (nv M).toArray) (.int .i64 (k:Int))).run Tryz.prog w= .ok (.int .i64 ((M.getD k 0:Nat):Int)) w:=
 run_index_arr w _ _ 256 1 Tryz.underlying161 (by kernel_rfl) _ k hk _ (part_nat M k (by omega) w)
attribute [local go_sem ↓] loadVar_cnt storeVar_cnt zeroValue_cnt
attribute [local go_sem] run_loadCnt run_storeCnt run_zeroCnt
theorem volRepair_any (w:World) (v:Nat) (Cv Lv:Value) (V:VolR) (h:VolAt w v Cv Lv V) (h5:5<V.C.length) (hC:V.C.length≤256) (hL:V.L.length≤600000000) (hF: ∀ f ∈ firstsOf V,FirstOK V f) (hF2: ∀ f ∈ firstsOf (repair1 V),FirstOK (repair1 V) f):
   Calls Tryz.prog 57 #[.pointer (some ⟨v,0,none⟩)] w fun e w'=>e= .returned (.tuple #[])∧ ∃ C1 L1,VStep w w' v Cv Lv C1 L1 (repairV V):=by
 have Hu:=hide (fun (W:World) (hB:Below w.heap.size w W)=>callsIn_wide.1 (uses_in W v Cv Lv V (h.below hB) h5 hC hF))
 have H:=hide h
 have HF2:=hide hF2
 have hml:(usesOf V).length=256:=useAll_length V _
 have hmm:=useAll_most (V:=V) (firstsOf V) hF
 clear h hF hF2
 go_enter Tryz.func57,Tryz.ntmps57
 go_wp2_with fail
 have E0:=hide ((Env.start (uh H)).lay (.cells (cv zk).toArray 123))
 have B0:=hide ((Below.refl w.heap.size w).alloc (Nat.le_refl _) (.cells (cv zk).toArray 123))
 generalize w.alloc (.cells (cv zk).toArray 123)=w0 at*
 refine (uh Hu w0 (uh B0)).mono ?_
 rintro e w1 ⟨rfl,b1⟩
 have hMm: ∀ n,(usesOf V).getD n 0≤10000:=fun n=>by
   have:=hmm n
   have hfl:(firstsOf V).length≤5:=by
     unfold firstsOf picFirsts
     have:=lenOf_le (entsOf (cl V.C 5))
     simp only [List.length_cons,List.length_map,List.length_take]
     omega
   unfold usesOf;omega
 have HV:Hid (repair1 V=flushV (putCnt (completeV V) (byB (usesOf V) 256) 4)):=rfl
 have E1:Hid (Env w w1 v Cv Lv Cv Lv V [(w.heap.size,.cells (cv (byB (usesOf V) 0)).toArray 123 (0,0))]):=(uh E0).later b1
 generalize usesOf V=M at*
 clear hmm b1 Hu E0 B0
 go_wp2
 go_loopw [3,4,7] (fun x y i w'=> ∃ k:Nat,k≤256∧i= .int .i64 k∧Env w w' v Cv Lv Cv Lv V [(w.heap.size,.cells (cv (byB M k)).toArray 123 (0,0))]) (fun _ _ i _=>256 - (intOf i).toNat)
 case atStart=>exact ⟨0,by omega,rfl,uh E1⟩
 case round=>
   obtain ⟨k,hk,rfl,hE⟩:=hrel
   clear E1
   by_cases hlt:k<256
   · have hki:(k:Int)<256:=by omega
     have hix:=run_index_use wr M hml k hlt
     have hMk:=hMm k
     have hbl:=byB_length M k
     have f1:=frozen_blk hE.o0
     have th:wr.there w.heap.size k 1:=there_blk hE.o0 k 1 (by rw [List.size_toArray,cv_length,hbl];omega)
     have hwr:IntKind.u8.wrap ((M.getD k 0:Nat):Int)=((M.getD k 0%256:Nat):Int):=by rw [IntKind.wrap_u8];omega
     have E3:=hE.put (by simp) (Kept.only _ w.heap.size k (.int .u8 ((M.getD k 0%256:Nat):Int))) (heap_setCell_same _ _ _ _ _ _ _ hE.o0)
     have hset:(cv (byB M k)).toArray.setIfInBounds k (.int .u8 ((M.getD k 0%256:Nat):Int))=(cv (byB M (k+1))).toArray:=by
       rw [List.setIfInBounds_toArray,byB,cv_setB _ k _ (Nat.mod_lt _ (by omega))]
     rw [hset] at E3
     have c1: ∃ x,wr.cell? ⟨w.heap.size,k,none⟩=some x:=⟨_,by rw [cell_blk hE.o0,List.getElem?_toArray,cv_get _ _ (by omega)]⟩
     obtain ⟨x0,c1⟩:=c1
     have HE:=hide E3
     clear E3 hE hset
     generalize M.getD k 0=mk at*
     generalize mk%256=m2 at*
     go_wp2
     go_roundw
     case rel=>exact ⟨k+1,by omega,by go_num,uh HE⟩
     case measure=>simp [intOf];omega
   · have hk256:k=256:=by omega
     subst hk256
     have hki: ¬ (256:Int)<256:=by omega
     have hbl:=byB_length M 256
     have F1:=hide (hE.sub (cs:=[]) (by simp))
     have hle:=(uh F1).at'
     have Hc:=hide (complete_any wr v Cv Lv V (uh F1).at' (by omega) (by omega))
     have EE:=hide hE
     clear hE hle
     go_wp2_with fail
     refine (uh Hc).mono ?_
     rintro e w3 ⟨rfl,C3,L3,hS3⟩
     have E3:=hide ((uh EE).does hS3)
     have l1:=blk_has (uh E3).o0 (n:=256) (by rw [cv_length,hbl])
     have l2:=blk_cells (uh E3).o0 (n:=256) (by rw [cv_length,hbl])
     have F3:=hide ((uh E3).sub (cs:=[]) (by simp))
     have hcC:(completeV V).C.length=V.C.length:=by rw [completeV_C]
     have hcL:(completeV V).L.length≤V.L.length+1:=completeV_lenL V
     have Hp:=hide (putCounts_any w3 v C3 L3 (completeV V) (uh F3).at' (byB M 256) hbl (by omega) (by omega))
     have hlC:=putCnt_lenC' (completeV V) (byB M 256) (by omega)
     have hlL:=putCnt_lenL (completeV V) (byB M 256) 4
     have hlL2:=flushV_lenL (putCnt (completeV V) (byB M 256) 4)
     have hfc:(flushV (putCnt (completeV V) (byB M 256) 4)).C.length=V.C.length:=by rw [flushV_C];omega
     rw [← uh HV] at hlL2 hfc
     clear hS3 Hc EE F1 E3
     generalize putCnt (completeV V) (byB M 256) 4=V4 at*
     generalize completeV V=V3 at*
     generalize byB M 256=bs at*
     go_wp2_with fail
     refine (uh Hp).mono ?_
     rintro e w4 ⟨rfl,C4,L4,hS4⟩
     have F4:=hide ((uh F3).does hS4)
     clear hS4 F3 Hp l1 l2
     go_wp2_with fail
     refine (flush_any w4 v C4 L4 V4 (uh F4).at' (by omega)).mono ?_
     rintro e w5 ⟨rfl,C5,L5,hS5⟩
     rw [← uh HV] at hS5
     have F5:=hide ((uh F4).does hS5)
     clear hS5 F4
     have hlm:=loneV_lenL (cntsOf (repair1 V).C) (firstsOf (repair1 V)) (repair1 V)
     have hfl:(firstsOf (repair1 V)).length≤5:=by
       unfold firstsOf picFirsts
       have:=lenOf_le (entsOf (cl (repair1 V).C 5))
       simp only [List.length_cons,List.length_map,List.length_take]
       omega
     have hml2:(markLoneV (repair1 V)).L.length≤700000000:=by unfold markLoneV;omega
     have HV2:Hid (repairV V=flushV (markLoneV (repair1 V))):=rfl
     generalize repair1 V=V5 at*
     go_wp2_with fail
     refine (callsIn_wide.1 (markLone_in w5 v C5 L5 V5 (uh F5).at' (by omega) (by omega) (by omega) (uh HF2))).mono ?_
     rintro e w6 ⟨rfl,C6,L6,hS6⟩
     have F6:=hide ((uh F5).does hS6)
     clear hS6 F5
     go_wp2_with fail
     refine (flush_any w6 v C6 L6 (markLoneV V5) (uh F6).at' (by omega)).mono ?_
     rintro e w7 ⟨rfl,C7,L7,hS7⟩
     have F7:=hide ((uh F6).does hS7)
     clear hS7 F6
     go_wp2
     go_end0
     exact ⟨rfl,C7,L7,by rw [uh HV2];exact (uh F7).step⟩
theorem diskRepair_any (w:World) (d v:Nat) (Cv Lv:Value) (V:VolR) (h:DskAt w d v Cv Lv V) (h5:5<V.C.length) (hC:V.C.length≤256) (hL:V.L.length≤600000000) (hF: ∀ f ∈ firstsOf V,FirstOK V f) (hF2: ∀ f ∈ firstsOf (repair1 V),FirstOK (repair1 V) f):
   Calls Tryz.prog 31 #[.pointer (some ⟨d,0,none⟩)] w fun e w'=>e= .returned (.tuple #[])∧ ∃ C1 L1,VStep w w' v Cv Lv C1 L1 (repairV V):=by
 have Hm:=hide (made_any _ d v Cv Lv V h)
 have c0:=h.c0
 have Hw:=hide (volRepair_any w v Cv Lv V h.vol h5 hC hL hF hF2)
 clear h hF hF2
 go_enter Tryz.func31,Tryz.ntmps31
 go_wp2_with fail
 refine (uh Hm).mono ?_
 rintro e w1 ⟨rfl,rfl⟩
 go_wp2_with fail
 refine (uh Hw).mono ?_
 rintro e w2 ⟨rfl,C1,L1,hS⟩
 have HS:=hide hS
 clear hS Hw Hm
 go_wp2
 go_end0
 exact ⟨rfl,C1,L1,uh HS⟩
end Go.Proofs.YtknjjjenklfeoaaGreatDoor
