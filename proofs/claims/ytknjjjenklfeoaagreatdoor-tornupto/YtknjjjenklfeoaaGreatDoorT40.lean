import Derived.Test.YtknjjjenklfeoaaGreatDoorT39
set_option maxHeartbeats 8000000
set_option maxRecDepth 100000
namespace Go.Proofs.YtknjjjenklfeoaaGreatDoor
open Go.RowKit Go.Shelf
attribute [local go_sem ↓] loadVar_clus storeVar_clus zeroValue_clus loadVar_tab storeVar_tab zeroValue_tab loadVar_cnt storeVar_cnt zeroValue_cnt loadVar_head storeVar_head zeroValue_head build_head buildSlice_clus loadVar_wr storeVar_wr zeroValue_wr build_wr buildSlice_wr equalIn_clus loadVar_place storeVar_place zeroValue_place build_place
attribute [local go_sem] run_loadClus run_storeClus run_zeroClus run_storeClus_new run_loadClus_new zc_length run_loadTab run_storeTab run_zeroTab run_storeTab_new run_loadTab_new zt_length run_loadCnt run_storeCnt run_zeroCnt run_storeCnt_new run_loadCnt_new zk_length run_loadHead run_storeHead run_zeroHead run_storeHead_new run_bHead HasAt_drew cellsAt_drew HasAt_drewN cellsAt_drewN run_bsClus run_loadWr run_zeroWr run_storeWr run_storeWr_new run_bWr0 run_bsWr run_loadPlace run_storePlace run_zeroPlace run_storePlace_new run_bPlace
attribute [local go_sem] field_head1 field_head0 Oper.semAt_some
attribute [local go_sem ↓] build_cnt
attribute [local go_sem] run_bCnt0
attribute [local go_sem ↓] storeVar_rol zeroValue_rol build_rol
attribute [local go_sem] run_storeRol_new run_zeroRol run_bRol zM_length
def NumPost (F:Bool × FileR) (e:Ending):Prop:=(F.1=true∧e= .returned .nilIface)∨(F.1=false∧ ∃ (n:Nat) (x:Value),F.2.bad=(n:Int)∧isIface x∧e= .returned (faultV n x))
def NumBad (w W:World) (v bs bi T:Nat) (F:Bool × FileR):Prop:=F.1=false∧ ∃ (n:Nat) (x:Value) (M:List Nat) (m:Nat),F.2.bad=(n:Int)∧isIface x∧NumAt w W v bs bi (faultV n x) T M m
theorem NumBad.turned {w W W':World} {v bs bi T B:Nat} {F:Bool × FileR} {row:Option Nat} (h:NumBad w W v bs bi T F) (hB:bi<B) (hg:W.grownBy W' row) (hr: ∀ r,row=some r→B≤r∧ ∃ o:Obj,W.heap[r]? = some o∧o.isCells=false):NumBad w W' v bs bi T F:=by
 obtain ⟨h1,n,x,M,m,h2,h3,h4⟩:=h
 exact ⟨h1,n,x,M,m,h2,h3,h4.turned hB hg hr⟩
theorem checkNumbers_in (w:World) (v:Nat) (Cv Lv:Value) (V:VolR) (h:VolAt w v Cv Lv V) (hG:Glob w) (h5:5<V.C.length) (hC:V.C.length≤256) (hT:num (cl V.C 0) 4=V.C.length) (R:FileR) (hRL:R.L=V.C) (hRt:R.told=zM):
   CallsIn Fence.wide 100 Tryz.prog 94 #[.pointer (some ⟨v,0,none⟩)] w fun e w'=>NumPost (foldF (firstsOf V) 0 R) e∧Below w.heap.size w w':=by
 have H:=hide h
 have HG:=hide hG
 have hvl:v<w.heap.size:=h.lt
 have hfl: ∀ j,foot v Cv Lv j→j<w.heap.size:=h.foot_lt
 clear h hG
 refine callsIn_of_wp_marks Tryz.func94 rfl trivial ?_ rfl
 simp only [Tryz.ntmps94,List.size_toArray,List.length_cons,List.length_nil,Nat.reduceAdd,Nat.reduceSub,Array.replicate_succ,Array.replicate_zero,List.push_toArray,List.append_toArray,List.nil_append,List.cons_append]
 have L0:=hide (Locs.two w (.cells #[.pointer (some ⟨v,0,none⟩)] 82) (.cells #[.nilIface] 98))
 have Hh:=hide (head_vol _ v Cv Lv V ((uh H).below (uh L0).below) (by omega))
 rw [hT] at Hh
 have Hm0:=hide (fun W=>firsts_make W v)
 gi_wp2_with fail
 refine ⟨trivial,(callsIn_wide.2 (uh Hh)).mono ?_⟩
 rintro e w1 ⟨rfl,hb1⟩
 have L1:=(uh L0).later hb1
 have hw1:w.heap.size+1<w1.heap.size:=blk_lt L1.o1
 have L2:=(L1.alloc (.cells (roleCells V.C.length zM).toArray 212)).alloc (.cells #[.int .i64 0] 3)
 have N2:NumAt w ((w1.alloc (.cells (roleCells V.C.length zM).toArray 212)).alloc (.cells #[.int .i64 0] 3)) v w1.heap.size (w1.heap.size+1) .nilIface V.C.length zM 0:=by
   refine ⟨L2.below,L2.o0,L2.o1,⟨(Below.heap_alloc _ _ _ (by simp)).trans (heap_alloc_new _ _),zM_length⟩,?_,by omega,by omega⟩
   have:=heap_alloc_new (w1.alloc (.cells (roleCells V.C.length zM).toArray 212)) (.cells #[.int .i64 0] 3)
   rwa [World.size_alloc] at this
 have cv0:((w1.alloc (.cells (roleCells V.C.length zM).toArray 212)).alloc (.cells #[.int .i64 0] 3)).cell? ⟨w.heap.size,0,none⟩=some (.pointer (some ⟨v,0,none⟩)):=(cell_blk N2.bv 0).trans rfl
 have hs2:w1.heap.size+1<((w1.alloc (.cells (roleCells V.C.length zM).toArray 212)).alloc (.cells #[.int .i64 0] 3)).heap.size:=by simp
 have N2:=hide N2
 clear Hh hb1 L0 L1 L2
 gi_wp2_with fail
 generalize (w1.alloc (.cells (roleCells V.C.length zM).toArray 212)).alloc (.cells #[.int .i64 0] 3)=wr at*
 generalize hbi0:w1.heap.size+1=bi at*
 generalize w1.heap.size=bs at*
 have hbi:bs<bi:=by omega
 clear hbi0
 refine ⟨trivial,(callsIn_wide.2 (uh Hm0 wr)).mono ?_⟩
 rintro e W3 ⟨rfl,hW3⟩
 have hs3:wr.heap.size+1≤W3.heap.size:=by rw [hW3];simp
 have hb3:Below wr.heap.size wr W3:=by rw [hW3];exact (Below.refl _ _).alloc (Nat.le_refl _) _
 have hbx:W3.heap[wr.heap.size]? = some (.cells #[.pointer (some ⟨v,0,none⟩)] 82 (0,0)):=by rw [hW3];exact heap_alloc_new _ _
 have N3:=(uh N2).later hb3
 have hV3:=(uh H).below N3.below
 have hP16: ∀ t ∈ firstsOf V,t<65536:=by
   intro t ht
   unfold firstsOf picFirsts at ht
   rcases List.mem_cons.1 ht with rfl | ht
   · exact num_lt _ _
   · obtain ⟨e,he,rfl⟩:=List.mem_map.1 ht
     have he:=List.mem_of_mem_take he
     unfold entsOf at he
     obtain ⟨i,_,rfl⟩:=List.mem_map.1 he
     exact num_lt _ _
 have hFA:=firsts_any (Pc:=fun t=>t<65536) 99 (by omega) (fun j=>j=w.heap.size+1∨j=bs∨j=bi) v wr.heap.size (W3.heap.size+2) V Cv Lv W3 hV3 hbx (by omega) (fun hf=>by have:=hfl _ hf;omega) (fun j hj=>by rcases hj with rfl | rfl | rfl <;> omega) h5 hP16
 have N3:=hide N3
 clear N2 hV3 hbx hb3 hW3 Hm0 cv0 hP16
 gi_wp2_with fail
 generalize (hv V.C.length (num (cl V.C 0) 6)).toArray=hvv at*
 generalize (roleCells V.C.length zM).toArray=rc at*
 have HT:=hide (rfl:V.C.length=V.C.length)
 refine range_any (by omega) (gf:=173) (lb:= #[.pointer (some ⟨wr.heap.size,0,none⟩)]) rfl (enters_of Tryz.func173 (by kernel_rfl) rfl) hFA
   (fun A B C h k=>KeepV.trans (R:=SameNum) (fun _ _ _ a b=>a.trans b) h k) (fun W o o' hl hc=>KeepV.turn SameNum.refl W _ o o' hl hc (by omega)) (Below.refl _ _) (fun _=>rfl)
   (fun pre W'=>NumAt w W' v bs bi .nilIface V.C.length (foldF (valsM pre) 0 R).2.told (if pre.length=0 then 0 else 5)∧(foldF (valsM pre) 0 R).1=true∧Small (foldF (valsM pre) 0 R).2.told)
   (fun pre W'=>NumBad w W' v bs bi V.C.length (foldF (valsM pre) 0 R))
   (fun _ _ _ _ hs hg hr=>⟨NumAt.turned hs.1 (by omega) hg hr,hs.2⟩)
   (fun _ _ _ _ hs hg hr=>NumBad.turned hs (by omega) hg hr)
   ⟨by
     show NumAt w W3 v bs bi .nilIface V.C.length R.told 0
     rw [hRt]
     exact uh N3,rfl,by
     show Small R.told
     rw [hRt]
     exact zM_small⟩
   (fun x a' W'=> ∃ bf,bi<bf∧W'.heap[bf]? = some (.cells #[.int .i64 ((x.1:Nat):Int)] 3 (0,0))∧a'={ tmps:= #[.pointer (some ⟨v,0,none⟩),.pointer (some ⟨w.heap.size,0,none⟩),.pointer (some ⟨w.heap.size+1,0,none⟩),.pointer (some ⟨bs,0,none⟩),.pointer (some ⟨bi,0,none⟩),.pointer (some ⟨bf,0,none⟩),undef,undef,undef,.pointer (some ⟨v,0,none⟩),.agg hvv,.int .i64 ((V.C.length:Nat):Int),.agg rc,.pointer (some ⟨v,0,none⟩),.func (.func 173) #[] #[.pointer (some ⟨wr.heap.size,0,none⟩)],.int .i64 ((x.1:Nat):Int),undef,undef,undef,undef,undef,undef,undef,undef,undef,undef,undef,undef,undef,undef,undef,undef,undef,undef,undef,undef,undef,undef],defers:=[] })
   (fun y a'' _ A' B' row hs hg hr=>by
     obtain ⟨bx2,h0,h2,h3⟩:=hs
     refine ⟨bx2,h0,?_,h3⟩
     rw [hg.block bx2 (blk_lt h2) (fun e=>by
       obtain ⟨_,o,ho,hc⟩:=hr bx2 e.symm
       rw [h2] at ho
       injection ho with ho
       subst ho
       cases hc)]
     exact h2)
   ?assign ?body ?done ?stop
 case assign=>
   rintro l pre x W' K ⟨hN,hi1,hi2⟩ hK
   have hb:Below W'.heap.size W' (W'.alloc (.cells #[.int .i64 ((x.1:Nat):Int)] 3)):=(Below.refl _ _).alloc (Nat.le_refl _) _
   have hbl:=blk_lt hN.bin
   have G1:=hide (hN.later hb)
   have G2:=hide hi1
   have G3:=hide hi2
   clear hN hi1 hi2
   gi_wp2
   exact hK _ _ ((KeepsOthers.alloc _ _).from _) (KeepV.below SameNum.refl hb) ⟨uh G1,uh G2,uh G3⟩ ⟨_,hbl,heap_alloc_new _ _,rfl⟩
 case done=>
   rintro D ys W' hD hS ⟨hM,hf,_⟩ hK
   have hS':valsM ys=firstsOf V:=hS
   rw [hS'] at hf
   have Hmk:=hide hf
   have r1:W'.cell? ⟨w.heap.size+1,0,none⟩=some .nilIface:=(cell_blk hM.br 0).trans rfl
   have f2:=frozen_blk hM.br
   have M5:=hM.answer .nilIface
   have hK5:(W'.setCell ⟨w.heap.size+1,0,none⟩ .nilIface).heap[D]? = some (.deferred (some [])):=(Kept.only W' (w.heap.size+1) 0 .nilIface).blk (by omega) hK
   have br5:=M5.br
   have HB:=hide (below_shut (D:=D) M5.below (by omega))
   have Hbr:=hide br5
   clear hM hS hS' hf hFA N3 M5 br5
   gi_wp2
   refine ⟨by simp,.inl ⟨_,_,rfl,run_takeDeferred hK5,?_⟩⟩
   have hbr6:((W'.setCell ⟨w.heap.size+1,0,none⟩ .nilIface).putObj D (.deferred none)).heap[w.heap.size+1]? = some (.cells #[.nilIface] 98 (0,0)):=(World.putObj_heap_other (by omega)).trans (uh Hbr)
   refine ⟨_,results_cell rfl ⟨w.heap.size+1,0,none⟩ rfl (load_err hbr6),Or.inl ⟨uh Hmk,rfl⟩,uh HB⟩
 case stop=>
   rintro D pre W' hD hSp ⟨h1,n,x,M,m,h2,h3,hM⟩ hK
   obtain ⟨rr,hrr⟩:=hSp
   have hf:=foldF_pre (valsM pre) rr 0 R h1
   rw [show valsM pre++rr=firstsOf V from hrr] at hf
   rw [← hf] at h1 h2
   have HB:=hide (below_shut (D:=D) hM.below (by omega))
   have hbr:=hM.br
   have H1:=hide h1
   have H2:=hide h2
   clear hFA N3 hf h1 h2 hM hrr
   gi_wp2
   refine ⟨by simp,.inl ⟨_,_,rfl,run_takeDeferred hK,?_⟩⟩
   have hbr6:(W'.putObj D (.deferred none)).heap[w.heap.size+1]? = some (.cells #[faultV n x] 98 (0,0)):=(World.putObj_heap_other (by omega)).trans hbr
   refine ⟨_,results_cell rfl ⟨w.heap.size+1,0,none⟩ rfl (load_err hbr6),Or.inr ⟨uh H1,n,x,uh H2,h3,rfl⟩,uh HB⟩
 case body=>
   rintro l pre x a' W hl ⟨r,hr⟩ ⟨hN,hf0,hsm⟩ ⟨bf,hbf0,hbf,rfl⟩ hlen
   obtain ⟨x,hx⟩:=x
   have hQL:(foldF (valsM pre) 0 R).2.L=V.C:=by rw [foldF_L];exact hRL
   have hsn:=foldF_snoc x (valsM pre) 0 R hf0
   rw [show (valsM pre).length=pre.length from List.length_map _,show valsM pre++[x]=valsM (pre++[⟨x,hx⟩]) from (valsM_snoc pre ⟨x,hx⟩).symm] at hsn
   generalize (foldF (valsM pre) 0 R).2=Q at*
   generalize (if pre.length=0 then 0 else 5)=inn at*
   have cf:W.cell? ⟨bf,0,none⟩=some (.int .i64 ((x:Nat):Int)):=(cell_blk hbf 0).trans rfl
   have hfr:=blk_lt hN.bin
   have hVW:=(uh H).below hN.below
   have nf: ∀ j,w.heap.size≤j→ ¬ foot v Cv Lv j:=fun j hj hf=>by have:=hfl j hf;omega
   have hlo:=hN.lo
   by_cases hno:noTellM Q.told V.C.length x 1=true
   · have htp:(treeP x inn Q).1=false∧(treeP x inn Q).2.bad=((inn:Nat):Int):=by
       have:=tell_refuses (R:=Q) (n:=x) (kind:=1) (a:=inn) (by rw [hQL];exact hno)
       unfold treeP
       rw [this]
       exact ⟨rfl,rfl⟩
     rw [← hsn] at htp
     have Ht:=hide (roles_no W bs V.C.length Q.told x 1 hN.roles ((uh HG).below hN.below) hC hx (by omega) hsm hno)
     have ci:W.cell? ⟨bi,0,none⟩=some (.int .i64 ((inn:Nat):Int)):=(cell_blk hN.bin 0).trans rfl
     have c3:W.cell? ⟨w.heap.size+1,0,none⟩=some .nilIface:=(cell_blk hN.br 0).trans rfl
     have f3:=frozen_blk hN.br
     have HN:=hide hN
     have Htp:=hide htp
     have K3:=hide (fun z=>(KeepV.own hVW (Kept.only W (w.heap.size+1) 0 z) (by rintro j rfl;exact ⟨Or.inl rfl,nf _ (by omega),_,hN.br,rfl⟩) (SameNum.refl _):KeepV (fun j=>j=w.heap.size+1∨j=bs∨j=bi) (fun k=>W3.heap.size+2≤k) v SameNum W (W.setCell ⟨w.heap.size+1,0,none⟩ z)))
     clear hN hf0 hsm hQL hsn hVW htp hFA N3
     gi_wp2_with fail
     refine ⟨trivial,(CallsIn.inRound l (callsIn_wide.2 (uh Ht))).mono ?_⟩
     rintro e w5 ⟨⟨z,⟨tz,vz,rfl⟩,rfl⟩,rfl⟩
     have hex:NumBad w (w5.setCell ⟨w.heap.size+1,0,none⟩ (faultV inn (.iface tz vz))) v bs bi V.C.length (foldF (valsM (pre++[⟨x,hx⟩])) 0 R):=
       ⟨(uh Htp).1,inn,_,_,_,(uh Htp).2,⟨_,_,rfl⟩,(uh HN).answer _⟩
     have Hex:=hide hex
     have hf:=hide ((KeepsOthers.setCell w5 ⟨w.heap.size+1,0,none⟩ (faultV inn (.iface tz vz))).from W3.heap.size)
     have K4:=hide (uh K3 (faultV inn (.iface tz vz)))
     clear hex Htp Ht
     gi_wp2
     repeat (first | exact uh Hex | exact uh hf | exact uh K4 | refine ⟨?_,?_⟩)
   · have hno:noTellM Q.told V.C.length x 1=false:=by simpa using hno
     obtain ⟨ht1,ht2⟩:=tell_takes (R:=Q) (n:=x) (kind:=1) (a:=inn) (by rw [hQL];exact hno)
     have hxL:x<V.C.length:=by have:=(tell_ok ht1).2;rw [hQL] at this;exact this
     have htp:treeP x inn Q=foldT x (toldFrom V.C x 32 0) (tell Q x 1 inn).2:=by unfold treeP;rw [if_pos ht1,hQL]
     rw [← hsn] at htp
     have hQ1:(tell Q x 1 inn).2.L=V.C:=by rw [tell_L];exact hQL
     generalize (tell Q x 1 inn).2=Q1 at*
     have Ht:=hide (roles_yes W bs V.C.length Q.told x 1 hN.roles hC (by omega) hsm hno)
     have Na:NumAt w (W.setCell ⟨bs,1+x,none⟩ (.int .u8 ((1:Nat):Int))) v bs bi .nilIface V.C.length Q1.told inn:=by
       rw [ht2]
       exact hN.role (hN.roles.put x 1) (Kept.only _ _ _ _)
     have Ka:KeepV (fun j=>j=w.heap.size+1∨j=bs∨j=bi) (fun k=>W3.heap.size+2≤k) v SameNum W (W.setCell ⟨bs,1+x,none⟩ (.int .u8 ((1:Nat):Int))):=
       KeepV.own hVW (Kept.only _ _ _ _) (by rintro j rfl;exact ⟨Or.inr (Or.inl rfl),nf _ (by omega),_,hN.roles.blk,rfl⟩) (SameNum.refl _)
     have Fa:KeepsFrom W3.heap.size W (W.setCell ⟨bs,1+x,none⟩ (.int .u8 ((1:Nat):Int))):=(KeepsOthers.setCell _ _ _).from _
     have hsm1:Small Q1.told:=by rw [ht2];exact hsm.set _ (by omega)
     have hbfa:(W.setCell ⟨bs,1+x,none⟩ (.int .u8 ((1:Nat):Int))).heap[bf]? = some (.cells #[.int .i64 ((x:Nat):Int)] 3 (0,0)):=(Kept.only _ _ _ _).blk (by omega) hbf
     have hra:(W.setCell ⟨bs,1+x,none⟩ (.int .u8 ((1:Nat):Int))).heap[l]? = some (.loop r):=Fa.same l _ hl hr rfl
     have Na:=hide Na
     have Ka:=hide Ka
     have Fa:=hide Fa
     have Hbf:=hide hbfa
     have Hra:=hide hra
     have Hbfl:=blk_lt hbf
     clear hN hf0 hsm hQL hsn hVW hFA N3 ht1 ht2 hno hbfa hra hbf hr
     gi_wp2_with fail
     refine ⟨trivial,(CallsIn.inRound l (callsIn_wide.2 (uh Ht))).mono ?_⟩
     rintro e Wa ⟨rfl,hWa⟩
     rw [← hWa] at Na Ka Fa Hbf Hra
     have hVa:=(uh H).below (uh Na).below
     have ca:Wa.cell? ⟨bi,0,none⟩=some (.int .i64 ((inn:Nat):Int)):=(cell_blk (uh Na).bin 0).trans rfl
     have fa:=frozen_blk (uh Na).bin
     have N5:=(uh Na).place 5
     have K5:KeepV (fun j=>j=w.heap.size+1∨j=bs∨j=bi) (fun k=>W3.heap.size+2≤k) v SameNum Wa (Wa.setCell ⟨bi,0,none⟩ (.int .i64 ((5:Nat):Int))):=
       KeepV.own hVa (Kept.only _ _ _ _) (by rintro j rfl;exact ⟨Or.inr (Or.inr rfl),nf _ (by omega),_,(uh Na).bin,rfl⟩) (SameNum.refl _)
     have K5:=(uh Ka).trans (fun _ _ _ a b=>a.trans b) K5
     have F5:=(uh Fa).trans ((KeepsOthers.setCell Wa ⟨bi,0,none⟩ (.int .i64 ((5:Nat):Int))).from W3.heap.size)
     have hbf5:(Wa.setCell ⟨bi,0,none⟩ (.int .i64 ((5:Nat):Int))).heap[bf]? = some (.cells #[.int .i64 ((x:Nat):Int)] 3 (0,0)):=(Kept.only _ _ _ _).blk (by omega) (uh Hbf)
     have hr5:(Wa.setCell ⟨bi,0,none⟩ (.int .i64 ((5:Nat):Int))).heap[l]? = some (.loop r):=((KeepsOthers.setCell Wa ⟨bi,0,none⟩ (.int .i64 ((5:Nat):Int))).from W3.heap.size).same l _ hl (uh Hra) rfl
     have c50:(Wa.setCell ⟨bi,0,none⟩ (.int .i64 5)).cell? ⟨w.heap.size,0,none⟩=some (.pointer (some ⟨v,0,none⟩)):=(cell_blk N5.bv 0).trans rfl
     have c51:(Wa.setCell ⟨bi,0,none⟩ (.int .i64 5)).cell? ⟨bf,0,none⟩=some (.int .i64 ((x:Nat):Int)):=(cell_blk hbf5 0).trans rfl
     have Hm:=hide (told_make (Wa.setCell ⟨bi,0,none⟩ (.int .i64 5)) v x)
     have N5:=hide N5
     have K5:=hide K5
     have F5:=hide F5
     have Hbf5:=hide hbf5
     have Hr5:=hide hr5
     clear Na Ka Fa Hbf Hra hVa Ht hWa hbf5 hr5 cf
     gi_wp2_with fail
     change Hid (NumAt w (Wa.setCell ⟨bi,0,none⟩ (.int .i64 5)) v bs bi .nilIface V.C.length Q1.told 5) at N5
     change Hid (KeepV _ _ v SameNum W (Wa.setCell ⟨bi,0,none⟩ (.int .i64 5))) at K5
     change Hid (KeepsFrom W3.heap.size W (Wa.setCell ⟨bi,0,none⟩ (.int .i64 5))) at F5
     change Hid ((Wa.setCell ⟨bi,0,none⟩ (.int .i64 5)).heap[bf]? = _) at Hbf5
     change Hid ((Wa.setCell ⟨bi,0,none⟩ (.int .i64 5)).heap[l]? = _) at Hr5
     generalize Wa.setCell ⟨bi,0,none⟩ (.int .i64 5)=W5 at*
     refine ⟨trivial,(CallsIn.inRound l (callsIn_wide.2 (uh Hm))).mono ?_⟩
     rintro e wc ⟨rfl,hwc⟩
     have hs5:W5.heap.size+2≤wc.heap.size:=by rw [hwc];simp
     have hb5:Below W5.heap.size W5 wc:=by rw [hwc];exact ((Below.refl _ _).alloc (Nat.le_refl _) _).alloc (by simp) _
     have hb1:wc.heap[W5.heap.size]? = some (.cells #[.pointer (some ⟨v,0,none⟩)] 82 (0,0)):=by rw [hwc];exact (Below.heap_alloc _ _ _ (by simp)).trans (heap_alloc_new _ _)
     have hb2:wc.heap[W5.heap.size+1]? = some (.cells #[.int .i64 (x:Nat)] 3 (0,0)):=by rw [hwc];have:=heap_alloc_new (W5.alloc (.cells #[.pointer (some ⟨v,0,none⟩)] 82)) (.cells #[.int .i64 (x:Nat)] 3);rwa [World.size_alloc] at this
     have N6:=(uh N5).later hb5
     have hV6:=(uh H).below N6.below
     have hVW:=(uh H).below (uh N5).below
     have hr6:wc.heap[l]? = some (.loop r):=(hb5.block _ (blk_lt (uh Hr5))).trans (uh Hr5)
     have hbf6:=(hb5.block _ (blk_lt (uh Hbf5))).trans (uh Hbf5)
     have hbi5:=blk_lt (uh N5).bin
     have hbf5:=blk_lt (uh Hbf5)
     have hHA:=told_free 97 (by omega) (fun j=>j=w.heap.size+1∨j=bs∨j=bi) v W5.heap.size (W5.heap.size+1) x (wc.heap.size+1) V Cv Lv wc hV6 hb1 hb2 (by omega) (by omega) (fun hf=>by have:=hVW.foot_lt _ hf;omega) (fun hf=>by have:=hVW.foot_lt _ hf;omega) (fun k hk=>by omega) hxL
     have hKF6:KeepsFrom W3.heap.size W wc:=(uh F5).trans ⟨hb5.size,fun k o _ hk _=>(hb5.block k (blk_lt hk)).trans hk⟩
     have hK6:KeepV (fun j=>j=w.heap.size+1∨j=bs∨j=bi) (fun k=>W3.heap.size+2≤k) v SameNum W wc:=(uh K5).trans (fun _ _ _ a b=>a.trans b) (KeepV.below SameNum.refl hb5)
     have hWwc:W.heap.size≤wc.heap.size:=hKF6.size
     have N6:=hide N6
     clear N5 hV6 hb1 hb2 hwc Hm c50 c51 hVW K5 F5 Hbf5 Hr5
     gi_wp2_with fail
     refine range_inG (G:=fun s:SpotF=>s.number%32768<V.C.length) (l₀:=l) (r₀:=r) hr6 (by omega) (gf:=174) (lb:= #[.pointer (some ⟨W5.heap.size,0,none⟩),.pointer (some ⟨W5.heap.size+1,0,none⟩)]) rfl (enters_of Tryz.func174 (by kernel_rfl) rfl) hHA
       (fun A B C h k=>KeepV.trans (R:=EqV) (fun _ _ _ a b=>Eq.trans a b) h k) (fun W o o' hl hc=>KeepV.turn (R:=EqV) (fun _=>rfl) W _ o o' hl hc (by omega)) (Below.refl _ _) (fun _=>rfl)
       (fun ip W'=>(NumAt w W' v bs bi .nilIface V.C.length (foldT x (spotsN ip) Q1).2.told 5∧(foldT x (spotsN ip) Q1).1=true∧Small (foldT x (spotsN ip) Q1).2.told∧W'.heap[bf]? = some (.cells #[.int .i64 ((x:Nat):Int)] 3 (0,0)))∧KeepsFrom W3.heap.size W W'∧KeepV (fun j=>j=w.heap.size+1∨j=bs∨j=bi) (fun k=>W3.heap.size+2≤k) v SameNum W W')
       (fun ip W'=>NumBad w W' v bs bi V.C.length (foldT x (spotsN ip) Q1)∧KeepsFrom W3.heap.size W W'∧KeepV (fun j=>j=w.heap.size+1∨j=bs∨j=bi) (fun k=>W3.heap.size+2≤k) v SameNum W W')
       (fun ip y W' hs=>by
         have h1:=hs.1.2.1
         rw [spotsN_snoc] at h1
         have h2:=foldT_last h1
         have h3:=(tellSp_ok h2.2).2
         rw [foldT_L,hQ1] at h3
         exact h3)
       (fun s A B row hs hg hr=>⟨⟨NumAt.turned hs.1.1 (by omega) hg hr,hs.1.2.1,hs.1.2.2.1,blk_turn hg hr hs.1.2.2.2 (by omega)⟩,ownFrom_keepsFrom (β:=Unit) hWwc () A B row hs.2.1 hg hr,ownFrom_keepVY (R:=SameNum) SameNum.refl (fun _ _ _ a b=>a.trans b) (β:=Unit) hWwc () A B row hs.2.2 hg hr⟩)
       (fun s A B row hs hg hr=>⟨NumBad.turned hs.1 (by omega) hg hr,ownFrom_keepsFrom (β:=Unit) hWwc () A B row hs.2.1 hg hr,ownFrom_keepVY (R:=SameNum) SameNum.refl (fun _ _ _ a b=>a.trans b) (β:=Unit) hWwc () A B row hs.2.2 hg hr⟩)
       ⟨⟨uh N6,rfl,hsm1,hbf6⟩,hKF6,hK6⟩
       (fun y a' W'=> ∃ bx,W'.heap[bx]? = some (.cells #[.int .i64 ((y.table:Nat):Int),.int .i64 ((y.index:Nat):Int),.int .u16 ((y.number:Nat):Int)] 219 (0,0))∧a'={ tmps:= #[.pointer (some ⟨v,0,none⟩),.pointer (some ⟨w.heap.size,0,none⟩),.pointer (some ⟨w.heap.size+1,0,none⟩),.pointer (some ⟨bs,0,none⟩),.pointer (some ⟨bi,0,none⟩),.pointer (some ⟨bf,0,none⟩),.nilIface,.pointer (some ⟨bx,0,none⟩),undef,.pointer (some ⟨v,0,none⟩),.agg hvv,.int .i64 ((V.C.length:Nat):Int),.agg rc,.pointer (some ⟨v,0,none⟩),.func (.func 173) #[] #[.pointer (some ⟨wr.heap.size,0,none⟩)],.int .i64 ((x:Nat):Int),.int .i64 ((x:Nat):Int),.nilIface,.nilIface,.bool false,undef,undef,undef,undef,.pointer (some ⟨v,0,none⟩),.int .i64 ((x:Nat):Int),.func (.func 174) #[] #[.pointer (some ⟨W5.heap.size,0,none⟩),.pointer (some ⟨W5.heap.size+1,0,none⟩)],spotVal y,undef,undef,undef,undef,undef,undef,undef,undef,undef,undef],defers:=[] })
       (fun y a'' _ A' B' row hs hg hr=>by
         obtain ⟨bx2,h2,h3⟩:=hs
         refine ⟨bx2,?_,h3⟩
         rw [hg.block bx2 (blk_lt h2) (fun e=>by
           obtain ⟨_,o,ho,hc⟩:=hr bx2 e.symm
           rw [h2] at ho
           injection ho with ho
           subst ho
           cases hc)]
         exact h2) ?assign2 ?body2 ?done2 ?stop2
     case assign2=>
       rintro l2 ip y W' K ⟨⟨g1,g4,g5,g6⟩,g2,g3⟩ hK
       have hb:Below W'.heap.size W' (W'.alloc (.cells #[.int .i64 ((y.table:Nat):Int),.int .i64 ((y.index:Nat):Int),.int .u16 ((y.number:Nat):Int)] 219)):=(Below.refl _ _).alloc (Nat.le_refl _) _
       have G1:=hide (g1.later hb)
       have G2:=hide (g2.trans ((KeepsOthers.alloc W' (.cells #[.int .i64 ((y.table:Nat):Int),.int .i64 ((y.index:Nat):Int),.int .u16 ((y.number:Nat):Int)] 219)).from _))
       have G3:=hide (g3.trans (fun _ _ _ a b=>a.trans b) (KeepV.below SameNum.refl hb))
       have G4:=hide g4
       have G5:=hide g5
       have G6:=hide ((hb.block _ (blk_lt g6)).trans g6)
       clear g1 g2 g3 g4 g5 g6
       unfold spotVal
       gi_wp2
       exact hK _ _ ((KeepsOthers.alloc _ _).from _) (KeepV.below (R:=EqV) (fun _=>rfl) hb) ⟨⟨uh G1,uh G4,uh G5,uh G6⟩,uh G2,uh G3⟩ ⟨_,heap_alloc_new _ _,rfl⟩
     case done2=>
       rintro ip W' hS ⟨⟨g1,g4,g5,_⟩,g2,g3⟩
       have hS':spotsN ip=toldFrom V.C x 32 0:=by rw [hS];exact free_toN V x
       rw [hS',← htp] at g1 g4 g5
       have hpl: ¬ (pre++[(⟨x,hx⟩:UM fun t=>t<65536)]).length=0:=by simp
       have G1:Hid (NumAt w W' v bs bi .nilIface V.C.length (foldF (valsM (pre++[⟨x,hx⟩])) 0 R).2.told (if (pre++[(⟨x,hx⟩:UM fun t=>t<65536)]).length=0 then 0 else 5)):=by rw [if_neg hpl];exact g1
       have G0:=hide g1
       have G2:=hide g2
       have G3:=hide g3
       have G4:=hide g4
       have G5:=hide g5
       clear g1 g2 g3 g4 g5 hS hS' htp
       gi_wp2
       repeat (first | exact uh G0 | exact uh G1 | exact uh G2 | exact uh G3 | exact uh G4 | exact uh G5 | (rw [if_neg (by simp)];exact uh G0) | refine ⟨?_,?_⟩)
     case stop2=>
       rintro ip W' hSp ⟨g1,g2,g3⟩
       have hpre:spotsN ip <+: toldFrom V.C x 32 0:=by
         rw [← free_toN V x]
         obtain ⟨rr,hrr⟩:=hSp
         exact ⟨spotsN rr,by rw [← hrr];simp [spotsN]⟩
       have hfe:=foldT_pre (R:=Q1) (first:=x) hpre g1.1
       rw [← hfe,← htp] at g1
       have G1:=hide g1
       have G2:=hide g2
       have G3:=hide g3
       clear g1 g2 g3 hSp hpre hfe htp
       gi_wp2
       repeat (first | exact uh G1 | exact uh G2 | exact uh G3 | refine ⟨?_,?_⟩)
     case body2=>
       rintro l2 ip y a' W' hl2 _ ⟨⟨g1,g4,g5,g6⟩,g2,g3⟩ ⟨bx,hbx,rfl⟩ hip
       have hV':=(uh H).below g1.below
       have hn:=y.hn
       have hQ2:(foldT x (spotsN ip) Q1).2.L=V.C:=by rw [foldT_L];exact hQ1
       have hsb:foldT x (spotsN (ip++[y])) Q1=tellSp (foldT x (spotsN ip) Q1).2 x (toNs y):=by rw [spotsN_snoc,foldT_snoc x (spotsN ip) (toNs y) Q1 g4]
       have c0:W'.cell? ⟨bx,0,none⟩=some (.int .i64 ((y.table:Nat):Int)):=(cell_blk hbx 0).trans rfl
       have c1:W'.cell? ⟨bx,1,none⟩=some (.int .i64 ((y.index:Nat):Int)):=(cell_blk hbx 1).trans rfl
       have c2:W'.cell? ⟨bx,2,none⟩=some (.int .u16 ((y.number:Nat):Int)):=(cell_blk hbx 2).trans rfl
       have cf:W'.cell? ⟨bf,0,none⟩=some (.int .i64 ((x:Nat):Int)):=(cell_blk g6 0).trans rfl
       generalize (foldT x (spotsN ip) Q1).2=Q2 at*
       have hblt:=blk_lt g1.bin
       by_cases hno:spotNo Q2.told V.C.length x y.table y.index y.number=true
       · have hfa:=tellSp_refuses (R:=Q2) (first:=x) (s:=toNs y) (by rw [hQ2];exact hno)
         have hbd:=tellSp_bad hfa
         rw [← hsb] at hfa hbd
         have Ht:=hide (spot_no W' bs V.C.length Q2.told x y.table y.index y.number g1.roles ((uh HG).below g1.below) hC hn g5 hno)
         have G1:=hide g1
         have G2:=hide g2
         have G3:=hide g3
         have Hfa:=hide hfa
         have Hbd:=hide hbd
         have HV:=hide hV'
         have Hbx:=hide hbx
         clear g1 g2 g3 g4 g5 g6 hsb hfa hbd hV' hQ2 hHA
         generalize spotVal y=sv at*
         gi_wp2_with fail
         refine ⟨trivial,(CallsIn.inRound l2 (callsIn_wide.2 (uh Ht))).mono ?_⟩
         rintro e w5 ⟨⟨z,⟨tz,vz,rfl⟩,rfl⟩,hb7⟩
         have N7:=(uh G1).later hb7
         have c3:w5.cell? ⟨w.heap.size+1,0,none⟩=some .nilIface:=(cell_blk N7.br 0).trans rfl
         have f3:=frozen_blk N7.br
         have c7:w5.cell? ⟨bx,0,none⟩=some (.int .i64 ((y.table:Nat):Int)):=(cell_blk ((hb7.block _ (blk_lt (uh Hbx))).trans (uh Hbx)) 0).trans rfl
         have hV7:=(uh H).below N7.below
         have hex:NumBad w (w5.setCell ⟨w.heap.size+1,0,none⟩ (faultV y.table (.iface tz vz))) v bs bi V.C.length (foldT x (spotsN (ip++[y])) Q1):=
           ⟨uh Hfa,y.table,_,_,_,uh Hbd,⟨_,_,rfl⟩,N7.answer _⟩
         have Hex:=hide hex
         have KA:KeepV (fun j=>j=w.heap.size+1∨j=bs∨j=bi) (fun k=>wc.heap.size+1≤k) v EqV w5 (w5.setCell ⟨w.heap.size+1,0,none⟩ (faultV y.table (.iface tz vz))):=
           KeepV.own hV7 (Kept.only _ _ _ _) (by rintro j rfl;exact ⟨Or.inl rfl,nf _ (by omega),_,N7.br,rfl⟩) rfl
         have KB:KeepV (fun j=>j=w.heap.size+1∨j=bs∨j=bi) (fun k=>W3.heap.size+2≤k) v SameNum w5 (w5.setCell ⟨w.heap.size+1,0,none⟩ (faultV y.table (.iface tz vz))):=
           KeepV.own hV7 (Kept.only _ _ _ _) (by rintro j rfl;exact ⟨Or.inl rfl,nf _ (by omega),_,N7.br,rfl⟩) (SameNum.refl _)
         have K1:=hide (KeepV.trans (R:=EqV) (fun _ _ _ a b=>Eq.trans a b) (KeepV.below (R:=EqV) (fun _=>rfl) hb7) KA)
         have K2:=hide ((uh G3).trans (fun _ _ _ a b=>a.trans b) ((KeepV.below SameNum.refl hb7).trans (fun _ _ _ a b=>a.trans b) KB))
         have hkb: ∀ B,KeepsFrom B W' w5:=fun B=>⟨hb7.size,fun k o _ hk _=>(hb7.block k (blk_lt hk)).trans hk⟩
         have F1:=hide ((hkb wc.heap.size).trans ((KeepsOthers.setCell w5 ⟨w.heap.size+1,0,none⟩ (faultV y.table (.iface tz vz))).from wc.heap.size))
         have F2:=hide ((uh G2).trans ((hkb W3.heap.size).trans ((KeepsOthers.setCell w5 ⟨w.heap.size+1,0,none⟩ (faultV y.table (.iface tz vz))).from W3.heap.size)))
         clear hex KA KB hkb N7 hV7 hb7 Ht G1 G2 G3 Hfa Hbd c0 c1 c2 cf
         gi_wp2
         repeat (first | exact uh Hex | exact uh F1 | exact uh F2 | exact uh K1 | exact uh K2 | refine ⟨?_,?_⟩)
       · have hno:spotNo Q2.told V.C.length x y.table y.index y.number=false:=by simpa using hno
         obtain ⟨htr,htd⟩:=tellSp_takes (R:=Q2) (first:=x) (s:=toNs y) (by rw [hQ2];exact hno)
         rw [← hsb] at htr htd
         have Ht:=hide (spot_yes W' bs V.C.length Q2.told x y.table y.index y.number g1.roles hC hn g5 hno)
         have hsm2:Small (foldT x (spotsN (ip++[y])) Q1).2.told:=by
           rw [htd]
           refine g5.set _ ?_
           unfold spotKind
           split <;> decide
         have G1:=hide g1
         have G2:=hide g2
         have G3:=hide g3
         have G6:=hide g6
         have Htr:=hide htr
         have Htd:=hide htd
         have Hsm:=hide hsm2
         have HV:=hide hV'
         clear g1 g2 g3 g4 g5 g6 hsb htr htd hV' hQ2 hHA hsm2 hbx
         generalize spotVal y=sv at*
         gi_wp2_with fail
         refine ⟨trivial,(CallsIn.inRound l2 (callsIn_wide.2 (uh Ht))).mono ?_⟩
         rintro e w5 ⟨rfl,hr7,hk7⟩
         have N7:=(uh G1).role hr7 hk7
         rw [show Q2.told.set (y.number%32768) (spotKind x y.table)=(foldT x (spotsN (ip++[y])) Q1).2.told from (uh Htd).symm] at N7
         have KA:KeepV (fun j=>j=w.heap.size+1∨j=bs∨j=bi) (fun k=>wc.heap.size+1≤k) v EqV W' w5:=
           KeepV.own (uh HV) hk7 (by rintro j rfl;exact ⟨Or.inr (Or.inl rfl),nf _ (by omega),_,(uh G1).roles.blk,rfl⟩) rfl
         have KB:KeepV (fun j=>j=w.heap.size+1∨j=bs∨j=bi) (fun k=>W3.heap.size+2≤k) v SameNum W' w5:=
           KeepV.own (uh HV) hk7 (by rintro j rfl;exact ⟨Or.inr (Or.inl rfl),nf _ (by omega),_,(uh G1).roles.blk,rfl⟩) (SameNum.refl _)
         have K1:=hide KA
         have K2:=hide ((uh G3).trans (fun _ _ _ a b=>a.trans b) KB)
         have hkb: ∀ B,bs<B→KeepsFrom B W' w5:=fun B hB=>⟨hk7.size,fun k o hB2 hk _=>hk7.blk (by omega) hk⟩
         have F1:=hide (hkb wc.heap.size (by omega))
         have F2:=hide ((uh G2).trans (hkb W3.heap.size (by omega)))
         have B7:=hide (hk7.blk (by omega) (uh G6))
         have N7:=hide N7
         clear KA KB hkb hr7 hk7 Ht G1 G2 G3 G6 Htd c0 c1 c2 cf
         gi_wp2
         repeat (first | exact uh N7 | exact uh Htr | exact uh Hsm | exact uh B7 | exact uh F1 | exact uh F2 | exact uh K1 | exact uh K2 | refine ⟨?_,?_⟩)
end Go.Proofs.YtknjjjenklfeoaaGreatDoor
