import Derived.Test.YtknjjjenklfeoaaGreatDoorT08
import Derived.RangeFuncNested
import Derived.RangeFuncBound
import Derived.RangeFuncCalls
import Derived.RangeFuncLeaves
import Derived.Shelf.Abstract
import Derived.Shelf.RegionOpen
import Derived.WalkKit
import Derived.OwnWalkIn
import Derived.TacticsInMore
import Derived.LoopNIn
import Derived.LoopIn
set_option maxHeartbeats 8000000
set_option maxRecDepth 100000
namespace Go.Proofs.YtknjjjenklfeoaaGreatDoor
open Go.RowKit Go.Shelf
attribute [local go_sem ↓] loadVar_clus storeVar_clus zeroValue_clus loadVar_tab storeVar_tab zeroValue_tab loadVar_cnt storeVar_cnt zeroValue_cnt loadVar_head storeVar_head zeroValue_head build_head buildSlice_clus loadVar_wr storeVar_wr zeroValue_wr build_wr buildSlice_wr equalIn_clus loadVar_place storeVar_place zeroValue_place build_place
attribute [local go_sem] run_loadClus run_storeClus run_zeroClus run_storeClus_new run_loadClus_new zc_length run_loadTab run_storeTab run_zeroTab run_storeTab_new run_loadTab_new zt_length run_loadCnt run_storeCnt run_zeroCnt run_storeCnt_new run_loadCnt_new zk_length run_loadHead run_storeHead run_zeroHead run_storeHead_new run_bHead HasAt_drew cellsAt_drew HasAt_drewN cellsAt_drewN run_bsClus run_loadWr run_zeroWr run_storeWr run_storeWr_new run_bWr0 run_bsWr run_loadPlace run_storePlace run_zeroPlace run_storePlace_new run_bPlace
attribute [local go_sem] field_head1 field_head0 Oper.semAt_some
theorem Env.turned {w W W':World} {v:Nat} {Cv Lv C1 L1:Value} {V:VolR} {bs:List (Nat × Obj)} {row:Option Nat} {B:Nat} (h:Env w W v Cv Lv C1 L1 V bs) (hB:w.heap.size≤B) (hbs: ∀ x ∈ bs,x.2.isCells=true)
   (hg:W.grownBy W' row) (hr: ∀ r,row=some r→B≤r∧ ∃ o:Obj,W.heap[r]? = some o∧o.isCells=false):Env w W' v Cv Lv C1 L1 V bs:=by
 have hk:Kept (fun k=>row=some k) W W':=⟨hg.os,hg.tape,hg.output,hg.size,fun k hk hs=>hg.block k hk (fun e=>hs e.symm)⟩
 have hn: ∀ k o,W.heap[k]? = some o→o.isCells=true→ ¬ (row=some k):=by
   intro k o ho hc e
   obtain ⟨_,o',ho',hc'⟩:=hr k e
   rw [ho] at ho'
   injection ho' with ho'
   subst ho'
   rw [hc] at hc'
   cases hc'
 have hf: ∀ k,foot v C1 L1 k→ ¬ (row=some k):=by
   intro k hf
   obtain ⟨q,hq,hqc⟩:=h.at'.cells hf
   exact hn k q hq hqc
 refine ⟨h.step.own hk (fun k e=>⟨by have:=(hr k e).1;omega,fun hx=>hf k hx e⟩),fun x hx=> ?_⟩
 obtain ⟨h1,h2,h3⟩:=h.objs x hx
 exact ⟨hk.blk (hn _ _ h1 (hbs x hx)) h1,h2,h3⟩
theorem Env.n0 {w W:World} {v b:Nat} {o:Obj} {Cv Lv C1 L1:Value} {V:VolR} {bs:List (Nat × Obj)} (h:Env w W v Cv Lv C1 L1 V ((b,o) :: bs)): ¬ foot v C1 L1 b:=(h.objs (b,o) (by simp)).2.2
theorem Env.n1 {w W:World} {v a b:Nat} {p o:Obj} {Cv Lv C1 L1:Value} {V:VolR} {bs:List (Nat × Obj)} (h:Env w W v Cv Lv C1 L1 V ((a,p) :: (b,o) :: bs)): ¬ foot v C1 L1 b:=(h.objs (b,o) (by simp)).2.2
theorem VStep.from {A B:World} {v:Nat} {C1 L1 C2 L2:Value} {V1 V2:VolR} (h:VolAt A v C1 L1 V1) (hs:VStep A B v C1 L1 C2 L2 V2) (D:Nat):KeepsFrom D A B:=
 ⟨hs.kept.size,fun _ _ _ hk ho=>hs.kept.blk (h.notCells hk ho) hk⟩
def Changes (cg:Nat) (clb:Array Value) (cbs:List (Nat × Obj)) (ch:Nat→Nat) (M:Nat):Prop:=
 ∀ W n,(∀ x ∈ cbs,W.heap[x.1]? = some x.2)→n<65536→n≠0→6≤n%32768∧n%32768<M→Calls Tryz.prog cg (#[.int .u16 (n:Nat)]++clb) W fun e W'=>e= .returned (.int .u16 (ch n:Nat))∧W'=W
def InR (V:VolR) (c:Nat):Prop:=6≤c∧c<V.C.length
def TabOK (V:VolR) (t:Nat):Prop:=InR V t∧NumsOK (InR V) V.C t
theorem SameNum.tabOK {A B:VolR} (h:SameNum A B) {t:Nat} (ht:TabOK A t):TabOK B t:=by
 have e:InR B=InR A:=by funext c;unfold InR;rw [h.len]
 unfold TabOK
 rw [e]
 exact ⟨ht.1,h.ok ht.2⟩
theorem renumV_same {ch:Nat→Nat} (hch:Marks ch): ∀ (ts:List Nat) (V:VolR),(∀ t ∈ ts,TabOK V t)→SameNum V (renumV ch V ts)
 | [],V,_=>SameNum.refl V
 | t :: ts,V,h=>by
   have ht:=h t (by simp)
   have h1:=renumTab_same hch ht.1.1 ht.1.2 (fun c hc=>hc.1) ht.2
   exact h1.trans (renumV_same hch ts (renumTab ch V t) (fun x hx=>h1.tabOK (h x (by simp [hx]))))
theorem renumV_lenL (ch:Nat→Nat): ∀ (ts:List Nat) (V:VolR),(renumV ch V ts).L.length≤V.L.length+2*ts.length
 | [],_=>by simp [renumV]
 | t :: ts,V=>by
   have h1:=renumTab_lenL ch V t
   have h2:=renumV_lenL ch ts (renumTab ch V t)
   show (renumV ch (renumTab ch V t) ts).L.length≤_
   simp only [List.length_cons]
   omega
theorem tabsOf_len (V:VolR) (first:Nat):(tabsOf V first).length≤33:=by
 unfold tabsOf toldBy
 have h:=List.length_filter_le (· != 0) (numsOf (cl V.C first))
 rw [numsOf_length] at h
 simp only [List.length_cons,List.length_map]
 omega
theorem renumber_in (w:World) (v:Nat) (Cv Lv:Value) (V:VolR) (h:VolAt w v Cv Lv V) (first:Nat) (hf:TabOK V first) (hT:NumsOK (TabOK V) V.C first) (hC:V.C.length≤256) (hL:V.L.length≤800000000)
   (cg:Nat) (clb:Array Value) (cbs:List (Nat × Obj)) (ch:Nat→Nat) (hch:Marks ch) (hcg:Changes cg clb cbs ch V.C.length) (ec: ∀ args w,(callFunc cg args).run Tryz.prog w= .ok (.enter cg args) w) (hcb: ∀ x ∈ cbs,w.heap[x.1]? = some x.2∧ ¬ foot v Cv Lv x.1):
   CallsIn Fence.wide 100 Tryz.prog 146 #[.pointer (some ⟨v,0,none⟩),.int .i64 (first:Nat),.func (.func cg) #[] clb] w fun e w'=>e= .returned (.tuple #[])∧ ∃ C1 L1,VStep w w' v Cv Lv C1 L1 (renumV ch V (tabsOf V first)):=by
 have E0:=((Env.start h).lay (.cells #[.pointer (some ⟨v,0,none⟩)] 82)).lay (.cells #[.func (.func cg) #[] clb] 206)
 have E2:=(E0.lay (.cells #[.pointer (some ⟨v,0,none⟩)] 82)).lay (.cells #[.int .i64 (first:Nat)] 3)
 simp only [World.size_alloc] at E0 E2
 have c0:((w.alloc (.cells #[.pointer (some ⟨v,0,none⟩)] 82)).alloc (.cells #[.func (.func cg) #[] clb] 206)).cell? ⟨w.heap.size,0,none⟩=some (.pointer (some ⟨v,0,none⟩)):=(cell_blk E0.o1 0).trans rfl
 have Hm:=hide (tables_make ((w.alloc (.cells #[.pointer (some ⟨v,0,none⟩)] 82)).alloc (.cells #[.func (.func cg) #[] clb] 206)) v first)
 have E2:=hide E2
 have H:=hide h
 clear h E0
 refine callsIn_of_wp_marks Tryz.func146 rfl trivial ?_ rfl
 simp only [Tryz.ntmps146,List.size_toArray,List.length_cons,List.length_nil,Nat.reduceAdd,Nat.reduceSub,Array.replicate_succ,Array.replicate_zero,List.push_toArray,List.append_toArray,List.nil_append,List.cons_append]
 gi_wp2_with fail
 refine ⟨trivial,(callsIn_wide.2 (uh Hm)).mono ?_⟩
 rintro e W1 ⟨rfl,rfl⟩
 simp only [World.size_alloc]
 gi_wp2_with fail
 clear c0 Hm
 generalize (((w.alloc (.cells #[.pointer (some ⟨v,0,none⟩)] 82)).alloc (.cells #[.func (.func cg) #[] clb] 206)).alloc (.cells #[.pointer (some ⟨v,0,none⟩)] 82)).alloc (.cells #[.int .i64 (first:Nat)] 3)=W2 at*
 have hs2:w.heap.size≤W2.heap.size:=(uh E2).step.kept.size
 have hTA:=tables_all (Pc:=TabOK V) 99 (by omega) (fun _=>False) v (w.heap.size+1+1) (w.heap.size+1+1+1) first (W2.heap.size+2) V Cv Lv W2 (uh E2).at' (uh E2).o1 (uh E2).o0 id id (uh E2).n0 (uh E2).n1 (fun _ h=>False.elim h) hf.1.2 hf hT
 have E3:=hide ((uh E2).sub (cs:=[(w.heap.size+1,.cells #[.func (.func cg) #[] clb] 206 (0,0)),(w.heap.size,.cells #[.pointer (some ⟨v,0,none⟩)] 82 (0,0))]) (by simp))
 clear E2
 refine range_all (by omega) (gf:=181) (lb:= #[.pointer (some ⟨w.heap.size+1+1+1,0,none⟩),.pointer (some ⟨w.heap.size+1+1,0,none⟩)]) rfl (enters_of Tryz.func181 (by kernel_rfl) rfl) hTA
   (fun A B C h k=>KeepV.trans (R:=SameNum) (fun _ _ _ a b=>a.trans b) h k) (fun W o o' hl hc=>KeepV.turn SameNum.refl W _ o o' hl hc (by omega)) (Below.refl _ _) (fun _=>rfl)
   (fun pre W'=> ∃ C1 L1,Env w W' v Cv Lv C1 L1 (renumV ch V (pre.map (·.1))) [(w.heap.size+1,.cells #[.func (.func cg) #[] clb] 206 (0,0)),(w.heap.size,.cells #[.pointer (some ⟨v,0,none⟩)] 82 (0,0))])
   (fun _ _ _ _ hs hg hr=>by obtain ⟨C1,L1,hE⟩:=hs;exact ⟨C1,L1,Env.turned hE hs2 (by simp [Obj.isCells]) hg hr⟩)
   ⟨Cv,Lv,uh E3⟩
   (fun x a' _=>a'={ tmps:= #[.pointer (some ⟨v,0,none⟩),.int .i64 (first:Nat),.func (.func cg) #[] clb,.pointer (some ⟨w.heap.size,0,none⟩),undef,.pointer (some ⟨w.heap.size+1,0,none⟩),.int .i64 ((x.1:Nat):Int),undef,undef,.pointer (some ⟨v,0,none⟩),.int .i64 (first:Nat),.func (.func 181) #[] #[.pointer (some ⟨w.heap.size+1+1+1,0,none⟩),.pointer (some ⟨w.heap.size+1+1,0,none⟩)],.int .i64 ((x.1:Nat):Int),undef,undef,undef,undef,undef,undef,undef,undef,undef,undef,undef,undef,undef,undef,undef,undef,undef,undef,undef,undef,undef],defers:=[] })
   (fun _ _ _ _ _ _ hs _ _=>hs)
   ?assign ?body ?done
 case assign=>
   rintro l pre x W' K hi hK
   gi_wp2
   exact hK _ _ (KeepsFrom.refl _ _) (KeepV.below SameNum.refl (Below.refl _ _)) hi rfl
 case done=>
   rintro D ys W' hD hS ⟨C1,L1,hE⟩ hK
   gi_wp2
   refine ⟨by simp,.inl ⟨_,_,rfl,run_takeDeferred hK,?_⟩⟩
   have hg:=grownBy_putObj' W' D (.deferred none)
   have hk:Kept (fun k=>k=D) W' (W'.putObj D (.deferred none)):=⟨hg.os,hg.tape,hg.output,hg.size,fun k hk hs=>hg.block k hk (fun e=>hs (by injection e))⟩
   refine ⟨_,results_none rfl _ _ _,rfl,C1,L1,?_⟩
   rw [← hS]
   exact hE.step.own hk (by rintro k rfl;exact ⟨by omega,hE.at'.notCells hK rfl⟩)
 case body=>
   rintro l pre x a' W hl ⟨r,hr⟩ ⟨C1,L1,hE⟩ rfl hlen
   have hall: ∀ t ∈ pre.map (·.1),TabOK V t:=by
     intro t ht
     obtain ⟨y,_,rfl⟩:=List.mem_map.1 ht
     exact y.2
   have hS1:=renumV_same hch (pre.map (·.1)) V hall
   have hlL:=renumV_lenL ch (pre.map (·.1)) V
   rw [List.length_map] at hlL
   have hx1:=hS1.tabOK x.2
   have hsn2:renumV ch V (pre.unattach++[x.1])=renumTab ch (renumV ch V (pre.map (·.1))) x.1:=renumV_snoc ch V (pre.map fun y:UM (TabOK V)=>y.1) x.1
   have hS2:=renumTab_same hch hx1.1.1 hx1.1.2 (fun c hc=>hc.1) hx1.2
   have hlen1:(renumV ch V (pre.map (·.1))).C.length=V.C.length:=hS1.len
   generalize renumV ch V (pre.map (·.1))=V1 at*
   obtain ⟨x,hxo⟩:=x
   dsimp only at*
   have c0:W.cell? ⟨w.heap.size,0,none⟩=some (.pointer (some ⟨v,0,none⟩)):=(cell_blk hE.o1 0).trans rfl
   have Ht:=hide (table_vol W v C1 L1 V1 hE.at' x hx1.1.2)
   have hTl:=numsOf_length (cl V1.C x)
   have HE:=hide hE
   gi_wp2_with fail
   refine ⟨trivial,(CallsIn.inRound l (callsIn_wide.2 (uh Ht))).mono ?_⟩
   rintro e Wa ⟨rfl,hba⟩
   have F1:=((Env.start hE.at').later hba).lay (.cells (tv (numsOf (cl V1.C x))).toArray 169)
   have c1:(Wa.alloc (.cells (tv (numsOf (cl V1.C x))).toArray 169)).cell? ⟨w.heap.size,0,none⟩=some (.pointer (some ⟨v,0,none⟩)):=(cell_blk (F1.step.kept.blk hE.n1 hE.o1) 0).trans rfl
   have Hm:=hide (numbers_make (Wa.alloc (.cells (tv (numsOf (cl V1.C x))).toArray 169)) v x)
   have F2:=(F1.lay (.cells #[.pointer (some ⟨v,0,none⟩)] 82)).lay (.cells #[.int .i64 (x:Nat)] 3)
   simp only [World.size_alloc] at F2
   have F2:=hide F2
   clear hE F1 Ht
   gi_wp2_with fail
   refine ⟨trivial,(CallsIn.inRound l (callsIn_wide.2 (uh Hm))).mono ?_⟩
   rintro e Wc ⟨rfl,rfl⟩
   simp only [World.size_alloc]
   gi_wp2_with fail
   clear Hm c1 c0
   generalize hWc:((Wa.alloc (.cells (tv (numsOf (cl V1.C x))).toArray 169)).alloc (.cells #[.pointer (some ⟨v,0,none⟩)] 82)).alloc (.cells #[.int .i64 (x:Nat)] 3)=Wc at*
   have hsz:Wc.heap.size=Wa.heap.size+3:=by rw [← hWc];simp
   have hWa:W.heap.size≤Wa.heap.size:=hba.size
   have hr':Wc.heap[l]? = some (.loop r):=(uh F2).step.kept.blk ((uh HE).at'.notCells hr rfl) hr
   have F3:=hide ((uh F2).sub (cs:=[(Wa.heap.size,.cells (tv (numsOf (cl V1.C x))).toArray 169 (0,0))]) (by simp))
   have hNS:=numbers_stops (Pc:=InR V1) 97 (by omega) (fun k=>k=Wa.heap.size) (fun _=>False) SameNum v (Wa.heap.size+1) (Wa.heap.size+1+1) x V1 C1 L1 Wc (uh F2).at' (uh F2).o1 (uh F2).o0 (by omega) (uh F2).n0 hx1.1.2 hx1.2
   clear hWc F2 hba
   refine wpIn_rangeFunc_ownN (l₀:=l) (r₀:=r) rfl hr' (by omega) (gf:=182) (lb:= #[.pointer (some ⟨Wa.heap.size+1,0,none⟩),.pointer (some ⟨Wa.heap.size+1+1,0,none⟩)]) rfl trivial (enters_of Tryz.func182 (by kernel_rfl) rfl)
     (hNS.inRound l) (fun h k=>KeepV.trans (R:=SameNum) (fun _ _ _ a b=>a.trans b) h k) (fun W l o o' _ hl hc _=>KeepV.turn SameNum.refl W l o o' hl hc id) (Below.refl _ _) (fun _=>rfl)
     (fun pre' W'=>Env W W' v C1 L1 C1 L1 V1 [(Wa.heap.size,.cells (tv (applySpots ch (numsOf (cl V1.C x)) pre')).toArray 169 (0,0))])
     (fun _ _ _=>False)
     (fun _ _ _ _ hs hg hr=>Env.turned hs (by omega) (by simp [Obj.isCells]) hg hr)
     (fun _ _ _ _ _ hs _ _=>hs)
     (uh F3)
     (fun s a'' W'=> ∃ bx,W'.heap[bx]? = some (.cells #[.int .i64 ((s.table:Nat):Int),.int .i64 ((s.index:Nat):Int),.int .u16 ((s.number:Nat):Int)] 219 (0,0))∧a''={ tmps:= #[.pointer (some ⟨v,0,none⟩),.int .i64 (first:Nat),.func (.func cg) #[] clb,.pointer (some ⟨w.heap.size,0,none⟩),undef,.pointer (some ⟨w.heap.size+1,0,none⟩),.int .i64 (x:Nat),.pointer (some ⟨Wa.heap.size,0,none⟩),.pointer (some ⟨bx,0,none⟩),.pointer (some ⟨v,0,none⟩),.int .i64 (first:Nat),.func (.func 181) #[] #[.pointer (some ⟨w.heap.size+1+1+1,0,none⟩),.pointer (some ⟨w.heap.size+1+1,0,none⟩)],.int .i64 (x:Nat),.pointer (some ⟨v,0,none⟩),.int .i64 (x:Nat),.agg (tv (numsOf (cl V1.C x))).toArray,.pointer (some ⟨v,0,none⟩),.int .i64 (x:Nat),.func (.func 182) #[] #[.pointer (some ⟨Wa.heap.size+1,0,none⟩),.pointer (some ⟨Wa.heap.size+1+1,0,none⟩)],spotVal s,undef,undef,undef,undef,undef,undef,undef,undef,undef,undef,undef,undef,undef,undef],defers:=[] })
     (fun s a'' _ A' B' row hs hg hr=>by
       obtain ⟨bx,h2,h3⟩:=hs
       refine ⟨bx,?_,h3⟩
       rw [hg.block bx (blk_lt h2) (fun e=>by
         obtain ⟨_,o,ho,hc⟩:=hr bx e.symm
         rw [h2] at ho
         injection ho with ho
         subst ho
         cases hc)]
       exact h2)
     ?assign2 ?body2 ?done2 ?stop2
   case assign2=>
     rintro l2 pre' s W' K hF hK
     unfold spotVal
     gi_wp2
     exact hK _ _ ((KeepsOthers.alloc _ _).from _) (KeepV.below SameNum.refl ((Below.refl _ _).alloc (Nat.le_refl _) _)) (hF.alloc _) ⟨_,heap_alloc_new _ _,rfl⟩
   case stop2=>
     rintro c pre' W' _ h
     exact h.elim
   case body2=>
     rintro l2 pre' sp a'' W' hl2 _ hF ⟨bx,hbx,rfl⟩ hlen2
     have d0:W'.cell? ⟨bx,1,none⟩=some (.int .i64 ((sp.index:Nat):Int)):=(cell_blk hbx 1).trans rfl
     have d1:W'.cell? ⟨bx,2,none⟩=some (.int .u16 ((sp.number:Nat):Int)):=(cell_blk hbx 2).trans rfl
     have d2:W'.cell? ⟨w.heap.size+1,0,none⟩=some (.func (.func cg) #[] clb):=(cell_blk (hF.step.kept.blk (uh HE).n0 (uh HE).o0) 0).trans rfl
     have hcbW: ∀ y ∈ cbs,W'.drew.heap[y.1]? = some y.2:=by
       intro y hy
       obtain ⟨y1,y2⟩:=hcb y hy
       have y3: ¬ foot v C1 L1 y.1:=fun hf'=>((uh HE).step.new _ hf').elim y2 (by have:=blk_lt y1;omega)
       exact hF.step.kept.blk y3 ((uh HE).step.kept.blk y2 y1)
     have Hch:=hide (hcg W'.drew sp.number hcbW sp.hn sp.h0 (by rw [← hlen1];exact sp.hc))
     have hal:(applySpots ch (numsOf (cl V1.C x)) pre').length=32:=by rw [applySpots_length,hTl]
     have hap:=applySpots_snoc ch (numsOf (cl V1.C x)) pre' sp
     generalize applySpots ch (numsOf (cl V1.C x)) pre'=T1 at*
     have hii:sp.index<32:=sp.hi
     have e1:W'.drew.cell? ⟨Wa.heap.size,sp.index,none⟩=some (.int .u16 ((T1.getD sp.index 0:Nat):Int)):=by
       rw [cell_blk hF.drew.o0,List.getElem?_toArray,tv_get _ _ (by omega)]
     have f1:=frozen_blk hF.drew.o0
     have F5:=hF.drew.put (by simp) (Kept.only _ Wa.heap.size sp.index (.int .u16 (ch sp.number:Nat))) (heap_setCell_same _ _ _ _ _ _ _ hF.drew.o0)
     rw [List.setIfInBounds_toArray,← tv_set,← hap] at F5
     have K5:KeepV (fun k=>k=Wa.heap.size) (fun _=>False) v SameNum W' (W'.drew.setCell ⟨Wa.heap.size,sp.index,none⟩ (.int .u16 (ch sp.number:Nat))):=
       KeepV.own hF.at' ((Kept.refl (fun k=>k=Wa.heap.size) W').drew.setCell (p:=⟨Wa.heap.size,sp.index,none⟩) (Or.inl rfl) _) (by rintro k rfl;exact ⟨rfl,hF.n0,_,hF.o0,rfl⟩) (SameNum.refl _)
     have HKF:Hid (KeepsFrom Wc.heap.size W' (W'.setCell ⟨Wa.heap.size,sp.index,none⟩ (.int .u16 (ch sp.number:Nat))).drew):=⟨((KeepsOthers.setCell W' ⟨Wa.heap.size,sp.index,none⟩ (.int .u16 (ch sp.number:Nat))).from Wc.heap.size).size,((KeepsOthers.setCell W' ⟨Wa.heap.size,sp.index,none⟩ (.int .u16 (ch sp.number:Nat))).from Wc.heap.size).same⟩
     have F5:=hide F5
     have K5:=hide K5
     have hsi:(sp.index:Int)<32:=by omega
     clear hF hbx hap hcbW hcg hcb hch hTA hNS hall hS1 hS2 hsn2 hr' hr hlL hx1 hT hf hlen hlen2 hl hl2 HE H E3 F3 hlen1 hL hC hs2 hsz hWa hTl
     generalize sp.index=idx at*
     generalize ch sp.number=n2 at*
     generalize sp.number=nn at*
     generalize spotVal sp=sv at*
     generalize T1.getD idx 0=old at*
     gi_wp2
     gi_region_with (refine ⟨trivial,(CallsIn.inRound l2 (CallsIn.inRound l (callsIn_wide.2 (uh Hch)))).mono ?_⟩
                     rintro e w3 ⟨rfl,rfl⟩)
     all_goals
       gi_wp2
       exact ⟨uh HKF,uh K5,uh F5⟩
   case done2=>
     intro ys W' hys hF
     have hsp:applySpots ch (numsOf (cl V1.C x)) ys=chgT ch (numsOf (cl V1.C x)):=by
       have e:ys=spots V1 x hx1.2:=hys
       rw [e]
       exact applySpots_all ch x _ hx1.2 hTl
     rw [hsp] at hF
     clear hys
     have hrt:renumTab ch V1 x=putV V1 x (bytesOf (chgT ch (numsOf (cl V1.C x)))):=rfl
     have hcl:(chgT ch (numsOf (cl V1.C x))).length=32:=by rw [chgT_length,hTl]
     have hclt:=chgT_lt hch (fun c hc=>hc.1) hx1.2
     have c0:W'.drew.cell? ⟨w.heap.size,0,none⟩=some (.pointer (some ⟨v,0,none⟩)):=(cell_blk (hF.step.kept.blk (uh HE).n1 (uh HE).o1) 0).trans rfl
     have c0':W'.cell? ⟨w.heap.size,0,none⟩=some (.pointer (some ⟨v,0,none⟩)):=c0
     have l1:=blk_has hF.drew.o0 (n:=32) (by rw [tv_length,hcl])
     have l2:=blk_cells hF.drew.o0 (n:=32) (by rw [tv_length,hcl])
     have Hp:=hide (tableCluster_any W'.drew _ hcl hclt)
     have hbl:=bytesOf_length (chgT ch (numsOf (cl V1.C x)))
     have Hpu:Hid (∀ W C1 L1,VolAt W v C1 L1 V1→_):=fun W C1 L1 hW=>put_any W v C1 L1 V1 hW x (by have:=hx1.1.2;omega) (bytesOf (chgT ch (numsOf (cl V1.C x)))) hbl (by omega) (by omega)
     have HF:=hide hF
     clear hF hsp hcg hcb hTA hNS hall hS1 hr' hr hlL hT hf hlen hl H E3 F3 hlen1 hclt hch ec
     generalize bytesOf (chgT ch (numsOf (cl V1.C x)))=c at*
     generalize chgT ch (numsOf (cl V1.C x))=T2 at*
     gi_wp2
     gi_region_with (first
       | (refine ⟨trivial,?_⟩
          gi_at_call 163
          refine (CallsIn.inRound l (callsIn_wide.2 (uh Hp))).mono ?_
          rintro e w4 ⟨rfl,hb4⟩
          have F4:=hide ((uh HF).drew.later hb4)
          have c4:w4.cell? ⟨w.heap.size,0,none⟩=some (.pointer (some ⟨v,0,none⟩)):=(cell_blk ((uh F4).step.kept.blk (uh HE).n1 (uh HE).o1) 0).trans rfl)
       | (refine ⟨trivial,?_⟩
          gi_at_call 70
          refine (CallsIn.inRound l (callsIn_wide.2 (uh Hpu _ _ _ (uh F4).at'))).mono ?_
          rintro e w5 ⟨rfl,C5,L5,hS5⟩
          have F5:=hide ((uh F4).does hS5).step
          clear hS5))
     all_goals
       gi_wp2
       refine ⟨VStep.from (uh HE).at' (uh F5) _,KeepV.step (uh HE).at' (uh F5) (by rw [← hrt];exact hS2),C5,L5,?_⟩
       first
         | exact (uh HE).does (uh F5)
         | (rw [hsn2,hrt];exact (uh HE).does (uh F5))
end Go.Proofs.YtknjjjenklfeoaaGreatDoor
