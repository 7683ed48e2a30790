import Derived.Test.YtknjjjenklfeoaaGreatDoorT11
import Derived.Sort.CutIn
set_option maxHeartbeats 8000000
set_option maxRecDepth 100000
namespace Go.Proofs.YtknjjjenklfeoaaGreatDoor
open Go.RowKit Go.Shelf
attribute [local go_sem ↓] loadVar_clus storeVar_clus zeroValue_clus loadVar_tab storeVar_tab zeroValue_tab loadVar_cnt storeVar_cnt zeroValue_cnt loadVar_head storeVar_head zeroValue_head build_head buildSlice_clus loadVar_wr storeVar_wr zeroValue_wr build_wr buildSlice_wr equalIn_clus loadVar_place storeVar_place zeroValue_place build_place
attribute [local go_sem] run_loadClus run_storeClus run_zeroClus run_storeClus_new run_loadClus_new zc_length run_loadTab run_storeTab run_zeroTab run_storeTab_new run_loadTab_new zt_length run_loadCnt run_storeCnt run_zeroCnt run_storeCnt_new run_loadCnt_new zk_length run_loadHead run_storeHead run_zeroHead run_storeHead_new run_bHead HasAt_drew cellsAt_drew HasAt_drewN cellsAt_drewN run_bsClus run_loadWr run_zeroWr run_storeWr run_storeWr_new run_bWr0 run_bsWr run_loadPlace run_storePlace run_zeroPlace run_storePlace_new run_bPlace
attribute [local go_sem] field_head1 field_head0 Oper.semAt_some
theorem told_make (w:World) (v table:Nat):Calls Tryz.prog 152 #[.pointer (some ⟨v,0,none⟩),.int .i64 (table:Nat)] w fun e w'=>
   e= .returned (.func (.func 174) #[] #[.pointer (some ⟨w.heap.size,0,none⟩),.pointer (some ⟨w.heap.size+1,0,none⟩)])∧w'=(w.alloc (.cells #[.pointer (some ⟨v,0,none⟩)] 82)).alloc (.cells #[.int .i64 (table:Nat)] 3):=by
 go_enter Tryz.func152,Tryz.ntmps152
 go_wp2
 refine bodyPost_ret (results_tmp rfl _ _ _) rfl ?_
 exact ⟨rfl,rfl⟩
theorem held_make (w:World) (v table:Nat):Calls Tryz.prog 111 #[.pointer (some ⟨v,0,none⟩),.int .i64 (table:Nat)] w fun e w'=>
   e= .returned (.func (.func 166) #[] #[.pointer (some ⟨w.heap.size+1,0,none⟩),.pointer (some ⟨w.heap.size,0,none⟩)])∧w'=(w.alloc (.cells #[.pointer (some ⟨v,0,none⟩)] 82)).alloc (.cells #[.int .i64 (table:Nat)] 3):=by
 go_enter Tryz.func111,Tryz.ntmps111
 go_wp2
 refine bodyPost_ret (results_tmp rfl _ _ _) rfl ?_
 exact ⟨rfl,rfl⟩
section
variable {X Y:Nat→Prop} {v:Nat} {R:VolR→VolR→Prop} {bs cs:List (Nat × Obj)} {P:VolR→Prop}
theorem Besides.join {W:World} (h:Besides X v bs P W) (k:Besides X v cs P W):Besides X v (bs++cs) P W:=by
 obtain ⟨C1,L1,V1,hV,hp,hf⟩:=h.vol
 obtain ⟨C2,L2,V2,hV2,_,hf2⟩:=k.vol
 obtain ⟨e1,e2,_⟩:=hV.unique hV2
 subst e1 e2
 refine ⟨⟨C1,L1,V1,hV,hp,fun x hx=> ?_⟩,fun x hx=> ?_,fun x hx=> ?_,fun x hx=> ?_⟩
 all_goals rcases List.mem_append.1 hx with y | y
 · exact hf x y
 · exact hf2 x y
 · exact h.box x y
 · exact k.box x y
 · exact h.cells x y
 · exact k.cells x y
 · exact h.free x y
 · exact k.free x y
theorem KeepV.turned (hR: ∀ a,R a a) {A B:World} {row:Option Nat} (hg:A.grownBy B row) (hr: ∀ r,row=some r→ ∃ o:Obj,A.heap[r]? = some o∧o.isCells=false):KeepV X (fun _=>False) v R A B:=by
 have hk:Kept (fun k=>row=some k) A B:=⟨hg.os,hg.tape,hg.output,hg.size,fun k hk hs=>hg.block k hk (fun e=>hs e.symm)⟩
 have hn: ∀ k q,A.heap[k]? = some q→q.isCells=true→ ¬ (row=some k):=by
   intro k q hq hc e
   obtain ⟨q',hq',hc'⟩:=hr k e
   rw [hq] at hq'
   injection hq' with hq'
   subst hq'
   rw [hc] at hc'
   cases hc'
 refine ⟨hg.size,fun _ _ _ _ h=>h.elim,fun C1 L1 V1 hV=>⟨C1,L1,V1,hV.kept hk (fun k hf'=> ?_),hR V1,fun k o ho hc _ _=>hk.blk (hn k o ho hc) ho,fun k _ h=>h⟩⟩
 obtain ⟨q,hq,hqc⟩:=hV.cells hf'
 exact hn k q hq hqc
theorem ownFrom_keepV (hR: ∀ a,R a a) (hRt: ∀ a b c,R a b→R b c→R a c) {β:Type} {W0:World} {B':Nat}:OwnFrom B' (fun (_:β) W=>KeepV X (fun _=>False) v R W0 W):=
 fun _ _ _ _ hs hg hr=>hs.trans hRt (KeepV.turned hR hg (fun r e=>(hr r e).2))
end
def downS {V:VolR} (s:SpotR (TabOK V)):SpotR (InR V):=⟨s.table,s.index,s.number,s.hi,s.hn,s.h0,s.hc.1⟩
theorem downS_val {V:VolR} (s:SpotR (TabOK V)):spotVal (downS s)=spotVal s:=rfl
def flatS {V:VolR} (ss:List (SpotR (TabOK V))):List (SpotR (InR V)):=ss.flatMap fun s=>downS s :: spots V (s.number%32768) s.hc.2
def toldSpots (V:VolR) (first:Nat) (h:FirstOK V first):List (SpotR (InR V)):=flatS (spots V first h.2)
theorem flatS_snoc {V:VolR} (ss:List (SpotR (TabOK V))) (s:SpotR (TabOK V)):flatS (ss++[s])=flatS ss++(downS s :: spots V (s.number%32768) s.hc.2):=by simp [flatS]
theorem flatS_pre {V:VolR} {a b:List (SpotR (TabOK V))} (h:a <+: b):flatS a <+: flatS b:=by
 obtain ⟨r,rfl⟩:=h
 exact ⟨flatS r,by simp [flatS]⟩
theorem spots_len {Pc:Nat→Prop} (V:VolR) (t:Nat) (hT:NumsOK Pc V.C t):(spots V t hT).length≤32:=spotsTo_length _ _ _ _ _
theorem flatS_len {V:VolR}: ∀ ss:List (SpotR (TabOK V)),(flatS ss).length≤33*ss.length
 | []=>by simp [flatS]
 | s :: ss=>by
   have h1:=flatS_len ss
   have h2:=spots_len V (s.number%32768) s.hc.2
   have:flatS (s :: ss)=(downS s :: spots V (s.number%32768) s.hc.2)++flatS ss:=by simp [flatS]
   rw [this,List.length_append,List.length_cons,List.length_cons]
   omega
theorem told_any (n:Nat) (hn:10≤n) (X:Nat→Prop) (v bv bt first B:Nat) (V:VolR) (Cv Lv:Value) (w:World) (hV:VolAt w v Cv Lv V)
   (hbv:w.heap[bv]? = some (.cells #[.pointer (some ⟨v,0,none⟩)] 82 (0,0))) (hbt:w.heap[bt]? = some (.cells #[.int .i64 (first:Nat)] 3 (0,0))) (hXt: ¬ X bt) (hXv: ¬ X bv) (hft: ¬ foot v Cv Lv bt) (hfv: ¬ foot v Cv Lv bv)
   (hXB: ∀ k,X k→k<B) (hF:FirstOK V first):
   SeqAny n 174 #[.pointer (some ⟨bv,0,none⟩),.pointer (some ⟨bt,0,none⟩)] (fun x:SpotR (InR V)=> #[spotVal x]) (KeepV X (fun k=>B≤k) v EqV) (fun ys=>ys=toldSpots V first hF) (fun pre=>pre <+: toldSpots V first hF) 1056 B w:=by
 intro l J Jx W hW hBW hJ hJx hY h0
 have hXW: ∀ k,W.heap.size≤k→ ¬ X k:=fun k hk hx=>by have:=hXB _ hx;omega
 have B0:Besides X v [(bv,.cells #[.pointer (some ⟨v,0,none⟩)] 82 (0,0)),(bt,.cells #[.int .i64 (first:Nat)] 3 (0,0))] (EqV V) W:=by
   refine ⟨⟨Cv,Lv,V,hV.below hW,rfl,?_⟩,?_,?_,?_⟩
   · intro x hx
     simp only [List.mem_cons,List.not_mem_nil,or_false] at hx
     rcases hx with rfl | rfl
     · exact hfv
     · exact hft
   · intro x hx
     simp only [List.mem_cons,List.not_mem_nil,or_false] at hx
     rcases hx with rfl | rfl
     · exact (hW.block _ (blk_lt hbv)).trans hbv
     · exact (hW.block _ (blk_lt hbt)).trans hbt
   · intro x hx
     simp only [List.mem_cons,List.not_mem_nil,or_false] at hx
     rcases hx with rfl | rfl <;> rfl
   · intro x hx
     simp only [List.mem_cons,List.not_mem_nil,or_false] at hx
     rcases hx with rfl | rfl
     · exact hXv
     · exact hXt
 have B1:=B0.lay (.cells #[.func (.yield l) #[] #[]] 244) rfl (hXW _ (Nat.le_refl _))
 have hJ1:J [] (W.alloc (.cells #[.func (.yield l) #[] #[]] 244)):=hJ.alloc _ h0
 have c1:(W.alloc (.cells #[.func (.yield l) #[] #[]] 244)).cell? ⟨bv,0,none⟩=some (.pointer (some ⟨v,0,none⟩)):=(cell_blk B1.b1 0).trans rfl
 have c2:(W.alloc (.cells #[.func (.yield l) #[] #[]] 244)).cell? ⟨bt,0,none⟩=some (.int .i64 (first:Nat)):=(cell_blk B1.b2 0).trans rfl
 have hs1:(W.alloc (.cells #[.func (.yield l) #[] #[]] 244)).heap.size=W.heap.size+1:=by simp
 have hV1:VolAt (W.alloc (.cells #[.func (.yield l) #[] #[]] 244)) v Cv Lv V:=(hV.below hW).alloc _
 refine callsIn_of_wp_marks Tryz.func174 rfl trivial ?_ rfl
 simp only [Tryz.ntmps174,List.size_toArray,List.length_cons,List.length_nil,Nat.reduceAdd,Nat.reduceSub,Array.replicate_succ,Array.replicate_zero,List.push_toArray,List.append_toArray,List.nil_append,List.cons_append]
 have Hn:=hide (numbers_make (W.alloc (.cells #[.func (.yield l) #[] #[]] 244)) v first)
 have hn4:=(B1.lay (.cells #[.pointer (some ⟨v,0,none⟩)] 82) rfl (hXW _ (by omega))).lay (.cells #[.int .i64 (first:Nat)] 3) rfl (hXW _ (by simp;omega))
 simp only [World.size_alloc] at hn4 Hn
 have hb4:=hide hn4
 have B4:=hide (hn4.sub (cs:=[(W.heap.size,.cells #[.func (.yield l) #[] #[]] 244 (0,0)),(bv,.cells #[.pointer (some ⟨v,0,none⟩)] 82 (0,0))]) (by simp))
 have hJ4:=hide ((ownFrom_up hJ (C:=W.heap.size) (Nat.le_refl _)).alloc (.cells #[.int .i64 (first:Nat)] 3) (hJ.alloc (.cells #[.pointer (some ⟨v,0,none⟩)] 82) hJ1))
 have HV1:=hide hV1
 have hft1:=fun hf=>hV1.foot_lt (W.heap.size+1+1) hf
 clear B0 B1 hbt hbv h0 hn4 hJ1 hV1
 gi_wp2_with fail
 refine ⟨trivial,fun _=>by omega,(callsIn_wide.2 (uh Hn)).mono ?_⟩
 rintro e W4 ⟨rfl,rfl⟩
 gi_wp2_with fail
 generalize hW4:((W.alloc (.cells #[.func (.yield l) #[] #[]] 244)).alloc (.cells #[.pointer (some ⟨v,0,none⟩)] 82)).alloc (.cells #[.int .i64 (first:Nat)] 3)=W4 at*
 have hV4:VolAt W4 v Cv Lv V:=by rw [← hW4];exact ((uh HV1).alloc _).alloc _
 have hs4:W4.heap.size=W.heap.size+3:=by rw [← hW4];simp
 have hNS:=numbers_stops (Pc:=TabOK V) (n - 1) (by omega) X (fun _=>False) EqV v (W.heap.size+1) (W.heap.size+1+1) first V Cv Lv W4 hV4 (uh hb4).b1 (uh hb4).b0 (hXW _ (by omega)) (fun hf=>by have:=hft1 hf;rw [hs1] at this;omega) hF.1.1.2 hF.2
 clear hb4 hW4 HV1 c1 c2 hV4 Hn
 refine wpIn_rangeFunc_ownH rfl (by omega) (gf:=182) (lb:= #[.pointer (some ⟨W.heap.size+1,0,none⟩),.pointer (some ⟨W.heap.size+1+1,0,none⟩)]) rfl trivial (enters_of Tryz.func182 (by kernel_rfl) rfl) hNS (fun h k=>KeepV.trans (R:=EqV) (fun _ _ _ a b=>Eq.trans a b) h k) (fun W l o o' _ hl hc _=>KeepV.turn (R:=EqV) (fun _=>rfl) W l o o' hl hc id) (Below.refl _ _) (fun _=>rfl)
   (fun pre W'=>J (flatS pre) W'∧Besides X v [(W.heap.size,.cells #[.func (.yield l) #[] #[]] 244 (0,0)),(bv,.cells #[.pointer (some ⟨v,0,none⟩)] 82 (0,0))] (EqV V) W')
   (fun c pre W'=>c= .ret∧ ∃ tot,tot <+: flatS pre∧Jx tot W')
   (fun _ _ _ _ hs hg hr=>⟨hJ _ _ _ _ hs.1 hg (fun r e=>⟨by have:=(hr r e).1;omega,(hr r e).2⟩),hs.2.turned hg (fun r e=>(hr r e).2)⟩)
   (fun _ _ _ _ _ hs hg hr=>by obtain ⟨e,tot,h1,h2⟩:=hs;exact ⟨e,tot,h1,hJx _ _ _ _ h2 hg (fun r e=>⟨by have:=(hr r e).1;omega,(hr r e).2⟩)⟩)
   ⟨uh hJ4,uh B4⟩
   (fun x a' W'=> ∃ bx,Besides X v [(bx,.cells #[.int .i64 ((x.table:Nat):Int),.int .i64 ((x.index:Nat):Int),.int .u16 ((x.number:Nat):Int)] 219 (0,0))] (EqV V) W'∧a'={ tmps:= #[.func (.yield l) #[] #[],.pointer (some ⟨bv,0,none⟩),.pointer (some ⟨bt,0,none⟩),.pointer (some ⟨W.heap.size,0,none⟩),.pointer (some ⟨bx,0,none⟩),undef,.pointer (some ⟨v,0,none⟩),.int .i64 (first:Nat),.func (.func 182) #[] #[.pointer (some ⟨W.heap.size+1,0,none⟩),.pointer (some ⟨W.heap.size+1+1,0,none⟩)],spotVal x,undef,undef,undef,undef,undef,undef,undef,undef,undef,undef,undef,undef,undef,undef],defers:=[] })
   (fun x a' _ A' B' row hs hg hr=>by
     obtain ⟨bx,h2,h3⟩:=hs
     exact ⟨bx,h2.turned hg (fun r e=>(hr r e).2),h3⟩)
   ?assign ?body ?done ?stop
 case assign=>
   rintro l2 pre x W' K ⟨hJp,hBx⟩ hK
   have hsz:W.heap.size<W'.heap.size:=blk_lt hBx.b0
   unfold spotVal
   gi_wp2
   exact hK _ _ ((KeepsOthers.alloc _ _).from _) (KeepV.below (R:=EqV) (fun _=>rfl) ((Below.refl _ _).alloc (Nat.le_refl _) _)) ⟨hJ.alloc _ hJp,hBx.below ((Below.refl _ _).alloc (Nat.le_refl _) _)⟩ ⟨_,(hBx.lay _ rfl (hXW _ (by omega))).sub (by simp),rfl⟩
 case body=>
   rintro l2 pre x a' W' hl2 ⟨r,hr⟩ ⟨hJp,hBx⟩ ⟨bx,hAx,rfl⟩ hlen
   have BB:=hAx.join hBx
   have hfl:=flatS_len pre
   have c0:W'.cell? ⟨W.heap.size,0,none⟩=some (.func (.yield l) #[] #[]):=(cell_blk BB.b1 0).trans rfl
   have c1:W'.cell? ⟨bx,0,none⟩=some (.int .i64 ((x.table:Nat):Int)):=(cell_blk BB.b0 0).trans rfl
   have c2:W'.cell? ⟨bx,1,none⟩=some (.int .i64 ((x.index:Nat):Int)):=(cell_blk BB.b0 1).trans rfl
   have c3:W'.cell? ⟨bx,2,none⟩=some (.int .u16 ((x.number:Nat):Int)):=(cell_blk BB.b0 2).trans rfl
   obtain ⟨fn2,tmps2,assign2,body2,hy2,hR2⟩:=yield_deep (m':=n - 1 - 1 - 1) (hY (flatS pre) (downS x) W' hJp (by omega))
   rw [downS_val] at hy2
   have hy2':(Instr.yield l #[.agg #[.int .i64 ((x.table:Nat):Int),.int .i64 ((x.index:Nat):Int),.int .u16 ((x.number:Nat):Int)]]).run Tryz.prog W'= .ok (.round l fn2 tmps2 assign2 body2) W':=hy2
   have BB:=hide BB
   have Hr:=hide hr
   clear hBx hAx hJp hy2
   gi_wp2_with fail
   refine ⟨fun _=>by omega,RoundIn.mono hR2 ?_⟩
   rintro e W5 ⟨hK5,(⟨rfl,hJ5⟩ | ⟨rfl,hJx5⟩)⟩
   rotate_left
   · have hKF:KeepsFrom W4.heap.size W' W5:=⟨hK5.1,fun k o hB hk ho=>hK5.2.1 k o hk ho (by omega)⟩
     gi_wp2
     exact ⟨hKF,rfl,flatS pre++[downS x],⟨spots V (x.number%32768) x.hc.2,by rw [flatS_snoc];simp⟩,hJx5⟩
   have hKF:KeepsFrom W4.heap.size W' W5:=⟨hK5.1,fun k o hB hk ho=>hK5.2.1 k o hk ho (by omega)⟩
   have B5:=(uh BB).keep (fun _ _ a b=>Eq.trans a b) hK5
   have d0:W5.cell? ⟨bv,0,none⟩=some (.pointer (some ⟨v,0,none⟩)):=(cell_blk B5.b2 0).trans rfl
   have d1:W5.cell? ⟨bx,2,none⟩=some (.int .u16 ((x.number:Nat):Int)):=(cell_blk B5.b0 2).trans rfl
   have hK5':KeepV X (fun _=>False) v EqV W' W5:=hK5.weak (Y':=fun _=>False) (fun _ h=>False.elim h)
   have Hc:Hid (∀ W,_):=fun W=>cluster_of x.number x.hn W
   have Hm:Hid (∀ W,_):=fun W=>numbers_make W v (x.number%32768)
   have hs5:W.heap.size<W5.heap.size:=blk_lt B5.b1
   have B5:=hide B5
   have hKF:=hide hKF
   have hK5':=hide hK5'
   clear hK5 BB c0 c1 c2 c3 hR2
   gi_wp2
   gi_cut [18] from 14 (fun s18 wc=>s18= .func (.func 182) #[] #[.pointer (some ⟨W5.heap.size,0,none⟩),.pointer (some ⟨W5.heap.size+1,0,none⟩)]∧wc=(W5.drew.alloc (.cells #[.pointer (some ⟨v,0,none⟩)] 82)).alloc (.cells #[.int .i64 ((x.number%32768:Nat):Int)] 3))
   case first=>
     gi_region_with (first
       | (refine ⟨trivial,fun _=>by omega,(CallsIn.inRound l2 (callsIn_wide.2 (uh Hc _))).mono ?_⟩
          rintro e w3 ⟨rfl,rfl⟩)
       | (refine ⟨trivial,fun _=>by omega,(CallsIn.inRound l2 (callsIn_wide.2 (uh Hm _))).mono ?_⟩
          rintro e w3 ⟨rfl,rfl⟩))
     all_goals
       gi_wp2
       gi_meet
       exact ⟨rfl,rfl⟩
   case rest=>
     obtain ⟨rfl,hwc⟩:=hcut
     have B6:=(((uh B5).below (B:=W5.drew) ⟨rfl,rfl,rfl,Nat.le_refl _,fun _ _=>rfl⟩).lay (.cells #[.pointer (some ⟨v,0,none⟩)] 82) rfl (hXW _ (by show W.heap.size≤W5.heap.size;omega))).lay (.cells #[.int .i64 ((x.number%32768:Nat):Int)] 3) rfl (hXW _ (by rw [World.size_alloc];show W.heap.size≤W5.heap.size+1;omega))
     have hJ6:J (flatS pre++[downS x]) wc:=by
       rw [hwc]
       exact hJ.alloc _ (hJ.alloc _ (hJ _ W5 W5.drew none hJ5 ⟨rfl,rfl,rfl,Nat.le_refl _,fun _ _ _=>rfl⟩ (fun r e=>by cases e)))
     have hbl:Below W5.heap.size W5 wc:=by
       rw [hwc]
       exact ((Below.refl _ W5).drew.alloc (Nat.le_refl _) _).alloc (by rw [World.size_alloc];show W5.heap.size≤W5.heap.size+1;omega) _
     have hs6:wc.heap.size=W5.heap.size+2:=by rw [hwc];simp
     rw [← hwc] at B6
     simp only [World.size_alloc] at B6
     change Besides X v ((W5.heap.size+1,_) :: (W5.heap.size,_) :: _) (EqV V) wc at B6
     have hKF6:KeepsFrom W4.heap.size W' wc:=(uh hKF).trans ⟨hbl.size,fun k o _ hk _=>(hbl.block k (blk_lt hk)).trans hk⟩
     have hK6:KeepV X (fun _=>False) v EqV W' wc:=KeepV.trans (R:=EqV) (fun _ _ _ a b=>Eq.trans a b) (uh hK5') (KeepV.below (R:=EqV) (fun _=>rfl) hbl)
     have hr6:wc.heap[l2]? = some (.loop r):=hKF6.same l2 _ hl2 (uh Hr) rfl
     have hWc:W'.heap.size≤wc.heap.size:=hKF6.size
     obtain ⟨C6,L6,V6,hV6,hE6,hf6⟩:=B6.vol
     obtain rfl:V=V6:=hE6
     have hNS2:=numbers_stops (Pc:=InR V) (n - 1 - 1 - 1) (by omega) X (fun _=>False) EqV v W5.heap.size (W5.heap.size+1) (x.number%32768) V C6 L6 wc hV6 B6.b1 B6.b0 (hXW _ (by omega)) (hf6 _ (List.Mem.head _)) x.hc.1.2 x.hc.2
     have B7:=hide (B6.sub (cs:=[(W.heap.size,.cells #[.func (.yield l) #[] #[]] 244 (0,0)),(bv,.cells #[.pointer (some ⟨v,0,none⟩)] 82 (0,0))]) (by simp))
     have hlx:(flatS pre).length≤33*31:=by omega
     clear B6 B5 hwc Hc Hm d0 d1 hJ5 hV6 hf6 hNS hKF hK5' Hr hbl
     gi_wp2
     refine wpIn_rangeFunc_ownN (l₀:=l2) (r₀:=r) rfl hr6 (by omega) (gf:=182) (lb:= #[.pointer (some ⟨W5.heap.size,0,none⟩),.pointer (some ⟨W5.heap.size+1,0,none⟩)]) rfl trivial (enters_of Tryz.func182 (by kernel_rfl) rfl)
       (hNS2.inRound l2) (fun h k=>KeepV.trans (R:=EqV) (fun _ _ _ a b=>Eq.trans a b) h k) (fun W l o o' _ hl hc _=>KeepV.turn (R:=EqV) (fun _=>rfl) W l o o' hl hc id) (Below.refl _ _) (fun _=>rfl)
       (fun ip W7=>J (flatS pre++downS x :: ip) W7∧Besides X v [(W.heap.size,.cells #[.func (.yield l) #[] #[]] 244 (0,0)),(bv,.cells #[.pointer (some ⟨v,0,none⟩)] 82 (0,0))] (EqV V) W7∧KeepsFrom W4.heap.size W' W7∧KeepV X (fun _=>False) v EqV W' W7)
       (fun c ip W7=>c= .ret∧Jx (flatS pre++downS x :: ip) W7∧KeepsFrom W4.heap.size W' W7)
       (fun s A B row hs hg hr=>⟨hJ _ _ _ _ hs.1 hg (fun r e=>⟨by have:=(hr r e).1;omega,(hr r e).2⟩),hs.2.1.turned hg (fun r e=>(hr r e).2),ownFrom_keepsFrom (β:=Unit) hWc () A B row hs.2.2.1 hg hr,ownFrom_keepV (R:=EqV) (fun _=>rfl) (fun _ _ _ a b=>Eq.trans a b) (β:=Unit) () A B row hs.2.2.2 hg hr⟩)
       (fun c s A B row hs hg hr=>⟨hs.1,hJx _ _ _ _ hs.2.1 hg (fun r e=>⟨by have:=(hr r e).1;omega,(hr r e).2⟩),ownFrom_keepsFrom (β:=Unit) hWc () A B row hs.2.2 hg hr⟩)
       ⟨hJ6,uh B7,hKF6,hK6⟩
       (fun y a'' W7=> ∃ bx2,W7.heap[bx2]? = some (.cells #[.int .i64 ((y.table:Nat):Int),.int .i64 ((y.index:Nat):Int),.int .u16 ((y.number:Nat):Int)] 219 (0,0))∧a''={ tmps:= #[.func (.yield l) #[] #[],.pointer (some ⟨bv,0,none⟩),.pointer (some ⟨bt,0,none⟩),.pointer (some ⟨W.heap.size,0,none⟩),.pointer (some ⟨bx,0,none⟩),.pointer (some ⟨bx2,0,none⟩),.pointer (some ⟨v,0,none⟩),.int .i64 (first:Nat),.func (.func 182) #[] #[.pointer (some ⟨W.heap.size+1,0,none⟩),.pointer (some ⟨W.heap.size+1+1,0,none⟩)],spotVal x,.func (.yield l) #[] #[],.agg #[.int .i64 ((x.table:Nat):Int),.int .i64 ((x.index:Nat):Int),.int .u16 ((x.number:Nat):Int)],.bool true,.bool false,u14,u15,u16,u17,.func (.func 182) #[] #[.pointer (some ⟨W5.heap.size,0,none⟩),.pointer (some ⟨W5.heap.size+1,0,none⟩)],spotVal y,u20,u21,u22,u23],defers:=[] })
       (fun y a'' _ A' B' row hs hg hr=>by
         obtain ⟨bx2,h2,h3⟩:=hs
         refine ⟨bx2,?_,h3⟩
         rw [hg.block bx2 (blk_lt h2) (fun e=>by
           obtain ⟨_,o,ho,hc⟩:=hr bx2 e.symm
           rw [h2] at ho
           injection ho with ho
           subst ho
           cases hc)]
         exact h2)
       ?assign2 ?body2 ?done2 ?stop2
     case assign2=>
       rintro l3 ip y W7 K ⟨g1,g2,g3,g4⟩ hK
       unfold spotVal
       gi_wp2
       have hb:Below W7.heap.size W7 (W7.alloc (.cells #[.int .i64 ((y.table:Nat):Int),.int .i64 ((y.index:Nat):Int),.int .u16 ((y.number:Nat):Int)] 219)):=(Below.refl _ _).alloc (Nat.le_refl _) _
       exact hK _ _ ((KeepsOthers.alloc _ _).from _) (KeepV.below (R:=EqV) (fun _=>rfl) hb) ⟨hJ.alloc _ g1,g2.below hb,g3.trans ((KeepsOthers.alloc _ _).from _),KeepV.trans (R:=EqV) (fun _ _ _ a b=>Eq.trans a b) g4 (KeepV.below (R:=EqV) (fun _=>rfl) hb)⟩ ⟨_,heap_alloc_new _ _,rfl⟩
     case stop2=>
       rintro c ip W7 hSp ⟨rfl,g1,g2⟩
       gi_wp2
       exact ⟨g2,rfl,flatS pre++downS x :: ip,by
         rw [flatS_snoc]
         obtain ⟨rr,hrr⟩:=hSp
         exact ⟨rr,by rw [← hrr];simp⟩,g1⟩
     case done2=>
       rintro ip W7 hS ⟨g1,g2,g3,g4⟩
       gi_wp2
       refine ⟨g3,g4,?_,g2⟩
       rw [flatS_snoc,← hS]
       exact g1
     case body2=>
       rintro l3 ip y a'' W7 hl3 _ ⟨g1,g2,g3,g4⟩ ⟨bx2,hbx2,rfl⟩ hlen2
       have e0:W7.cell? ⟨W.heap.size,0,none⟩=some (.func (.yield l) #[] #[]):=(cell_blk g2.b0 0).trans rfl
       have e1:W7.cell? ⟨bx2,0,none⟩=some (.int .i64 ((y.table:Nat):Int)):=(cell_blk hbx2 0).trans rfl
       have e2:W7.cell? ⟨bx2,1,none⟩=some (.int .i64 ((y.index:Nat):Int)):=(cell_blk hbx2 1).trans rfl
       have e3:W7.cell? ⟨bx2,2,none⟩=some (.int .u16 ((y.number:Nat):Int)):=(cell_blk hbx2 2).trans rfl
       have hap:flatS pre++downS x :: (ip++[y])=(flatS pre++downS x :: ip)++[y]:=by simp
       obtain ⟨fn3,tmps3,assign3,body3,hy3,hR3⟩:=yield_deep (m':=n - 1 - 1 - 1 - 1 - 1) (hY (flatS pre++downS x :: ip) y W7 g1 (by rw [List.length_append,List.length_cons];omega))
       have hy3':(Instr.yield l #[.agg #[.int .i64 ((y.table:Nat):Int),.int .i64 ((y.index:Nat):Int),.int .u16 ((y.number:Nat):Int)]]).run Tryz.prog W7= .ok (.round l fn3 tmps3 assign3 body3) W7:=hy3
       have G2:=hide g2
       have G3:=hide g3
       have G4:=hide g4
       clear hy3 g1 g2 g3 g4 hbx2 hNS2 B7 hJ6 hKF6 hK6 hr6
       gi_wp2_with fail
       refine ⟨fun _=>by omega,RoundIn.mono hR3 ?_⟩
       rintro e W8 ⟨hK8,(⟨rfl,hJ8⟩ | ⟨rfl,hJx8⟩)⟩
       · have hKF8: ∀ b,B≤b→KeepsFrom b W7 W8:=fun b hb=>⟨hK8.1,fun k o hB hk ho=>hK8.2.1 k o hk ho (by omega)⟩
         have hK8':KeepV X (fun _=>False) v EqV W7 W8:=hK8.weak (Y':=fun _=>False) (fun _ h=>False.elim h)
         have f1:=hKF8 wc.heap.size (by omega)
         have f2:=(uh G2).keep (fun _ _ a b=>Eq.trans a b) hK8
         have f3:=(uh G3).trans (hKF8 W4.heap.size (by omega))
         have f4:=KeepV.trans (R:=EqV) (fun _ _ _ a b=>Eq.trans a b) (uh G4) hK8'
         rw [← hap] at hJ8
         gi_wp2
         exact ⟨f1,hK8',hJ8,f2,f3,f4⟩
       · have hKF8: ∀ b,B≤b→KeepsFrom b W7 W8:=fun b hb=>⟨hK8.1,fun k o hB hk ho=>hK8.2.1 k o hk ho (by omega)⟩
         have f1:=hKF8 wc.heap.size (by omega)
         have f3:=(uh G3).trans (hKF8 W4.heap.size (by omega))
         rw [← hap] at hJx8
         gi_wp2
         exact ⟨f1,rfl,hJx8,f3⟩
 case done=>
   rintro D ys W' hD hS ⟨hJp,_⟩ hK
   gi_wp2
   refine ⟨by simp,.inl ⟨_,_,rfl,run_takeDeferred hK,?_⟩⟩
   refine ⟨_,results_none rfl _ _ _,⟨_,rfl⟩,.inl ⟨_,?_,hJ.putObj _ hJp (by omega) hK rfl⟩⟩
   rw [hS];rfl
 case stop=>
   rintro D c pre W' hD hSp ⟨rfl,tot,h1,h2⟩ hK
   gi_wp2
   refine ⟨by simp,.inl ⟨_,_,rfl,run_takeDeferred hK,?_⟩⟩
   exact ⟨_,results_none rfl _ _ _,⟨_,rfl⟩,.inr ⟨tot,h1.trans (flatS_pre hSp),hJx.putObj _ h2 (by omega) hK rfl⟩⟩
def numsS {V:VolR} (ss:List (SpotR (InR V))):List Nat:=ss.map fun s=>s.number%32768
theorem numsS_snoc {V:VolR} (ss:List (SpotR (InR V))) (s:SpotR (InR V)):numsS (ss++[s])=numsS ss++[s.number%32768]:=by simp [numsS]
theorem spots_nums {Pc:Nat→Prop} (V:VolR) (t:Nat) (hT:NumsOK Pc V.C t):(spots V t hT).map (fun s=>s.number%32768)=toldBy (numsOf (cl V.C t)):=by
 have:=spots_told t (numsOf (cl V.C t)) hT (numsOf_length _) 32 (Nat.le_refl _)
 rw [List.take_of_length_le (by rw [numsOf_length];exact Nat.le_refl _)] at this
 exact this
theorem flatS_nums {V:VolR}: ∀ ss:List (SpotR (TabOK V)),numsS (flatS ss)=(ss.map fun s=>s.number%32768).flatMap fun s=>s :: toldBy (numsOf (cl V.C s))
 | []=>rfl
 | s :: ss=>by
   have h1:flatS (s :: ss)=(downS s :: spots V (s.number%32768) s.hc.2)++flatS ss:=by simp [flatS]
   have h2:=flatS_nums ss
   have h3:=spots_nums V (s.number%32768) s.hc.2
   unfold numsS at h2 ⊢
   rw [h1,List.map_append,h2,List.map_cons,List.map_cons,List.flatMap_cons,h3]
   rfl
theorem told_nums (V:VolR) (first:Nat) (h:FirstOK V first):numsS (toldSpots V first h)=toldAll V.C first:=by
 unfold toldSpots toldAll
 rw [flatS_nums,spots_nums]
def clsS {V:VolR} (hC:V.C.length≤256) (ss:List (SpotR (InR V))):List U256:=ss.map fun s=>⟨s.number%32768,by have:=s.hc.2;omega⟩
theorem clsS_val {V:VolR} (hC:V.C.length≤256) (ss:List (SpotR (InR V))):(clsS hC ss).map (·.1)=numsS ss:=by simp [clsS,numsS]
theorem clsS_snoc {V:VolR} (hC:V.C.length≤256) (ss:List (SpotR (InR V))) (s:SpotR (InR V)):clsS hC (ss++[s])=clsS hC ss++[⟨s.number%32768,by have:=s.hc.2;omega⟩]:=by simp [clsS]
theorem clsS_len {V:VolR} (hC:V.C.length≤256) (ss:List (SpotR (InR V))):(clsS hC ss).length=ss.length:=by simp [clsS]
theorem held_all (n:Nat) (hn:20≤n) (X:Nat→Prop) (v bv bt first B:Nat) (V:VolR) (Cv Lv:Value) (w:World) (hV:VolAt w v Cv Lv V) (hC:V.C.length≤256)
   (hbv:w.heap[bv]? = some (.cells #[.pointer (some ⟨v,0,none⟩)] 82 (0,0))) (hbt:w.heap[bt]? = some (.cells #[.int .i64 (first:Nat)] 3 (0,0))) (hXt: ¬ X bt) (hXv: ¬ X bv) (hft: ¬ foot v Cv Lv bt) (hfv: ¬ foot v Cv Lv bv)
   (hXB: ∀ k,X k→k<B) (hF:FirstOK V first):
   SeqAll n 166 #[.pointer (some ⟨bt,0,none⟩),.pointer (some ⟨bv,0,none⟩)] (fun u:U256=> #[Value.int .i64 ((u.1:Nat):Int)]) (KeepV X (fun k=>B≤k) v EqV) (fun ys=>ys.map (·.1)=heldAll V.C first) 1057 B w:=by
 intro l J W hW hBW hJ hY h0
 have hXW: ∀ k,W.heap.size≤k→ ¬ X k:=fun k hk hx=>by have:=hXB _ hx;omega
 have hf256:first<256:=by have:=hF.1.1.2;omega
 have B0:Besides X v [(bv,.cells #[.pointer (some ⟨v,0,none⟩)] 82 (0,0)),(bt,.cells #[.int .i64 (first:Nat)] 3 (0,0))] (EqV V) W:=by
   refine ⟨⟨Cv,Lv,V,hV.below hW,rfl,?_⟩,?_,?_,?_⟩
   · intro x hx
     simp only [List.mem_cons,List.not_mem_nil,or_false] at hx
     rcases hx with rfl | rfl
     · exact hfv
     · exact hft
   · intro x hx
     simp only [List.mem_cons,List.not_mem_nil,or_false] at hx
     rcases hx with rfl | rfl
     · exact (hW.block _ (blk_lt hbv)).trans hbv
     · exact (hW.block _ (blk_lt hbt)).trans hbt
   · intro x hx
     simp only [List.mem_cons,List.not_mem_nil,or_false] at hx
     rcases hx with rfl | rfl <;> rfl
   · intro x hx
     simp only [List.mem_cons,List.not_mem_nil,or_false] at hx
     rcases hx with rfl | rfl
     · exact hXv
     · exact hXt
 have B1:=B0.lay (.cells #[.func (.yield l) #[] #[]] 165) rfl (hXW _ (Nat.le_refl _))
 have hJ1:J [] (W.alloc (.cells #[.func (.yield l) #[] #[]] 165)):=hJ.alloc _ h0
 have c2:(W.alloc (.cells #[.func (.yield l) #[] #[]] 165)).cell? ⟨bt,0,none⟩=some (.int .i64 (first:Nat)):=(cell_blk B1.b2 0).trans rfl
 obtain ⟨fn,tmps,assign,body,hy,hR⟩:=hY [] ⟨first,hf256⟩ _ hJ1 (by simp)
 refine callsIn_of_wp_marks Tryz.func166 rfl trivial ?_ rfl
 simp only [Tryz.ntmps166,List.size_toArray,List.length_cons,List.length_nil,Nat.reduceAdd,Nat.reduceSub,Array.replicate_succ,Array.replicate_zero,List.push_toArray,List.append_toArray,List.nil_append,List.cons_append]
 have B1:=hide B1
 clear B0 hbt hbv h0
 gi_wp2_with fail
 refine ⟨fun _=>by omega,hR.mono ?_⟩
 rintro e W3 ⟨rfl,hJ3,hK3⟩
 have B3:=(uh B1).keep (fun _ _ a b=>Eq.trans a b) hK3
 obtain ⟨C3,L3,V3,hV3,hS3,hf3⟩:=B3.vol
 obtain rfl:V=V3:=hS3
 have c3:W3.cell? ⟨bt,0,none⟩=some (.int .i64 (first:Nat)):=(cell_blk B3.b2 0).trans rfl
 have d3:W3.cell? ⟨bv,0,none⟩=some (.pointer (some ⟨v,0,none⟩)):=(cell_blk B3.b1 0).trans rfl
 have hs3:W.heap.size+1≤W3.heap.size:=by have:=hK3.1;simp at this;omega
 have Hn:=hide (told_make W3 v first)
 have hn4:=(B3.lay (.cells #[.pointer (some ⟨v,0,none⟩)] 82) rfl (hXW _ (by omega))).lay (.cells #[.int .i64 (first:Nat)] 3) rfl (hXW _ (by simp;omega))
 simp only [World.size_alloc] at hn4
 have hb4:=hide hn4
 have B4:=hide (hn4.sub (cs:=[(W.heap.size,.cells #[.func (.yield l) #[] #[]] 165 (0,0))]) (by simp))
 have hJ4:=hide ((ownFrom_up hJ (C:=W.heap.size) (Nat.le_refl _)).alloc (.cells #[.int .i64 (first:Nat)] 3) (hJ.alloc (.cells #[.pointer (some ⟨v,0,none⟩)] 82) hJ3))
 have HV3:=hide hV3
 have hft1:=fun hf=>hV3.foot_lt W3.heap.size hf
 have hft2:=fun hf=>hV3.foot_lt (W3.heap.size+1) hf
 clear hn4 B3 hV3 hJ3 hJ1 B1 hR hy hf3
 gi_wp2_with fail
 refine ⟨trivial,fun _=>by omega,(callsIn_wide.2 (uh Hn)).mono ?_⟩
 rintro e W4 ⟨rfl,rfl⟩
 gi_wp2_with fail
 generalize hW4:(W3.alloc (.cells #[.pointer (some ⟨v,0,none⟩)] 82)).alloc (.cells #[.int .i64 (first:Nat)] 3)=W4 at*
 have hV4:VolAt W4 v C3 L3 V:=by rw [← hW4];exact ((uh HV3).alloc _).alloc _
 have hs4:W4.heap.size=W3.heap.size+2:=by rw [← hW4];simp
 have hTA:=(told_any (n - 1) (by omega) X v W3.heap.size (W3.heap.size+1) first (W4.heap.size+2) V C3 L3 W4 hV4 (uh hb4).b1 (uh hb4).b0 (hXW _ (by omega)) (hXW _ (by omega)) (fun hf=>by have:=hft2 hf;omega) (fun hf=>by have:=hft1 hf;omega) (fun k hx=>by have:=hXB k hx;omega) hF).all
 clear hb4 hW4 HV3 c3 d3 c2 hV4 Hn hft1 hft2
 refine range_all (by omega) (gf:=174) (lb:= #[.pointer (some ⟨W3.heap.size,0,none⟩),.pointer (some ⟨W3.heap.size+1,0,none⟩)]) rfl (enters_of Tryz.func174 (by kernel_rfl) rfl) hTA
   (fun A B C h k=>KeepV.trans (R:=EqV) (fun _ _ _ a b=>Eq.trans a b) h k) (fun W o o' hl hc=>KeepV.turn (R:=EqV) (fun _=>rfl) W _ o o' hl hc (by omega)) (Below.refl _ _) (fun _=>rfl)
   (fun pre W'=>J (⟨first,hf256⟩ :: clsS hC pre) W'∧Besides X v [(W.heap.size,.cells #[.func (.yield l) #[] #[]] 165 (0,0))] (EqV V) W')
   (fun _ _ _ _ hs hg hr=>⟨hJ _ _ _ _ hs.1 hg (fun r e=>⟨by have:=(hr r e).1;omega,(hr r e).2⟩),hs.2.turned hg (fun r e=>(hr r e).2)⟩)
   ⟨uh hJ4,uh B4⟩
   (fun x a' W'=> ∃ bx,W'.heap[bx]? = some (.cells #[.int .i64 ((x.table:Nat):Int),.int .i64 ((x.index:Nat):Int),.int .u16 ((x.number:Nat):Int)] 219 (0,0))∧a'={ tmps:= #[.func (.yield l) #[] #[],.pointer (some ⟨bt,0,none⟩),.pointer (some ⟨bv,0,none⟩),.pointer (some ⟨W.heap.size,0,none⟩),.pointer (some ⟨bx,0,none⟩),.func (.yield l) #[] #[],.int .i64 (first:Nat),.bool true,.bool false,.pointer (some ⟨v,0,none⟩),.int .i64 (first:Nat),.func (.func 174) #[] #[.pointer (some ⟨W3.heap.size,0,none⟩),.pointer (some ⟨W3.heap.size+1,0,none⟩)],spotVal x,undef,undef,undef,undef,undef,undef],defers:=[] })
   (fun x a' _ A' B' row hs hg hr=>by
     obtain ⟨bx,h2,h3⟩:=hs
     refine ⟨bx,?_,h3⟩
     rw [hg.block bx (blk_lt h2) (fun e=>by
       obtain ⟨_,o,ho,hc⟩:=hr bx e.symm
       rw [h2] at ho
       injection ho with ho
       subst ho
       cases hc)]
     exact h2)
   ?assign ?body ?done
 case assign=>
   rintro l2 pre x W' K ⟨hJx,hBx⟩ hK
   unfold spotVal
   gi_wp2
   exact hK _ _ ((KeepsOthers.alloc _ _).from _) (KeepV.below (R:=EqV) (fun _=>rfl) ((Below.refl _ _).alloc (Nat.le_refl _) _)) ⟨hJ.alloc _ hJx,hBx.below ((Below.refl _ _).alloc (Nat.le_refl _) _)⟩ ⟨_,heap_alloc_new _ _,rfl⟩
 case body=>
   rintro l2 pre x a' W' hl2 ⟨r,hr⟩ ⟨hJx,hBx⟩ ⟨bx,hbx,rfl⟩ hlen
   have c1:W'.cell? ⟨W.heap.size,0,none⟩=some (.func (.yield l) #[] #[]):=(cell_blk hBx.b0 0).trans rfl
   have c2:W'.cell? ⟨bx,2,none⟩=some (.int .u16 ((x.number:Nat):Int)):=(cell_blk hbx 2).trans rfl
   have Hc:Hid (∀ W,_):=fun W=>cluster_of x.number x.hn W
   have hJd:J (⟨first,hf256⟩ :: clsS hC pre) W'.drew:=hJ _ W' W'.drew none hJx ⟨rfl,rfl,rfl,Nat.le_refl _,fun _ _ _=>rfl⟩ (fun r e=>by cases e)
   have hx256:x.number%32768<256:=by have:=x.hc.2;omega
   have hap:(⟨first,hf256⟩ :: clsS hC pre)++[⟨x.number%32768,hx256⟩]=⟨first,hf256⟩ :: clsS hC (pre++[x]):=by rw [clsS_snoc];rfl
   have hY':=hY _ ⟨x.number%32768,hx256⟩ W'.drew hJd (by simp [clsS_len];omega)
   rw [hap] at hY'
   obtain ⟨fn2,tmps2,assign2,body2,hy2,hR2⟩:=yield_deep (m':=n - 1 - 1 - 1) hY'
   have Hx:=x.hn
   have hB2:=hide (hBx.below (B:=W'.drew) ⟨rfl,rfl,rfl,Nat.le_refl _,fun _ _=>rfl⟩)
   dsimp only at hy2
   clear hJd hY' hJx hBx hap hbx
   generalize x.number%32768=cc at*
   generalize x.number=nn at*
   generalize spotVal x=sv at*
   gi_wp2
   gi_region_with (first
     | (refine ⟨trivial,fun _=>by omega,(CallsIn.inRound l2 (callsIn_wide.2 (uh Hc _))).mono ?_⟩
        rintro e w3 ⟨rfl,rfl⟩)
     | (refine ⟨fun _=>by omega,RoundIn.mono hR2 ?_⟩
        rintro e w3 ⟨rfl,hJ5,hK5⟩))
   all_goals
     have B5:=(uh hB2).keep (fun _ _ a b=>Eq.trans a b) hK5
     have hKF:KeepsFrom W4.heap.size W' w3:=⟨hK5.1,fun k o hB hk ho=>hK5.2.1 k o hk ho (by omega)⟩
     have hK6:KeepV X (fun k=>W4.heap.size+2≤k) v EqV W' w3:=KeepV.trans (R:=EqV) (fun _ _ _ a b=>Eq.trans a b) (KeepV.below (R:=EqV) (fun _=>rfl) (B:=W'.drew) ⟨rfl,rfl,rfl,Nat.le_refl _,fun _ _=>rfl⟩) (hK5.weak (Y':=fun k=>W4.heap.size+2≤k) (fun k h=>by omega))
     simp only [hs4] at hKF hK6
     gi_wp2
     first
       | exact ⟨hKF,hK6,hJ5,B5⟩
       | exact ⟨hJ5,B5⟩
 case done=>
   rintro D ys W' hD hS ⟨hJx,_⟩ hK
   gi_wp2
   refine ⟨by simp,.inl ⟨_,_,rfl,run_takeDeferred hK,?_⟩⟩
   refine ⟨_,results_none rfl _ _ _,⟨_,rfl⟩,_,?_,hJ.putObj _ hJx (by omega) hK rfl⟩
   rw [List.map_cons,clsS_val,hS,told_nums]
   rfl
end Go.Proofs.YtknjjjenklfeoaaGreatDoor
