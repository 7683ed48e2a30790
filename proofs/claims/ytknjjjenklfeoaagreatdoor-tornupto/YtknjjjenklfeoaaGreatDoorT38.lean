import Derived.Test.YtknjjjenklfeoaaGreatDoorT14
import Derived.RangeFuncNested
import Derived.RangeFuncBound
import Derived.RangeFuncCalls
import Derived.RangeFuncLeaves
import Derived.Shelf.Abstract
import Derived.Shelf.RegionOpen
import Derived.WalkKit
import Derived.OwnWalkIn
import Derived.TacticsInMore
import Derived.LoopNIn
import Derived.LoopIn
import Derived.Test.YtknjjjenklfeoaaGreatDoorT37
import Derived.Test.YtknjjjenklfeoaaGreatDoorT13
set_option maxHeartbeats 8000000
set_option maxRecDepth 100000
namespace Go.Proofs.YtknjjjenklfeoaaGreatDoor
open Go.RowKit Go.Shelf
def SeqAnyG {α:Type} (G:α→Prop) (n gf:Nat) (lb:Array Value) (encs:α→Array Value) (Kp:World→World→Prop) (S Sp:List α→Prop) (N B:Nat) (w:World):Prop:=
 ∀ (l:Nat) (J Jx:List α→World→Prop) (W:World),Below w.heap.size w W→B≤W.heap.size→OwnFrom W.heap.size J→OwnFrom W.heap.size Jx→(∀ pre x W',J (pre++[x]) W'→G x)→
   (∀ pre x W1,J pre W1→pre.length<N→YieldAt Fence.wide (n - 1) Tryz.prog l (encs x) W1 fun e W'=>Kp W1 W'∧((e= .returned (.bool true)∧J (pre++[x]) W')∨(e= .returned (.bool false)∧Jx (pre++[x]) W')))→
   J [] W→CallsIn Fence.wide n Tryz.prog gf (#[.func (.yield l) #[] #[]]++lb) W fun e W'=>(∃ v,e= .returned v)∧((∃ xs,S xs∧J xs W')∨ ∃ pre,Sp pre∧Jx pre W')
section
variable {α:Type} {g:Operand} {ps:Array Tmp} {assign body:Code} {Q:Exit→Act→World→Prop} {a:Act} {w:World} {n:Nat}
theorem range_inG {G:α→Prop} {l₀:Nat} {r₀:Loop} (hl₀:w.heap[l₀]? = some (.loop r₀)) (h1:1≤n) {gf:Nat} {lb:Array Value} (hg:a.eval g= .func (.func gf) #[] lb) (eg: ∀ args w,(callFunc gf args).run Tryz.prog w= .ok (.enter gf args) w)
   {encs:α→Array Value} {Kp:World→World→Prop} {S Sp:List α→Prop} {N:Nat} {w0:World} (hseq:SeqAnyG G (n - 1) gf lb encs Kp S Sp N (w.heap.size+1) w0)
   (hKt: ∀ A B C:World,Kp A B→Kp B C→Kp A C) (hKb: ∀ (W:World) (o o':Obj),W.heap[w.heap.size]? = some o→o.isCells=false→Kp W (W.putObj w.heap.size o')) (hb0:Below w0.heap.size w0 w) (hps: ∀ x,(encs x).size=ps.size)
   (I Ix:List α→World→Prop) (hIG: ∀ pre x W,I (pre++[x]) W→G x) (hI:OwnFrom w.heap.size I) (hIx:OwnFrom w.heap.size Ix) (h0:I [] w) (Ax:α→Act→World→Prop) (hAx: ∀ x a',OwnFrom w.heap.size (fun (_:Unit) W=>Ax x a' W))
   (hassign: ∀ (l:Nat) (pre:List α) (x:α) (W:World) (K:Act→World→Prop),I pre W→(∀ a' W',KeepsFrom w.heap.size W W'→Kp W W'→I pre W'→Ax x a' W'→K a' W')→
     assign.wpIn (Fence.wide.inRound l) (n - 1 - 1) Tryz.prog (Exit.then K (fun _ _ _=>False)) { tmps:=(ps.zip (encs x)).foldl (fun t (p,v)=>t.setIfInBounds p v) a.tmps,defers:=[] } W)
   (hbody: ∀ (l:Nat) (pre:List α) (x:α) (a':Act) (W:World),w.heap.size≤l→(∃ r,W.heap[l]? = some (.loop r))→I pre W→Ax x a' W→pre.length<N→body.wpIn (Fence.wide.inRound l) (n - 1 - 1) Tryz.prog (anyPost w.heap.size Kp I Ix (pre++[x]) W) a' W)
   (hdone: ∀ (xs:List α) (W:World),S xs→I xs W→Q .normal a W)
   (hstop: ∀ (pre:List α) (W:World),Sp pre→Ix pre W→Code.ret.wpIn (Fence.wide.inRound l₀) n Tryz.prog Q a W):
   (Code.rangeFunc g ps assign body).wpIn (Fence.wide.inRound l₀) n Tryz.prog Q a w:=by
 refine wpIn_rangeFunc fun fn hfn=> ?_
 obtain ⟨rec,hrec⟩: ∃ rec:LoopState→Option Code→Loop,rec=fun st pe=>{ state:=st,pending:=pe,fn,tmps:=a.tmps,params:=ps,assign,body,defers:=r₀.defers }:=⟨_,rfl⟩
 let d:=w.heap.size
 let W1:=w.alloc (.loop (rec .ready none))
 have hL1:W1.heap[d]? = some (.loop (rec .ready none)):=heap_alloc_new w _
 have hI1:I [] W1:=hI.alloc _ h0
 have hsz:W1.heap.size=d+1:=by simp [W1,d]
 have hw1:Below w0.heap.size w0 W1:=hb0.trans (((Below.refl _ w).alloc (Nat.le_refl _) _).mono hb0.size)
 refine ⟨d,[],W1,{ target:= .fn (.func gf) lb,args:= #[.func (.yield d) #[] #[]] },W1,gf,#[.func (.yield d) #[] #[]]++lb,W1,?_,?_,fun _ _=>trivial,?_,fun _=>h1,?_⟩
 · show (Instr.enterLoop fn a.tmps ps assign body (some l₀)).run Tryz.prog w=_
   rw [run_enterLoop_inner hl₀]
   simp only [W1,hrec,d]
 · simp only [resolve,hg];simp [go_sem]
 · simp [invoke,go_sem,eg]
 have hJ:OwnFrom W1.heap.size (fun (pre:List α) W=>I pre W∧W.heap[d]? = some (.loop (rec .ready none))):=fun s A B row hs hg' hr=>
   ⟨hI s A B row hs.1 hg' (fun r e=>⟨by have:=(hr r e).1;omega,(hr r e).2⟩),blk_turn hg' hr hs.2 (by omega)⟩
 have hJx:OwnFrom W1.heap.size (fun (pre:List α) W=>Ix pre W∧W.heap[d]? = some (.loop (rec .done (some .ret)))):=fun s A B row hs hg' hr=>
   ⟨hIx s A B row hs.1 hg' (fun r e=>⟨by have:=(hr r e).1;omega,(hr r e).2⟩),blk_turn hg' hr hs.2 (by omega)⟩
 refine (CallsIn.inRound l₀ (hseq d (fun pre W=>I pre W∧W.heap[d]? = some (.loop (rec .ready none))) (fun pre W=>Ix pre W∧W.heap[d]? = some (.loop (rec .done (some .ret)))) W1 hw1 (by omega) hJ hJx (fun pre x W h=>hIG pre x W h.1) ?_ ⟨hI1,hL1⟩)).mono ?_
 · rintro pre x W ⟨hi,hb⟩ hlen
   have hy:=run_yield (P:=Tryz.prog) (args:=encs x) hb (by rw [hrec];exact hps x)
   rw [hrec] at hy
   refine ⟨fn,_,assign,body,hy,roundIn_of_wpIn hfn (hassign d pre x W _ hi fun a' Wa hkf hkp hia hax=> ?_)⟩
   have hba:=hkf.same _ _ (Nat.le_refl _) hb rfl
   refine ⟨_,run_beginRound hba (by rw [hrec]),?_⟩
   have hbb:(Wa.putObj d (.loop { rec .ready none with state:= .busy })).heap[d]? = some (.loop { rec .ready none with state:= .busy }):=World.putObj_heap_same (blk_lt hba)
   have hkb:Kp Wa (Wa.putObj d (.loop { rec .ready none with state:= .busy })):=hKb _ _ _ hba rfl
   refine wpIn_mono (hbody d pre x a' _ (Nat.le_refl _) ⟨_,hbb⟩ (hI.putObj _ hia (Nat.le_refl _) hba rfl) ((hAx x a').putObj (s:=()) _ hax (Nat.le_refl _) hba rfl) hlen) ?_
   have fin: ∀ (jump:Option Code) (W3:World),KeepsFrom d (Wa.putObj d (.loop { rec .ready none with state:= .busy })) W3→
       (Instr.endRound d jump).run Tryz.prog W3= .ok (.bool jump.isNone) (W3.putObj d (.loop (rec (if jump.isNone then .ready else .done) jump)))∧
       W3.heap[d]? = some (.loop { rec .ready none with state:= .busy })∧
       (W3.putObj d (.loop (rec (if jump.isNone then .ready else .done) jump))).heap[d]? = some (.loop (rec (if jump.isNone then .ready else .done) jump)):=fun jump W3 hk3=>by
     have hl3:=hk3.same _ _ (Nat.le_refl _) hbb rfl
     have:=run_endRound (P:=Tryz.prog) jump hl3
     rw [hrec] at this ⊢
     exact ⟨this,by rw [hrec] at hl3;exact hl3,World.putObj_heap_same (blk_lt hl3)⟩
   rintro e a3 W3 hp
   cases e with
   | normal=>
     obtain ⟨hkf3,hkp3,hi3⟩:=hp
     obtain ⟨hr,hl3,hl4⟩:=fin none W3 hkf3
     exact ⟨_,_,hr,hKt _ _ _ hkp (hKt _ _ _ hkb (hKt _ _ _ hkp3 (hKb _ _ _ hl3 rfl))),.inl ⟨rfl,hI.putObj _ hi3 (Nat.le_refl _) hl3 rfl,hl4⟩⟩
   | ret=>
     obtain ⟨hkf3,hkp3,hi3⟩:=hp
     obtain ⟨hr,hl3,hl4⟩:=fin (some .ret) W3 hkf3
     exact ⟨_,_,hr,hKt _ _ _ hkp (hKt _ _ _ hkb (hKt _ _ _ hkp3 (hKb _ _ _ hl3 rfl))),.inr ⟨rfl,hIx.putObj _ hi3 (Nat.le_refl _) hl3 rfl,hl4⟩⟩
   | exit id=>exact hp.elim
   | goto t=>exact hp.elim
   | panic ch=>exact hp.elim
   | outgrown=>exact hp.elim
 · rintro e W2 ⟨⟨v,rfl⟩,(⟨xs,hS,hi,hb⟩ | ⟨pre,hSp,hi,hb⟩)⟩
   · have hh:(rec .ready none).state≠ .busy:=by rw [hrec];simp
     have hp:(rec .ready none).pending=none:=by rw [hrec]
     refine ⟨_,_,run_endLoop hb hh,?_⟩
     rw [hp]
     exact hdone xs _ hS (hI.putObj _ hi (Nat.le_refl _) hb rfl)
   · have hh:(rec .done (some .ret)).state≠ .busy:=by rw [hrec];simp
     have hp:(rec .done (some .ret)).pending=some .ret:=by rw [hrec]
     refine ⟨_,_,run_endLoop hb hh,?_⟩
     rw [hp]
     exact hstop pre _ hSp (hIx.putObj _ hi (Nat.le_refl _) hb rfl)
end
attribute [local go_sem ↓] loadVar_clus storeVar_clus zeroValue_clus loadVar_tab storeVar_tab zeroValue_tab loadVar_cnt storeVar_cnt zeroValue_cnt loadVar_head storeVar_head zeroValue_head build_head buildSlice_clus loadVar_wr storeVar_wr zeroValue_wr build_wr buildSlice_wr equalIn_clus loadVar_place storeVar_place zeroValue_place build_place
attribute [local go_sem] run_loadClus run_storeClus run_zeroClus run_storeClus_new run_loadClus_new zc_length run_loadTab run_storeTab run_zeroTab run_storeTab_new run_loadTab_new zt_length run_loadCnt run_storeCnt run_zeroCnt run_storeCnt_new run_loadCnt_new zk_length run_loadHead run_storeHead run_zeroHead run_storeHead_new run_bHead HasAt_drew cellsAt_drew HasAt_drewN cellsAt_drewN run_bsClus run_loadWr run_zeroWr run_storeWr run_storeWr_new run_bWr0 run_bsWr run_loadPlace run_storePlace run_zeroPlace run_storePlace_new run_bPlace
attribute [local go_sem] field_head1 field_head0 Oper.semAt_some
def Free (_:Nat):Prop:=True
abbrev SpotF:=SpotR Free
theorem freeNums (C:List Clus) (t:Nat):NumsOK Free C t:=fun _=>⟨numsOf_lt _ _,fun _=>trivial⟩
def flatF (V:VolR) (ss:List SpotF):List SpotF:=ss.flatMap fun s=>s :: spots V (s.number%32768) (freeNums V.C (s.number%32768))
def toldFree (V:VolR) (first:Nat):List SpotF:=flatF V (spots V first (freeNums V.C first))
theorem flatF_snoc {V:VolR} (ss:List SpotF) (s:SpotF):flatF V (ss++[s])=flatF V ss++(s :: spots V (s.number%32768) (freeNums V.C (s.number%32768))):=by simp [flatF]
theorem flatF_pre {V:VolR} {a b:List SpotF} (h:a <+: b):flatF V a <+: flatF V b:=by
 obtain ⟨r,rfl⟩:=h
 exact ⟨flatF V r,by simp [flatF]⟩
theorem flatF_len (V:VolR): ∀ ss:List SpotF,(flatF V ss).length≤33*ss.length
 | []=>by simp [flatF]
 | s :: ss=>by
   have h1:=flatF_len V ss
   have h2:=spots_len V (s.number%32768) (freeNums V.C (s.number%32768))
   have:flatF V (s :: ss)=(s :: spots V (s.number%32768) (freeNums V.C (s.number%32768)))++flatF V ss:=by simp [flatF]
   rw [this,List.length_append,List.length_cons,List.length_cons]
   omega
theorem told_free (n:Nat) (hn:10≤n) (X:Nat→Prop) (v bv bt first B:Nat) (V:VolR) (Cv Lv:Value) (w:World) (hV:VolAt w v Cv Lv V)
   (hbv:w.heap[bv]? = some (.cells #[.pointer (some ⟨v,0,none⟩)] 82 (0,0))) (hbt:w.heap[bt]? = some (.cells #[.int .i64 (first:Nat)] 3 (0,0))) (hXt: ¬ X bt) (hXv: ¬ X bv) (hft: ¬ foot v Cv Lv bt) (hfv: ¬ foot v Cv Lv bv)
   (hXB: ∀ k,X k→k<B) (hF:first<V.C.length):
   SeqAnyG (fun s:SpotF=>s.number%32768<V.C.length) n 174 #[.pointer (some ⟨bv,0,none⟩),.pointer (some ⟨bt,0,none⟩)] (fun x:SpotF=> #[spotVal x]) (KeepV X (fun k=>B≤k) v EqV) (fun ys=>ys=toldFree V first) (fun pre=>pre <+: toldFree V first) 1056 B w:=by
 intro l J Jx W hW hBW hJ hJx hG hY h0
 have hXW: ∀ k,W.heap.size≤k→ ¬ X k:=fun k hk hx=>by have:=hXB _ hx;omega
 have B0:Besides X v [(bv,.cells #[.pointer (some ⟨v,0,none⟩)] 82 (0,0)),(bt,.cells #[.int .i64 (first:Nat)] 3 (0,0))] (EqV V) W:=by
   refine ⟨⟨Cv,Lv,V,hV.below hW,rfl,?_⟩,?_,?_,?_⟩
   · intro x hx
     simp only [List.mem_cons,List.not_mem_nil,or_false] at hx
     rcases hx with rfl | rfl
     · exact hfv
     · exact hft
   · intro x hx
     simp only [List.mem_cons,List.not_mem_nil,or_false] at hx
     rcases hx with rfl | rfl
     · exact (hW.block _ (blk_lt hbv)).trans hbv
     · exact (hW.block _ (blk_lt hbt)).trans hbt
   · intro x hx
     simp only [List.mem_cons,List.not_mem_nil,or_false] at hx
     rcases hx with rfl | rfl <;> rfl
   · intro x hx
     simp only [List.mem_cons,List.not_mem_nil,or_false] at hx
     rcases hx with rfl | rfl
     · exact hXv
     · exact hXt
 have B1:=B0.lay (.cells #[.func (.yield l) #[] #[]] 244) rfl (hXW _ (Nat.le_refl _))
 have hJ1:J [] (W.alloc (.cells #[.func (.yield l) #[] #[]] 244)):=hJ.alloc _ h0
 have c1:(W.alloc (.cells #[.func (.yield l) #[] #[]] 244)).cell? ⟨bv,0,none⟩=some (.pointer (some ⟨v,0,none⟩)):=(cell_blk B1.b1 0).trans rfl
 have c2:(W.alloc (.cells #[.func (.yield l) #[] #[]] 244)).cell? ⟨bt,0,none⟩=some (.int .i64 (first:Nat)):=(cell_blk B1.b2 0).trans rfl
 have hs1:(W.alloc (.cells #[.func (.yield l) #[] #[]] 244)).heap.size=W.heap.size+1:=by simp
 have hV1:VolAt (W.alloc (.cells #[.func (.yield l) #[] #[]] 244)) v Cv Lv V:=(hV.below hW).alloc _
 refine callsIn_of_wp_marks Tryz.func174 rfl trivial ?_ rfl
 simp only [Tryz.ntmps174,List.size_toArray,List.length_cons,List.length_nil,Nat.reduceAdd,Nat.reduceSub,Array.replicate_succ,Array.replicate_zero,List.push_toArray,List.append_toArray,List.nil_append,List.cons_append]
 have Hn:=hide (numbers_make (W.alloc (.cells #[.func (.yield l) #[] #[]] 244)) v first)
 have hn4:=(B1.lay (.cells #[.pointer (some ⟨v,0,none⟩)] 82) rfl (hXW _ (by omega))).lay (.cells #[.int .i64 (first:Nat)] 3) rfl (hXW _ (by simp;omega))
 simp only [World.size_alloc] at hn4 Hn
 have hb4:=hide hn4
 have B4:=hide (hn4.sub (cs:=[(W.heap.size,.cells #[.func (.yield l) #[] #[]] 244 (0,0)),(bv,.cells #[.pointer (some ⟨v,0,none⟩)] 82 (0,0))]) (by simp))
 have hJ4:=hide ((ownFrom_up hJ (C:=W.heap.size) (Nat.le_refl _)).alloc (.cells #[.int .i64 (first:Nat)] 3) (hJ.alloc (.cells #[.pointer (some ⟨v,0,none⟩)] 82) hJ1))
 have HV1:=hide hV1
 have hft1:=fun hf=>hV1.foot_lt (W.heap.size+1+1) hf
 clear B0 B1 hbt hbv h0 hn4 hJ1 hV1
 gi_wp2_with fail
 refine ⟨trivial,fun _=>by omega,(callsIn_wide.2 (uh Hn)).mono ?_⟩
 rintro e W4 ⟨rfl,rfl⟩
 gi_wp2_with fail
 generalize hW4:((W.alloc (.cells #[.func (.yield l) #[] #[]] 244)).alloc (.cells #[.pointer (some ⟨v,0,none⟩)] 82)).alloc (.cells #[.int .i64 (first:Nat)] 3)=W4 at*
 have hV4:VolAt W4 v Cv Lv V:=by rw [← hW4];exact ((uh HV1).alloc _).alloc _
 have hs4:W4.heap.size=W.heap.size+3:=by rw [← hW4];simp
 have hNS:=numbers_stops (Pc:=Free) (n - 1) (by omega) X (fun _=>False) EqV v (W.heap.size+1) (W.heap.size+1+1) first V Cv Lv W4 hV4 (uh hb4).b1 (uh hb4).b0 (hXW _ (by omega)) (fun hf=>by have:=hft1 hf;rw [hs1] at this;omega) hF (freeNums V.C first)
 clear hb4 hW4 HV1 c1 c2 hV4 Hn
 refine wpIn_rangeFunc_ownH rfl (by omega) (gf:=182) (lb:= #[.pointer (some ⟨W.heap.size+1,0,none⟩),.pointer (some ⟨W.heap.size+1+1,0,none⟩)]) rfl trivial (enters_of Tryz.func182 (by kernel_rfl) rfl) hNS (fun h k=>KeepV.trans (R:=EqV) (fun _ _ _ a b=>Eq.trans a b) h k) (fun W l o o' _ hl hc _=>KeepV.turn (R:=EqV) (fun _=>rfl) W l o o' hl hc id) (Below.refl _ _) (fun _=>rfl)
   (fun pre W'=>J (flatF V pre) W'∧Besides X v [(W.heap.size,.cells #[.func (.yield l) #[] #[]] 244 (0,0)),(bv,.cells #[.pointer (some ⟨v,0,none⟩)] 82 (0,0))] (EqV V) W')
   (fun c pre W'=>c= .ret∧ ∃ tot,tot <+: flatF V pre∧Jx tot W')
   (fun _ _ _ _ hs hg hr=>⟨hJ _ _ _ _ hs.1 hg (fun r e=>⟨by have:=(hr r e).1;omega,(hr r e).2⟩),hs.2.turned hg (fun r e=>(hr r e).2)⟩)
   (fun _ _ _ _ _ hs hg hr=>by obtain ⟨e,tot,h1,h2⟩:=hs;exact ⟨e,tot,h1,hJx _ _ _ _ h2 hg (fun r e=>⟨by have:=(hr r e).1;omega,(hr r e).2⟩)⟩)
   ⟨uh hJ4,uh B4⟩
   (fun x a' W'=> ∃ bx,Besides X v [(bx,.cells #[.int .i64 ((x.table:Nat):Int),.int .i64 ((x.index:Nat):Int),.int .u16 ((x.number:Nat):Int)] 219 (0,0))] (EqV V) W'∧a'={ tmps:= #[.func (.yield l) #[] #[],.pointer (some ⟨bv,0,none⟩),.pointer (some ⟨bt,0,none⟩),.pointer (some ⟨W.heap.size,0,none⟩),.pointer (some ⟨bx,0,none⟩),undef,.pointer (some ⟨v,0,none⟩),.int .i64 (first:Nat),.func (.func 182) #[] #[.pointer (some ⟨W.heap.size+1,0,none⟩),.pointer (some ⟨W.heap.size+1+1,0,none⟩)],spotVal x,undef,undef,undef,undef,undef,undef,undef,undef,undef,undef,undef,undef,undef,undef],defers:=[] })
   (fun x a' _ A' B' row hs hg hr=>by
     obtain ⟨bx,h2,h3⟩:=hs
     exact ⟨bx,h2.turned hg (fun r e=>(hr r e).2),h3⟩)
   ?assign ?body ?done ?stop
 case assign=>
   rintro l2 pre x W' K ⟨hJp,hBx⟩ hK
   have hsz:W.heap.size<W'.heap.size:=blk_lt hBx.b0
   unfold spotVal
   gi_wp2
   exact hK _ _ ((KeepsOthers.alloc _ _).from _) (KeepV.below (R:=EqV) (fun _=>rfl) ((Below.refl _ _).alloc (Nat.le_refl _) _)) ⟨hJ.alloc _ hJp,hBx.below ((Below.refl _ _).alloc (Nat.le_refl _) _)⟩ ⟨_,(hBx.lay _ rfl (hXW _ (by omega))).sub (by simp),rfl⟩
 case body=>
   rintro l2 pre x a' W' hl2 ⟨r,hr⟩ ⟨hJp,hBx⟩ ⟨bx,hAx,rfl⟩ hlen
   have BB:=hAx.join hBx
   have hfl:=flatF_len V pre
   have c0:W'.cell? ⟨W.heap.size,0,none⟩=some (.func (.yield l) #[] #[]):=(cell_blk BB.b1 0).trans rfl
   have c1:W'.cell? ⟨bx,0,none⟩=some (.int .i64 ((x.table:Nat):Int)):=(cell_blk BB.b0 0).trans rfl
   have c2:W'.cell? ⟨bx,1,none⟩=some (.int .i64 ((x.index:Nat):Int)):=(cell_blk BB.b0 1).trans rfl
   have c3:W'.cell? ⟨bx,2,none⟩=some (.int .u16 ((x.number:Nat):Int)):=(cell_blk BB.b0 2).trans rfl
   obtain ⟨fn2,tmps2,assign2,body2,hy2,hR2⟩:=yield_deep (m':=n - 1 - 1 - 1) (hY (flatF V pre) (x) W' hJp (by omega))
   have hy2':(Instr.yield l #[.agg #[.int .i64 ((x.table:Nat):Int),.int .i64 ((x.index:Nat):Int),.int .u16 ((x.number:Nat):Int)]]).run Tryz.prog W'= .ok (.round l fn2 tmps2 assign2 body2) W':=hy2
   have BB:=hide BB
   have Hr:=hide hr
   clear hBx hAx hJp hy2
   gi_wp2_with fail
   refine ⟨fun _=>by omega,RoundIn.mono hR2 ?_⟩
   rintro e W5 ⟨hK5,(⟨rfl,hJ5⟩ | ⟨rfl,hJx5⟩)⟩
   rotate_left
   · have hKF:KeepsFrom W4.heap.size W' W5:=⟨hK5.1,fun k o hB hk ho=>hK5.2.1 k o hk ho (by omega)⟩
     gi_wp2
     exact ⟨hKF,rfl,flatF V pre++[x],⟨spots V (x.number%32768) (freeNums V.C (x.number%32768)),by rw [flatF_snoc];simp⟩,hJx5⟩
   have hKF:KeepsFrom W4.heap.size W' W5:=⟨hK5.1,fun k o hB hk ho=>hK5.2.1 k o hk ho (by omega)⟩
   have hgx:=hG _ _ _ hJ5
   have B5:=(uh BB).keep (fun _ _ a b=>Eq.trans a b) hK5
   have d0:W5.cell? ⟨bv,0,none⟩=some (.pointer (some ⟨v,0,none⟩)):=(cell_blk B5.b2 0).trans rfl
   have d1:W5.cell? ⟨bx,2,none⟩=some (.int .u16 ((x.number:Nat):Int)):=(cell_blk B5.b0 2).trans rfl
   have hK5':KeepV X (fun _=>False) v EqV W' W5:=hK5.weak (Y':=fun _=>False) (fun _ h=>False.elim h)
   have Hc:Hid (∀ W,_):=fun W=>cluster_of x.number x.hn W
   have Hm:Hid (∀ W,_):=fun W=>numbers_make W v (x.number%32768)
   have hs5:W.heap.size<W5.heap.size:=blk_lt B5.b1
   have B5:=hide B5
   have hKF:=hide hKF
   have hK5':=hide hK5'
   clear hK5 BB c0 c1 c2 c3 hR2
   gi_wp2
   gi_cut [18] from 14 (fun s18 wc=>s18= .func (.func 182) #[] #[.pointer (some ⟨W5.heap.size,0,none⟩),.pointer (some ⟨W5.heap.size+1,0,none⟩)]∧wc=(W5.drew.alloc (.cells #[.pointer (some ⟨v,0,none⟩)] 82)).alloc (.cells #[.int .i64 ((x.number%32768:Nat):Int)] 3))
   case first=>
     gi_region_with (first
       | (refine ⟨trivial,fun _=>by omega,(CallsIn.inRound l2 (callsIn_wide.2 (uh Hc _))).mono ?_⟩
          rintro e w3 ⟨rfl,rfl⟩)
       | (refine ⟨trivial,fun _=>by omega,(CallsIn.inRound l2 (callsIn_wide.2 (uh Hm _))).mono ?_⟩
          rintro e w3 ⟨rfl,rfl⟩))
     all_goals
       gi_wp2
       gi_meet
       exact ⟨rfl,rfl⟩
   case rest=>
     obtain ⟨rfl,hwc⟩:=hcut
     have B6:=(((uh B5).below (B:=W5.drew) ⟨rfl,rfl,rfl,Nat.le_refl _,fun _ _=>rfl⟩).lay (.cells #[.pointer (some ⟨v,0,none⟩)] 82) rfl (hXW _ (by show W.heap.size≤W5.heap.size;omega))).lay (.cells #[.int .i64 ((x.number%32768:Nat):Int)] 3) rfl (hXW _ (by rw [World.size_alloc];show W.heap.size≤W5.heap.size+1;omega))
     have hJ6:J (flatF V pre++[x]) wc:=by
       rw [hwc]
       exact hJ.alloc _ (hJ.alloc _ (hJ _ W5 W5.drew none hJ5 ⟨rfl,rfl,rfl,Nat.le_refl _,fun _ _ _=>rfl⟩ (fun r e=>by cases e)))
     have hbl:Below W5.heap.size W5 wc:=by
       rw [hwc]
       exact ((Below.refl _ W5).drew.alloc (Nat.le_refl _) _).alloc (by rw [World.size_alloc];show W5.heap.size≤W5.heap.size+1;omega) _
     have hs6:wc.heap.size=W5.heap.size+2:=by rw [hwc];simp
     rw [← hwc] at B6
     simp only [World.size_alloc] at B6
     change Besides X v ((W5.heap.size+1,_) :: (W5.heap.size,_) :: _) (EqV V) wc at B6
     have hKF6:KeepsFrom W4.heap.size W' wc:=(uh hKF).trans ⟨hbl.size,fun k o _ hk _=>(hbl.block k (blk_lt hk)).trans hk⟩
     have hK6:KeepV X (fun _=>False) v EqV W' wc:=KeepV.trans (R:=EqV) (fun _ _ _ a b=>Eq.trans a b) (uh hK5') (KeepV.below (R:=EqV) (fun _=>rfl) hbl)
     have hr6:wc.heap[l2]? = some (.loop r):=hKF6.same l2 _ hl2 (uh Hr) rfl
     have hWc:W'.heap.size≤wc.heap.size:=hKF6.size
     obtain ⟨C6,L6,V6,hV6,hE6,hf6⟩:=B6.vol
     obtain rfl:V=V6:=hE6
     have hNS2:=numbers_stops (Pc:=Free) (n - 1 - 1 - 1) (by omega) X (fun _=>False) EqV v W5.heap.size (W5.heap.size+1) (x.number%32768) V C6 L6 wc hV6 B6.b1 B6.b0 (hXW _ (by omega)) (hf6 _ (List.Mem.head _)) hgx (freeNums V.C (x.number%32768))
     have B7:=hide (B6.sub (cs:=[(W.heap.size,.cells #[.func (.yield l) #[] #[]] 244 (0,0)),(bv,.cells #[.pointer (some ⟨v,0,none⟩)] 82 (0,0))]) (by simp))
     have hlx:(flatF V pre).length≤33*31:=by omega
     clear B6 B5 hwc Hc Hm d0 d1 hJ5 hV6 hf6 hNS hKF hK5' Hr hbl
     gi_wp2
     refine wpIn_rangeFunc_ownN (l₀:=l2) (r₀:=r) rfl hr6 (by omega) (gf:=182) (lb:= #[.pointer (some ⟨W5.heap.size,0,none⟩),.pointer (some ⟨W5.heap.size+1,0,none⟩)]) rfl trivial (enters_of Tryz.func182 (by kernel_rfl) rfl)
       (hNS2.inRound l2) (fun h k=>KeepV.trans (R:=EqV) (fun _ _ _ a b=>Eq.trans a b) h k) (fun W l o o' _ hl hc _=>KeepV.turn (R:=EqV) (fun _=>rfl) W l o o' hl hc id) (Below.refl _ _) (fun _=>rfl)
       (fun ip W7=>J (flatF V pre++x :: ip) W7∧Besides X v [(W.heap.size,.cells #[.func (.yield l) #[] #[]] 244 (0,0)),(bv,.cells #[.pointer (some ⟨v,0,none⟩)] 82 (0,0))] (EqV V) W7∧KeepsFrom W4.heap.size W' W7∧KeepV X (fun _=>False) v EqV W' W7)
       (fun c ip W7=>c= .ret∧Jx (flatF V pre++x :: ip) W7∧KeepsFrom W4.heap.size W' W7)
       (fun s A B row hs hg hr=>⟨hJ _ _ _ _ hs.1 hg (fun r e=>⟨by have:=(hr r e).1;omega,(hr r e).2⟩),hs.2.1.turned hg (fun r e=>(hr r e).2),ownFrom_keepsFrom (β:=Unit) hWc () A B row hs.2.2.1 hg hr,ownFrom_keepV (R:=EqV) (fun _=>rfl) (fun _ _ _ a b=>Eq.trans a b) (β:=Unit) () A B row hs.2.2.2 hg hr⟩)
       (fun c s A B row hs hg hr=>⟨hs.1,hJx _ _ _ _ hs.2.1 hg (fun r e=>⟨by have:=(hr r e).1;omega,(hr r e).2⟩),ownFrom_keepsFrom (β:=Unit) hWc () A B row hs.2.2 hg hr⟩)
       ⟨hJ6,uh B7,hKF6,hK6⟩
       (fun y a'' W7=> ∃ bx2,W7.heap[bx2]? = some (.cells #[.int .i64 ((y.table:Nat):Int),.int .i64 ((y.index:Nat):Int),.int .u16 ((y.number:Nat):Int)] 219 (0,0))∧a''={ tmps:= #[.func (.yield l) #[] #[],.pointer (some ⟨bv,0,none⟩),.pointer (some ⟨bt,0,none⟩),.pointer (some ⟨W.heap.size,0,none⟩),.pointer (some ⟨bx,0,none⟩),.pointer (some ⟨bx2,0,none⟩),.pointer (some ⟨v,0,none⟩),.int .i64 (first:Nat),.func (.func 182) #[] #[.pointer (some ⟨W.heap.size+1,0,none⟩),.pointer (some ⟨W.heap.size+1+1,0,none⟩)],spotVal x,.func (.yield l) #[] #[],.agg #[.int .i64 ((x.table:Nat):Int),.int .i64 ((x.index:Nat):Int),.int .u16 ((x.number:Nat):Int)],.bool true,.bool false,u14,u15,u16,u17,.func (.func 182) #[] #[.pointer (some ⟨W5.heap.size,0,none⟩),.pointer (some ⟨W5.heap.size+1,0,none⟩)],spotVal y,u20,u21,u22,u23],defers:=[] })
       (fun y a'' _ A' B' row hs hg hr=>by
         obtain ⟨bx2,h2,h3⟩:=hs
         refine ⟨bx2,?_,h3⟩
         rw [hg.block bx2 (blk_lt h2) (fun e=>by
           obtain ⟨_,o,ho,hc⟩:=hr bx2 e.symm
           rw [h2] at ho
           injection ho with ho
           subst ho
           cases hc)]
         exact h2)
       ?assign2 ?body2 ?done2 ?stop2
     case assign2=>
       rintro l3 ip y W7 K ⟨g1,g2,g3,g4⟩ hK
       unfold spotVal
       gi_wp2
       have hb:Below W7.heap.size W7 (W7.alloc (.cells #[.int .i64 ((y.table:Nat):Int),.int .i64 ((y.index:Nat):Int),.int .u16 ((y.number:Nat):Int)] 219)):=(Below.refl _ _).alloc (Nat.le_refl _) _
       exact hK _ _ ((KeepsOthers.alloc _ _).from _) (KeepV.below (R:=EqV) (fun _=>rfl) hb) ⟨hJ.alloc _ g1,g2.below hb,g3.trans ((KeepsOthers.alloc _ _).from _),KeepV.trans (R:=EqV) (fun _ _ _ a b=>Eq.trans a b) g4 (KeepV.below (R:=EqV) (fun _=>rfl) hb)⟩ ⟨_,heap_alloc_new _ _,rfl⟩
     case stop2=>
       rintro c ip W7 hSp ⟨rfl,g1,g2⟩
       gi_wp2
       exact ⟨g2,rfl,flatF V pre++x :: ip,by
         rw [flatF_snoc]
         obtain ⟨rr,hrr⟩:=hSp
         exact ⟨rr,by rw [← hrr];simp⟩,g1⟩
     case done2=>
       rintro ip W7 hS ⟨g1,g2,g3,g4⟩
       gi_wp2
       refine ⟨g3,g4,?_,g2⟩
       rw [flatF_snoc,← hS]
       exact g1
     case body2=>
       rintro l3 ip y a'' W7 hl3 _ ⟨g1,g2,g3,g4⟩ ⟨bx2,hbx2,rfl⟩ hlen2
       have e0:W7.cell? ⟨W.heap.size,0,none⟩=some (.func (.yield l) #[] #[]):=(cell_blk g2.b0 0).trans rfl
       have e1:W7.cell? ⟨bx2,0,none⟩=some (.int .i64 ((y.table:Nat):Int)):=(cell_blk hbx2 0).trans rfl
       have e2:W7.cell? ⟨bx2,1,none⟩=some (.int .i64 ((y.index:Nat):Int)):=(cell_blk hbx2 1).trans rfl
       have e3:W7.cell? ⟨bx2,2,none⟩=some (.int .u16 ((y.number:Nat):Int)):=(cell_blk hbx2 2).trans rfl
       have hap:flatF V pre++x :: (ip++[y])=(flatF V pre++x :: ip)++[y]:=by simp
       obtain ⟨fn3,tmps3,assign3,body3,hy3,hR3⟩:=yield_deep (m':=n - 1 - 1 - 1 - 1 - 1) (hY (flatF V pre++x :: ip) y W7 g1 (by rw [List.length_append,List.length_cons];omega))
       have hy3':(Instr.yield l #[.agg #[.int .i64 ((y.table:Nat):Int),.int .i64 ((y.index:Nat):Int),.int .u16 ((y.number:Nat):Int)]]).run Tryz.prog W7= .ok (.round l fn3 tmps3 assign3 body3) W7:=hy3
       have G2:=hide g2
       have G3:=hide g3
       have G4:=hide g4
       clear hy3 g1 g2 g3 g4 hbx2 hNS2 B7 hJ6 hKF6 hK6 hr6
       gi_wp2_with fail
       refine ⟨fun _=>by omega,RoundIn.mono hR3 ?_⟩
       rintro e W8 ⟨hK8,(⟨rfl,hJ8⟩ | ⟨rfl,hJx8⟩)⟩
       · have hKF8: ∀ b,B≤b→KeepsFrom b W7 W8:=fun b hb=>⟨hK8.1,fun k o hB hk ho=>hK8.2.1 k o hk ho (by omega)⟩
         have hK8':KeepV X (fun _=>False) v EqV W7 W8:=hK8.weak (Y':=fun _=>False) (fun _ h=>False.elim h)
         have f1:=hKF8 wc.heap.size (by omega)
         have f2:=(uh G2).keep (fun _ _ a b=>Eq.trans a b) hK8
         have f3:=(uh G3).trans (hKF8 W4.heap.size (by omega))
         have f4:=KeepV.trans (R:=EqV) (fun _ _ _ a b=>Eq.trans a b) (uh G4) hK8'
         rw [← hap] at hJ8
         gi_wp2
         exact ⟨f1,hK8',hJ8,f2,f3,f4⟩
       · have hKF8: ∀ b,B≤b→KeepsFrom b W7 W8:=fun b hb=>⟨hK8.1,fun k o hB hk ho=>hK8.2.1 k o hk ho (by omega)⟩
         have f1:=hKF8 wc.heap.size (by omega)
         have f3:=(uh G3).trans (hKF8 W4.heap.size (by omega))
         rw [← hap] at hJx8
         gi_wp2
         exact ⟨f1,rfl,hJx8,f3⟩
 case done=>
   rintro D ys W' hD hS ⟨hJp,_⟩ hK
   gi_wp2
   refine ⟨by simp,.inl ⟨_,_,rfl,run_takeDeferred hK,?_⟩⟩
   refine ⟨_,results_none rfl _ _ _,⟨_,rfl⟩,.inl ⟨_,?_,hJ.putObj _ hJp (by omega) hK rfl⟩⟩
   rw [hS];rfl
 case stop=>
   rintro D c pre W' hD hSp ⟨rfl,tot,h1,h2⟩ hK
   gi_wp2
   refine ⟨by simp,.inl ⟨_,_,rfl,run_takeDeferred hK,?_⟩⟩
   exact ⟨_,results_none rfl _ _ _,⟨_,rfl⟩,.inr ⟨tot,h1.trans (flatF_pre hSp),hJx.putObj _ h2 (by omega) hK rfl⟩⟩
end Go.Proofs.YtknjjjenklfeoaaGreatDoor
namespace Go.Proofs.YtknjjjenklfeoaaGreatDoor
open Go.RowKit Go.Shelf
attribute [local go_sem ↓] loadVar_clus storeVar_clus zeroValue_clus loadVar_tab storeVar_tab zeroValue_tab loadVar_cnt storeVar_cnt zeroValue_cnt loadVar_head storeVar_head zeroValue_head build_head buildSlice_clus loadVar_wr storeVar_wr zeroValue_wr build_wr buildSlice_wr equalIn_clus loadVar_place storeVar_place zeroValue_place build_place loadVar_lst storeVar_lst zeroValue_lst storeVar_ent build_ent
attribute [local go_sem] run_loadClus run_storeClus run_zeroClus run_storeClus_new run_loadClus_new zc_length run_loadTab run_storeTab run_zeroTab run_storeTab_new run_loadTab_new zt_length run_loadCnt run_storeCnt run_zeroCnt run_storeCnt_new run_loadCnt_new zk_length run_loadHead run_storeHead run_zeroHead run_storeHead_new run_bHead HasAt_drew cellsAt_drew HasAt_drewN cellsAt_drewN run_bsClus run_loadWr run_zeroWr run_storeWr run_storeWr_new run_bWr0 run_bsWr run_loadPlace run_storePlace run_zeroPlace run_storePlace_new run_bPlace run_loadLst run_storeLst run_zeroLst run_storeLst_new run_storeEnt run_bEnt
attribute [local go_sem] field_head1 field_head0 Oper.semAt_some
attribute [local go_sem ↓] loadVar_ent zeroValue_ent
attribute [local go_sem] run_loadEnt run_zeroEnt run_storeEnt_new
theorem firsts_any {Pc:Nat→Prop} (n:Nat) (hn:10≤n) (X:Nat→Prop) (v bv B:Nat) (V:VolR) (Cv Lv:Value) (w:World) (hV:VolAt w v Cv Lv V)
   (hbv:w.heap[bv]? = some (.cells #[.pointer (some ⟨v,0,none⟩)] 82 (0,0))) (hXv: ¬ X bv) (hfv: ¬ foot v Cv Lv bv)
   (hXB: ∀ k,X k→k<w.heap.size) (h5:5<V.C.length) (hP: ∀ t ∈ firstsOf V,Pc t):
   SeqAny n 173 #[.pointer (some ⟨bv,0,none⟩)] (fun x:UM Pc=> #[Value.int .i64 ((x.1:Nat):Int)]) (KeepV X (fun k=>B≤k) v SameNum) (fun ys=>ys.map (·.1)=firstsOf V) (fun pre=>pre.map (·.1) <+: firstsOf V) 5 B w:=by
 intro l J Jx W hW hBW hJ hJx hY h0
 have B0:Besides X v [(bv,.cells #[.pointer (some ⟨v,0,none⟩)] 82 (0,0))] (SameNum V) W:=by
   refine ⟨⟨Cv,Lv,V,hV.below hW,SameNum.refl V,?_⟩,?_,?_,?_⟩
   · intro x hx;simp only [List.mem_cons,List.not_mem_nil,or_false] at hx;subst hx;exact hfv
   · intro x hx;simp only [List.mem_cons,List.not_mem_nil,or_false] at hx;subst hx;exact (hW.block _ (blk_lt hbv)).trans hbv
   · intro x hx;simp only [List.mem_cons,List.not_mem_nil,or_false] at hx;subst hx;rfl
   · intro x hx;simp only [List.mem_cons,List.not_mem_nil,or_false] at hx;subst hx;exact hXv
 have hXW: ∀ k,W.heap.size≤k→ ¬ X k:=fun k hk hx=>by have:=hXB _ hx;have:=hW.size;omega
 have c1:W.cell? ⟨bv,0,none⟩=some (.pointer (some ⟨v,0,none⟩)):=(cell_blk B0.b0 0).trans rfl
 have Hh:=hide (head_vol W v Cv Lv V (hV.below hW) (by omega))
 have hP0:Pc (num (cl V.C 0) 6):=hP _ (by simp [firstsOf])
 have B0:=hide B0
 refine callsIn_of_wp Tryz.func173 rfl trivial ?_ rfl
 simp only [Tryz.ntmps173,List.size_toArray,List.length_cons,List.length_nil,Nat.reduceAdd,Nat.reduceSub,Array.replicate_succ,Array.replicate_zero,List.push_toArray,List.append_toArray,List.nil_append,List.cons_append]
 gi_wp2_with fail
 refine ⟨trivial,fun _=>by omega,(callsIn_wide.2 (uh Hh)).mono ?_⟩
 rintro e W1 ⟨rfl,hb1⟩
 have B1:=(uh B0).below hb1
 have hJ1:J [] W1:=hJ [] W W1 none h0 ⟨hb1.os,hb1.tape,hb1.output,hb1.size,fun k hk _=>hb1.block k hk⟩ (fun r e=>by cases e)
 obtain ⟨fn,tmps,assign,body,hy,hR⟩:=hY [] ⟨num (cl V.C 0) 6,hP0⟩ W1 hJ1 (by simp)
 dsimp only at hy
 have B1:=hide B1
 have hw1:=hb1.size
 clear Hh B0 hb1 h0 c1 hbv
 gi_wp2_with fail
 refine ⟨fun _=>by omega,hR.mono ?_⟩
 rintro e W3 ⟨hK3,(⟨rfl,hJ3⟩ | ⟨rfl,hJx3⟩)⟩
 rotate_left
 · gi_wp2
   refine bodyPost_ret (results_none rfl _ _ _) rfl ?_
   exact ⟨⟨_,rfl⟩,.inr ⟨_,⟨picFirsts V.C,rfl⟩,hJx3⟩⟩
 have B3:=(uh B1).keep (fun _ _ a b=>SameNum.trans a b) hK3
 obtain ⟨C3,L3,V3,hV3,hS3,hf3⟩:=B3.vol
 have c3:W3.cell? ⟨bv,0,none⟩=some (.pointer (some ⟨v,0,none⟩)):=(cell_blk B3.b0 0).trans rfl
 have hs3:W.heap.size≤W3.heap.size:=by have:=hK3.1;omega
 have Hl:=hide (list_vol W3 v C3 L3 V3 hV3 (by rw [hS3.len];exact h5))
 rw [hS3.low 5 (by omega)] at Hl
 have hel:=entsOf_length (cl V.C 5)
 have B3:=hide B3
 have HJ3:=hide hJ3
 clear hR hy hJ1 B1 hK3 hJ3 hV3 hf3
 gi_wp2_with fail
 refine ⟨trivial,fun _=>by omega,(callsIn_wide.2 (uh Hl)).mono ?_⟩
 rintro e W4 ⟨rfl,hb4⟩
 have hs4:W.heap.size≤W4.heap.size:=by have:=hb4.size;omega
 have B4:=((uh B3).below hb4).lay (.cells (lv (entsOf (cl V.C 5))).toArray 144) rfl (hXW _ hs4)
 have hJ4:J [⟨num (cl V.C 0) 6,hP0⟩] (W4.alloc (.cells (lv (entsOf (cl V.C 5))).toArray 144)):=hJ.alloc _ (hJ _ W3 W4 none (uh HJ3) ⟨hb4.os,hb4.tape,hb4.output,hb4.size,fun k hk _=>hb4.block k hk⟩ (fun r e=>by cases e))
 have B4:=hide (B4.sub (cs:=[(W4.heap.size,.cells (lv (entsOf (cl V.C 5))).toArray 144 (0,0))]) (by simp))
 have l1:=blk_has (uh B4).b0 (n:=8) (by rw [lv_length,hel])
 have l2:=blk_cells (uh B4).b0 (n:=8) (by rw [lv_length,hel])
 have Hn:=hide (len_any (W4.alloc (.cells (lv (entsOf (cl V.C 5))).toArray 144)) (entsOf (cl V.C 5)) hel)
 have hl4:=lenOf_le (entsOf (cl V.C 5))
 have HJ4:=hide hJ4
 have zll:zl.length=4:=rfl
 have hPk: ∀ k,k<lenOf (entsOf (cl V.C 5))→Pc ((entsOf (cl V.C 5)).getD k ze).first:=fun k hk=>hP _ (List.mem_cons_of_mem _ (picFirsts_get V.C k hk))
 have hfo:firstsOf V=num (cl V.C 0) 6 :: ((entsOf (cl V.C 5)).take (lenOf (entsOf (cl V.C 5)))).map (·.first):=rfl
 have Hfo:=hide hfo
 clear Hl HJ3 B3 hb4 c3 hJ4 hP hfo
 generalize entsOf (cl V.C 5)=E at*
 gi_wp2_with fail
 refine ⟨trivial,fun _=>by omega,(callsIn_wide.2 (uh Hn)).mono ?_⟩
 rintro e W5 ⟨rfl,hb5⟩
 have B5:=hide ((uh B4).below hb5)
 have HJ5:Hid (J [⟨num (cl V.C 0) 6,hP0⟩] W5):=hJ _ _ W5 none (uh HJ4) ⟨hb5.os,hb5.tape,hb5.output,hb5.size,fun k hk _=>hb5.block k hk⟩ (fun r e=>by cases e)
 clear Hn HJ4 B4 l1 l2 hb5
 generalize hL0:lenOf E=L0 at*
 have hli:(L0:Int)≤4:=by omega
 gi_wp2
 gi_loopw [5,18] (fun _ i wr=> ∃ (k:Nat) (ys:List (UM Pc)),k≤L0∧i= .int .i64 k∧Besides X v [(W4.heap.size,.cells (lv E).toArray 144 (0,0))] (SameNum V) wr∧ys.map (·.1)=(E.take k).map (·.first)∧ys.length=k∧J (⟨num (cl V.C 0) 6,hP0⟩ :: ys) wr) (fun _ i _=>L0 - (intOf i).toNat)
 case atStart=>exact ⟨0,[],by omega,rfl,uh B5,rfl,rfl,uh HJ5⟩
 case round=>
   obtain ⟨k,ys,hk,rfl,hB,hys,hyl,hJk⟩:=hrel
   clear B5 HJ5
   by_cases hlt:k<L0
   · have hki:(k:Int)<(L0:Int):=by omega
     have hkE:k<E.length:=by omega
     have l1:=hasAt_of_range (n:=2) (ent_range hB.b0 k hkE) rfl
     have l2:=cellsAt_of_range (n:=2) (ent_range hB.b0 k hkE) rfl
     have hpk:=hPk k (by omega)
     have htk:(E.take (k+1)).map (·.first)=(E.take k).map (·.first)++[(E.getD k ze).first]:=by
       rw [List.take_succ_eq_append_getElem hkE,List.map_append,List.getD_eq_getElem?_getD,List.getElem?_eq_getElem hkE];rfl
     have Htk:=hide htk
     generalize E.getD k ze=p at*
     have hJa:J (⟨num (cl V.C 0) 6,hP0⟩ :: ys) (wr.alloc (.cells (ev p).toArray 142)):=hJ.alloc _ hJk
     have hBa:=hide (hB.below ((Below.refl _ _).alloc (Nat.le_refl _) (.cells (ev p).toArray 142)))
     have c5:(wr.alloc (.cells (ev p).toArray 142)).cell? ⟨wr.heap.size,1,none⟩=some (.int .i64 (p.first:Nat)):=(cell_new wr _ _ _ 1).trans rfl
     obtain ⟨fn2,tmps2,assign2,body2,hy2,hR2⟩:=hY _ ⟨p.first,hpk⟩ _ hJa (by simp;omega)
     dsimp only at hy2
     clear htk hJk hJa hB
     generalize p.first=pf at*
     gi_wp2
     refine ⟨fun _=>by omega,hR2.mono ?_⟩
     rintro e W6 ⟨hK6,(⟨rfl,hJ6⟩ | ⟨rfl,hJx6⟩)⟩
     rotate_left
     · gi_wp2
       refine bodyPost_ret (results_none rfl _ _ _) rfl ?_
       refine ⟨⟨_,rfl⟩,.inr ⟨_,?_,hJx6⟩⟩
       rw [uh Hfo]
       refine ⟨((E.take L0).drop (k+1)).map (·.first),?_⟩
       have hsplit:(E.take L0).map (·.first)=(E.take (k+1)).map (·.first)++((E.take L0).drop (k+1)).map (·.first):=by
         rw [← List.map_append,show E.take (k+1)=(E.take L0).take (k+1) by rw [List.take_take];congr 1;omega,List.take_append_drop]
       rw [hsplit,uh Htk,List.cons_append,List.map_cons,List.map_append,hys]
       simp
     have B6:=hide ((uh hBa).keep (fun _ _ a b=>SameNum.trans a b) hK6)
     clear hK6 hBa hR2 hy2
     gi_wp2
     go_roundw
     case rel=>exact ⟨k+1,ys++[⟨pf,hpk⟩],by omega,by go_num,uh B6,by rw [uh Htk,List.map_append,hys];rfl,by simp;omega,by rw [List.cons_append] at hJ6;exact hJ6⟩
     case measure=>simp [intOf];omega
   · have hkL:k=L0:=by omega
     subst hkL
     gi_wp2
     go_end0
     exact ⟨⟨_,rfl⟩,.inl ⟨_,by rw [uh Hfo,List.map_cons,hys],hJk⟩⟩
end Go.Proofs.YtknjjjenklfeoaaGreatDoor
namespace Go.Proofs.YtknjjjenklfeoaaGreatDoor
open Go.RowKit Go.Shelf
attribute [local go_sem ↓] loadVar_clus storeVar_clus zeroValue_clus loadVar_tab storeVar_tab zeroValue_tab loadVar_cnt storeVar_cnt zeroValue_cnt loadVar_head storeVar_head zeroValue_head build_head buildSlice_clus loadVar_wr storeVar_wr zeroValue_wr build_wr buildSlice_wr equalIn_clus loadVar_place storeVar_place zeroValue_place build_place
attribute [local go_sem] run_loadClus run_storeClus run_zeroClus run_storeClus_new run_loadClus_new zc_length run_loadTab run_storeTab run_zeroTab run_storeTab_new run_loadTab_new zt_length run_loadCnt run_storeCnt run_zeroCnt run_storeCnt_new run_loadCnt_new zk_length run_loadHead run_storeHead run_zeroHead run_storeHead_new run_bHead HasAt_drew cellsAt_drew HasAt_drewN cellsAt_drewN run_bsClus run_loadWr run_zeroWr run_storeWr run_storeWr_new run_bWr0 run_bsWr run_loadPlace run_storePlace run_zeroPlace run_storePlace_new run_bPlace
attribute [local go_sem] field_head1 field_head0 Oper.semAt_some
attribute [local go_sem ↓] build_cnt
attribute [local go_sem] run_bCnt0
def toNs {Pc:Nat→Prop} (s:SpotR Pc):SpotN:=⟨s.table,s.index,s.number⟩
theorem spFrom_snoc (C:List Clus) (t:Nat): ∀ m k,spFrom C t (m+1) k=spFrom C t m k++(if nm C t (k+m)=0 then [] else [⟨t,k+m,nm C t (k+m)⟩])
 | 0,k=>by rw [spFrom,spFrom,spFrom,List.append_nil,List.nil_append,Nat.add_zero]
 | m+1,k=>by
   rw [spFrom,spFrom_snoc C t m (k+1),spFrom,List.append_assoc,show k+1+m=k+(m+1) by omega]
theorem spots_toNTo {Pc:Nat→Prop} (C:List Clus) (t:Nat) (hT: ∀ i,OKN Pc ((numsOf (cl C t)).getD i 0)): ∀ k hk,(spotsTo t (numsOf (cl C t)) hT k hk).map toNs=spFrom C t k 0
 | 0,_=>rfl
 | k+1,hk=>by
   have ih:=spots_toNTo C t hT k (by omega)
   have hg:=numsOf_get (cl C t) k (by omega)
   rw [spFrom_snoc,Nat.zero_add]
   by_cases h0:nm C t k=0
   · rw [spotsTo_zero t _ hT k hk (by rw [hg];exact h0),ih,if_pos h0,List.append_nil]
   · rw [spotsTo_some t _ hT k hk (by rw [hg];exact h0),List.map_append,ih,if_neg h0]
     congr 1
     show [(⟨t,k,(numsOf (cl C t)).getD k 0⟩:SpotN)]=_
     rw [hg]
theorem spots_toN {Pc:Nat→Prop} (V:VolR) (t:Nat) (hT:NumsOK Pc V.C t):(spots V t hT).map toNs=spFrom V.C t 32 0:=spots_toNTo V.C t hT 32 (Nat.le_refl _)
def under (C:List Clus) (s:SpotN):List SpotN:=s :: spFrom C (s.number%32768) 32 0
theorem toldFrom_flat (C:List Clus) (t:Nat): ∀ m i,toldFrom C t m i=(spFrom C t m i).flatMap (under C)
 | 0,_=>rfl
 | m+1,i=>by
   have e1:toldFrom C t (m+1) i=(if nm C t i=0 then [] else under C ⟨t,i,nm C t i⟩)++toldFrom C t m (i+1):=rfl
   have e2:spFrom C t (m+1) i=(if nm C t i=0 then [] else [⟨t,i,nm C t i⟩])++spFrom C t m (i+1):=rfl
   rw [e1,e2,toldFrom_flat C t m (i+1),List.flatMap_append]
   by_cases h0:nm C t i=0
   · rw [if_pos h0,if_pos h0,List.flatMap_nil]
   · rw [if_neg h0,if_neg h0,List.flatMap_cons,List.flatMap_nil,List.append_nil]
theorem told_toN (V:VolR) (first:Nat) (h:FirstOK V first):(toldSpots V first h).map toNs=toldFrom V.C first 32 0:=by
 have hf:(fun s:SpotR (TabOK V)=>(downS s :: spots V (s.number%32768) s.hc.2).map toNs)=fun s=>under V.C (toNs s):=by
   funext s
   rw [List.map_cons,spots_toN V _ s.hc.2]
   rfl
 rw [toldFrom_flat,← spots_toN V first h.2]
 unfold toldSpots flatS
 rw [List.map_flatMap,List.flatMap_map,hf]
theorem free_toN (V:VolR) (first:Nat):(toldFree V first).map toNs=toldFrom V.C first 32 0:=by
 have hf:(fun s:SpotF=>(s :: spots V (s.number%32768) (freeNums V.C (s.number%32768))).map toNs)=fun s=>under V.C (toNs s):=by
   funext s
   rw [List.map_cons,spots_toN V _ (freeNums V.C _)]
   rfl
 rw [toldFrom_flat,← spots_toN V first (freeNums V.C first)]
 unfold toldFree flatF
 rw [List.map_flatMap,List.flatMap_map,hf]
def spotsN {Pc:Nat→Prop} (ss:List (SpotR Pc)):List SpotN:=ss.map toNs
theorem spotsN_snoc {Pc:Nat→Prop} (ss:List (SpotR Pc)) (s:SpotR Pc):spotsN (ss++[s])=spotsN ss++[toNs s]:=by simp [spotsN]
def toldF (C:List Clus) (fs:List Nat):List SpotN:=fs.flatMap fun f=>toldFrom C f 32 0
theorem toldF_snoc (C:List Clus) (fs:List Nat) (f:Nat):toldF C (fs++[f])=toldF C fs++toldFrom C f 32 0:=by simp [toldF]
theorem toldF_pre {C:List Clus} {a b:List Nat} (h:a <+: b):toldF C a <+: toldF C b:=by
 obtain ⟨r,rfl⟩:=h
 exact ⟨toldF C r,by simp [toldF]⟩
theorem find_pre {p:SpotN→Bool} {a b:List SpotN} {s:SpotN} (h:a <+: b) (hf:a.find? p=some s):b.find? p=some s:=by
 obtain ⟨r,rfl⟩:=h
 rw [List.find?_append,hf];rfl
structure MkAt (w W:World) (v bc:Nat) (k:List UInt8) (r:Value):Prop where
 below:Below w.heap.size w W
 bv:W.heap[w.heap.size]? = some (.cells #[.pointer (some ⟨v,0,none⟩)] 82 (0,0))
 br:W.heap[w.heap.size+1]? = some (.cells #[r] 98 (0,0))
 bk:W.heap[bc]? = some (.cells (cv k).toArray 123 (0,0))
 lo:w.heap.size+2≤bc
theorem MkAt.later {w W W':World} {v bc:Nat} {k:List UInt8} {r:Value} (h:MkAt w W v bc k r) (hb:Below W.heap.size W W'):MkAt w W' v bc k r:=
 ⟨h.below.trans (hb.mono h.below.size),(hb.block _ (blk_lt h.bv)).trans h.bv,(hb.block _ (blk_lt h.br)).trans h.br,(hb.block _ (blk_lt h.bk)).trans h.bk,h.lo⟩
theorem MkAt.turned {w W W':World} {v bc B:Nat} {k:List UInt8} {r:Value} {row:Option Nat} (h:MkAt w W v bc k r) (hB:bc<B) (hg:W.grownBy W' row) (hr: ∀ r,row=some r→B≤r∧ ∃ o:Obj,W.heap[r]? = some o∧o.isCells=false):MkAt w W' v bc k r:=by
 have:=h.lo
 exact ⟨below_turned h.below hg (fun r e=>by have:=(hr r e).1;omega),blk_turn hg hr h.bv (by omega),blk_turn hg hr h.br (by omega),blk_turn hg hr h.bk (by omega),h.lo⟩
theorem MkAt.put {w W:World} {v bc:Nat} {k:List UInt8} {r:Value} (h:MkAt w W v bc k r) (x:Value):MkAt w (W.setCell ⟨w.heap.size+1,0,none⟩ x) v bc k x:=by
 have hk:=Kept.only W (w.heap.size+1) 0 x
 have:=h.lo
 refine ⟨?_,hk.blk (by omega) h.bv,?_,hk.blk (by omega) h.bk,h.lo⟩
 · exact ⟨hk.os.trans h.below.os,hk.tape.trans h.below.tape,hk.output.trans h.below.output,Nat.le_trans h.below.size hk.size,fun i hi=>by
     rw [hk.block i (Nat.lt_of_lt_of_le hi h.below.size) (by omega)];exact h.below.block i hi⟩
 · rw [heap_setCell_same _ _ _ _ _ _ _ h.br]
   rfl
theorem load_err {w:World} {b:Nat} {x:Value} {t:TypeId} {fr:Nat × Nat} (h:w.heap[b]? = some (.cells #[x] t fr)):(loadVar 98 ⟨b,0,none⟩).run Tryz.prog w= .ok x w:=by
 have c:w.cell? ⟨b,0,none⟩=some x:=(cell_blk h 0).trans rfl
 simp [go_sem,c]
end Go.Proofs.YtknjjjenklfeoaaGreatDoor
