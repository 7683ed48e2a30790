import Derived.Test.YtknjjjenklfeoaaP12
import Derived.Test.YtknjjjenklfeoaaP00
import Derived.Test.YtknjjjenklfeoaaP02
/-
  The iterator held: a first table, and all that it tells.
-/
namespace Go.Proofs.Ytknjjjenklfeoaa
open Go.RowKit Go.Shelf
attribute [local go_sem ↓] loadVar_clus storeVar_clus zeroValue_clus loadVar_tab storeVar_tab zeroValue_tab loadVar_cnt storeVar_cnt zeroValue_cnt loadVar_head storeVar_head zeroValue_head build_head buildSlice_clus loadVar_wr storeVar_wr zeroValue_wr build_wr buildSlice_wr equalIn_clus loadVar_place storeVar_place zeroValue_place build_place
attribute [local go_sem] run_loadClus run_storeClus run_zeroClus run_storeClus_new run_loadClus_new zc_length run_loadTab run_storeTab run_zeroTab run_storeTab_new run_loadTab_new zt_length run_loadCnt run_storeCnt run_zeroCnt run_storeCnt_new run_loadCnt_new zk_length run_loadHead run_storeHead run_zeroHead run_storeHead_new run_bHead HasAt_drew cellsAt_drew HasAt_drewN cellsAt_drewN run_bsClus run_loadWr run_zeroWr run_storeWr run_storeWr_new run_bWr0 run_bsWr run_loadPlace run_storePlace run_zeroPlace run_storePlace_new run_bPlace
attribute [local go_sem] field_head1 field_head0 Oper.semAt_some
def numsS {V : VolR} (ss : List (SpotR (InR V))) : List Nat := ss.map fun s => s.number % 32768
theorem numsS_snoc {V : VolR} (ss : List (SpotR (InR V))) (s : SpotR (InR V)) : numsS (ss ++ [s]) = numsS ss ++ [s.number % 32768] := by simp [numsS]
theorem spots_nums {Pc : Nat → Prop} (V : VolR) (t : Nat) (hT : NumsOK Pc V.C t) : (spots V t hT).map (fun s => s.number % 32768) = toldBy (numsOf (cl V.C t)) := by
  have := spots_told t (numsOf (cl V.C t)) hT (numsOf_length _) 32 (Nat.le_refl _)
  rw [List.take_of_length_le (by rw [numsOf_length]; exact Nat.le_refl _)] at this
  exact this
theorem flatS_nums {V : VolR} : ∀ ss : List (SpotR (TabOK V)), numsS (flatS ss) = (ss.map fun s => s.number % 32768).flatMap fun s => s :: toldBy (numsOf (cl V.C s))
  | [] => rfl
  | s :: ss => by
    have h1 : flatS (s :: ss) = (downS s :: spots V (s.number % 32768) s.hc.2) ++ flatS ss := by simp [flatS]
    have h2 := flatS_nums ss
    have h3 := spots_nums V (s.number % 32768) s.hc.2
    unfold numsS at h2 ⊢
    rw [h1, List.map_append, h2, List.map_cons, List.map_cons, List.flatMap_cons, h3]
    rfl
theorem told_nums (V : VolR) (first : Nat) (h : FirstOK V first) : numsS (toldSpots V first h) = toldAll V.C first := by
  unfold toldSpots toldAll
  rw [flatS_nums, spots_nums]

/-- What is told, as clusters. -/
def clsS {V : VolR} (hC : V.C.length ≤ 256) (ss : List (SpotR (InR V))) : List U256 := ss.map fun s => ⟨s.number % 32768, by have := s.hc.2; omega⟩
theorem clsS_val {V : VolR} (hC : V.C.length ≤ 256) (ss : List (SpotR (InR V))) : (clsS hC ss).map (·.1) = numsS ss := by simp [clsS, numsS]
theorem clsS_snoc {V : VolR} (hC : V.C.length ≤ 256) (ss : List (SpotR (InR V))) (s : SpotR (InR V)) : clsS hC (ss ++ [s]) = clsS hC ss ++ [⟨s.number % 32768, by have := s.hc.2; omega⟩] := by simp [clsS]
theorem clsS_len {V : VolR} (hC : V.C.length ≤ 256) (ss : List (SpotR (InR V))) : (clsS hC ss).length = ss.length := by simp [clsS]

set_option maxHeartbeats 4000000 in
set_option maxRecDepth 100000 in
theorem held_all (n : Nat) (hn : 20 ≤ n) (X : Nat → Prop) (v bv bt first B : Nat) (V : VolR) (Cv Lv : Value) (w : World) (hV : VolAt w v Cv Lv V) (hC : V.C.length ≤ 256)
    (hbv : w.heap[bv]? = some (.cells #[.pointer (some ⟨v, 0, none⟩)] 48 (0, 0))) (hbt : w.heap[bt]? = some (.cells #[.int .i64 (first : Nat)] 3 (0, 0))) (hXt : ¬ X bt) (hXv : ¬ X bv) (hft : ¬ foot v Cv Lv bt) (hfv : ¬ foot v Cv Lv bv)
    (hXB : ∀ k, X k → k < B) (hF : FirstOK V first) :
    SeqAll n 65 #[.pointer (some ⟨bt, 0, none⟩), .pointer (some ⟨bv, 0, none⟩)] (fun u : U256 => #[Value.int .i64 ((u.1 : Nat) : Int)]) (KeepV X (fun k => B ≤ k) v EqV) (fun ys => ys.map (·.1) = heldAll V.C first) 1057 B w := by
  intro l J W hW hBW hJ hY h0
  have hXW : ∀ k, W.heap.size ≤ k → ¬ X k := fun k hk hx => by have := hXB _ hx; omega
  have hf256 : first < 256 := by have := hF.1.1.2; omega
  have B0 : Besides X v [(bv, .cells #[.pointer (some ⟨v, 0, none⟩)] 48 (0, 0)), (bt, .cells #[.int .i64 (first : Nat)] 3 (0, 0))] (EqV V) W := by
    refine ⟨⟨Cv, Lv, V, hV.below hW, rfl, ?_⟩, ?_, ?_, ?_⟩
    · intro x hx
      simp only [List.mem_cons, List.not_mem_nil, or_false] at hx
      rcases hx with rfl | rfl
      · exact hfv
      · exact hft
    · intro x hx
      simp only [List.mem_cons, List.not_mem_nil, or_false] at hx
      rcases hx with rfl | rfl
      · exact (hW.block _ (blk_lt hbv)).trans hbv
      · exact (hW.block _ (blk_lt hbt)).trans hbt
    · intro x hx
      simp only [List.mem_cons, List.not_mem_nil, or_false] at hx
      rcases hx with rfl | rfl <;> rfl
    · intro x hx
      simp only [List.mem_cons, List.not_mem_nil, or_false] at hx
      rcases hx with rfl | rfl
      · exact hXv
      · exact hXt
  have B1 := B0.lay (.cells #[.func (.yield l) #[] #[]] 90) rfl (hXW _ (Nat.le_refl _))
  have hJ1 : J [] (W.alloc (.cells #[.func (.yield l) #[] #[]] 90)) := hJ.alloc _ h0
  have c2 : (W.alloc (.cells #[.func (.yield l) #[] #[]] 90)).cell? ⟨bt, 0, none⟩ = some (.int .i64 (first : Nat)) := (cell_blk B1.b2 0).trans rfl
  obtain ⟨fn, tmps, assign, body, hy, hR⟩ := hY [] ⟨first, hf256⟩ _ hJ1 (by simp)
  refine callsIn_of_wp_marks Try.func65 rfl trivial ?_ rfl
  simp only [Try.ntmps65, List.size_toArray, List.length_cons, List.length_nil, Nat.reduceAdd, Nat.reduceSub, Array.replicate_succ, Array.replicate_zero, List.push_toArray, List.append_toArray, List.nil_append, List.cons_append]
  have B1 := hide B1
  clear B0 hbt hbv h0
  gi_wp2_with fail
  refine ⟨fun _ => by omega, hR.mono ?_⟩
  rintro e W3 ⟨rfl, hJ3, hK3⟩
  have B3 := (unhide B1).keep (fun _ _ a b => Eq.trans a b) hK3
  obtain ⟨C3, L3, V3, hV3, hS3, hf3⟩ := B3.vol
  obtain rfl : V = V3 := hS3
  have c3 : W3.cell? ⟨bt, 0, none⟩ = some (.int .i64 (first : Nat)) := (cell_blk B3.b2 0).trans rfl
  have d3 : W3.cell? ⟨bv, 0, none⟩ = some (.pointer (some ⟨v, 0, none⟩)) := (cell_blk B3.b1 0).trans rfl
  have hs3 : W.heap.size + 1 ≤ W3.heap.size := by have := hK3.1; simp at this; omega
  have Hn := hide (told_make W3 v first)
  have hn4 := (B3.lay (.cells #[.pointer (some ⟨v, 0, none⟩)] 48) rfl (hXW _ (by omega))).lay (.cells #[.int .i64 (first : Nat)] 3) rfl (hXW _ (by simp; omega))
  simp only [World.size_alloc] at hn4
  have hb4 := hide hn4
  have B4 := hide (hn4.sub (cs := [(W.heap.size, .cells #[.func (.yield l) #[] #[]] 90 (0, 0))]) (by simp))
  have hJ4 := hide ((ownFrom_up hJ (C := W.heap.size) (Nat.le_refl _)).alloc (.cells #[.int .i64 (first : Nat)] 3) (hJ.alloc (.cells #[.pointer (some ⟨v, 0, none⟩)] 48) hJ3))
  have HV3 := hide hV3
  have hft1 := fun hf => hV3.foot_lt W3.heap.size hf
  have hft2 := fun hf => hV3.foot_lt (W3.heap.size + 1) hf
  clear hn4 B3 hV3 hJ3 hJ1 B1 hR hy hf3
  gi_wp2_with fail
  refine ⟨trivial, fun _ => by omega, (callsIn_wide.2 (unhide Hn)).mono ?_⟩
  rintro e W4 ⟨rfl, rfl⟩
  gi_wp2_with fail
  generalize hW4 : (W3.alloc (.cells #[.pointer (some ⟨v, 0, none⟩)] 48)).alloc (.cells #[.int .i64 (first : Nat)] 3) = W4 at *
  have hV4 : VolAt W4 v C3 L3 V := by rw [← hW4]; exact ((unhide HV3).alloc _).alloc _
  have hs4 : W4.heap.size = W3.heap.size + 2 := by rw [← hW4]; simp
  have hTA := (told_any (n - 1) (by omega) X v W3.heap.size (W3.heap.size + 1) first (W4.heap.size + 2) V C3 L3 W4 hV4 (unhide hb4).b1 (unhide hb4).b0 (hXW _ (by omega)) (hXW _ (by omega)) (fun hf => by have := hft2 hf; omega) (fun hf => by have := hft1 hf; omega) (fun k hx => by have := hXB k hx; omega) hF).all
  clear hb4 hW4 HV3 c3 d3 c2 hV4 Hn hft1 hft2
  refine range_all (by omega) (gf := 84) (lb := #[.pointer (some ⟨W3.heap.size, 0, none⟩), .pointer (some ⟨W3.heap.size + 1, 0, none⟩)]) rfl (enters_of Try.func84 (by kernel_rfl) rfl) hTA
    (fun A B C h k => KeepV.trans (R := EqV) (fun _ _ _ a b => Eq.trans a b) h k) (fun W o o' hl hc => KeepV.turn (R := EqV) (fun _ => rfl) W _ o o' hl hc (by omega)) (Below.refl _ _) (fun _ => rfl)
    (fun pre W' => J (⟨first, hf256⟩ :: clsS hC pre) W' ∧ Besides X v [(W.heap.size, .cells #[.func (.yield l) #[] #[]] 90 (0, 0))] (EqV V) W')
    (fun _ _ _ _ hs hg hr => ⟨hJ _ _ _ _ hs.1 hg (fun r e => ⟨by have := (hr r e).1; omega, (hr r e).2⟩), hs.2.turned hg (fun r e => (hr r e).2)⟩)
    ⟨unhide hJ4, unhide B4⟩
    (fun x a' W' => ∃ bx, W'.heap[bx]? = some (.cells #[.int .i64 ((x.table : Nat) : Int), .int .i64 ((x.index : Nat) : Int), .int .u16 ((x.number : Nat) : Int)] 121 (0, 0)) ∧ a' = { tmps := #[.func (.yield l) #[] #[], .pointer (some ⟨bt, 0, none⟩), .pointer (some ⟨bv, 0, none⟩), .pointer (some ⟨W.heap.size, 0, none⟩), .pointer (some ⟨bx, 0, none⟩), .func (.yield l) #[] #[], .int .i64 (first : Nat), .bool true, .bool false, .pointer (some ⟨v, 0, none⟩), .int .i64 (first : Nat), .func (.func 84) #[] #[.pointer (some ⟨W3.heap.size, 0, none⟩), .pointer (some ⟨W3.heap.size + 1, 0, none⟩)], spotVal x, undef, undef, undef, undef, undef, undef], defers := [] })
    (fun x a' _ A' B' row hs hg hr => by
      obtain ⟨bx, h2, h3⟩ := hs
      refine ⟨bx, ?_, h3⟩
      rw [hg.block bx (blk_lt h2) (fun e => by
        obtain ⟨_, o, ho, hc⟩ := hr bx e.symm
        rw [h2] at ho
        injection ho with ho
        subst ho
        cases hc)]
      exact h2)
    ?assign ?body ?done
  case assign =>
    rintro l2 pre x W' K ⟨hJx, hBx⟩ hK
    unfold spotVal
    gi_wp2
    exact hK _ _ ((KeepsOthers.alloc _ _).from _) (KeepV.below (R := EqV) (fun _ => rfl) ((Below.refl _ _).alloc (Nat.le_refl _) _)) ⟨hJ.alloc _ hJx, hBx.below ((Below.refl _ _).alloc (Nat.le_refl _) _)⟩ ⟨_, heap_alloc_new _ _, rfl⟩
  case body =>
    rintro l2 pre x a' W' hl2 ⟨r, hr⟩ ⟨hJx, hBx⟩ ⟨bx, hbx, rfl⟩ hlen
    have c1 : W'.cell? ⟨W.heap.size, 0, none⟩ = some (.func (.yield l) #[] #[]) := (cell_blk hBx.b0 0).trans rfl
    have c2 : W'.cell? ⟨bx, 2, none⟩ = some (.int .u16 ((x.number : Nat) : Int)) := (cell_blk hbx 2).trans rfl
    have Hc : Hid (∀ W, _) := fun W => cluster_of x.number x.hn W
    have hJd : J (⟨first, hf256⟩ :: clsS hC pre) W'.drew := hJ _ W' W'.drew none hJx ⟨rfl, rfl, rfl, Nat.le_refl _, fun _ _ _ => rfl⟩ (fun r e => by cases e)
    have hx256 : x.number % 32768 < 256 := by have := x.hc.2; omega
    have hap : (⟨first, hf256⟩ :: clsS hC pre) ++ [⟨x.number % 32768, hx256⟩] = ⟨first, hf256⟩ :: clsS hC (pre ++ [x]) := by rw [clsS_snoc]; rfl
    have hY' := hY _ ⟨x.number % 32768, hx256⟩ W'.drew hJd (by simp [clsS_len]; omega)
    rw [hap] at hY'
    obtain ⟨fn2, tmps2, assign2, body2, hy2, hR2⟩ := yield_deep (m' := n - 1 - 1 - 1) hY'
    have Hx := x.hn
    have hB2 := hide (hBx.below (B := W'.drew) ⟨rfl, rfl, rfl, Nat.le_refl _, fun _ _ => rfl⟩)
    dsimp only at hy2
    clear hJd hY' hJx hBx hap hbx
    generalize x.number % 32768 = cc at *
    generalize x.number = nn at *
    generalize spotVal x = sv at *
    gi_wp2
    gi_region_with (first
      | (refine ⟨trivial, fun _ => by omega, (CallsIn.inRound l2 (callsIn_wide.2 (unhide Hc _))).mono ?_⟩
         rintro e w3 ⟨rfl, rfl⟩)
      | (refine ⟨fun _ => by omega, RoundIn.mono hR2 ?_⟩
         rintro e w3 ⟨rfl, hJ5, hK5⟩))
    all_goals
      have B5 := (unhide hB2).keep (fun _ _ a b => Eq.trans a b) hK5
      have hKF : KeepsFrom W4.heap.size W' w3 := ⟨hK5.1, fun k o hB hk ho => hK5.2.1 k o hk ho (by omega)⟩
      have hK6 : KeepV X (fun k => W4.heap.size + 2 ≤ k) v EqV W' w3 := KeepV.trans (R := EqV) (fun _ _ _ a b => Eq.trans a b) (KeepV.below (R := EqV) (fun _ => rfl) (B := W'.drew) ⟨rfl, rfl, rfl, Nat.le_refl _, fun _ _ => rfl⟩) (hK5.weak (Y' := fun k => W4.heap.size + 2 ≤ k) (fun k h => by omega))
      simp only [hs4] at hKF hK6
      gi_wp2
      first
        | exact ⟨hKF, hK6, hJ5, B5⟩
        | exact ⟨hJ5, B5⟩
  case done =>
    rintro D ys W' hD hS ⟨hJx, _⟩ hK
    gi_wp2
    refine ⟨by simp, .inl ⟨_, _, rfl, run_takeDeferred hK, ?_⟩⟩
    refine ⟨_, results_none rfl _ _ _, ⟨_, rfl⟩, _, ?_, hJ.putObj _ hJx (by omega) hK rfl⟩
    rw [List.map_cons, clsS_val, hS, told_nums]
    rfl
end Go.Proofs.Ytknjjjenklfeoaa

/-
  A loop over an iterator within a round of another one: all of its rounds go on, or one of them returns.
-/
namespace Go.Proofs.Ytknjjjenklfeoaa
open Go.RowKit Go.Shelf

section
variable {α : Type} {g : Operand} {ps : Array Tmp} {assign body : Code} {Q : Exit → Act → World → Prop} {a : Act} {w : World} {n : Nat}
theorem range_inA {l₀ : Nat} {r₀ : Loop} (hl₀ : w.heap[l₀]? = some (.loop r₀)) (h1 : 1 ≤ n) {gf : Nat} {lb : Array Value} (hg : a.eval g = .func (.func gf) #[] lb) (eg : ∀ args w, (callFunc gf args).run Try.prog w = .ok (.enter gf args) w)
    {encs : α → Array Value} {Kp : World → World → Prop} {S : List α → Prop} {N : Nat} {w0 : World} (hseq : SeqAll (n - 1) gf lb encs Kp S N (w.heap.size + 1) w0)
    (hKt : ∀ A B C : World, Kp A B → Kp B C → Kp A C) (hKb : ∀ (W : World) (o o' : Obj), W.heap[w.heap.size]? = some o → o.isCells = false → Kp W (W.putObj w.heap.size o')) (hb0 : Below w0.heap.size w0 w) (hps : ∀ x, (encs x).size = ps.size)
    (I : List α → World → Prop) (hI : OwnFrom w.heap.size I) (h0 : I [] w) (Ax : α → Act → World → Prop) (hAx : ∀ x a', OwnFrom w.heap.size (fun (_ : Unit) W => Ax x a' W))
    (hassign : ∀ (l : Nat) (pre : List α) (x : α) (W : World) (K : Act → World → Prop), I pre W → (∀ a' W', KeepsFrom w.heap.size W W' → Kp W W' → I pre W' → Ax x a' W' → K a' W') →
      assign.wpIn (Fence.wide.inRound l) (n - 1 - 1) Try.prog (Exit.then K (fun _ _ _ => False)) { tmps := (ps.zip (encs x)).foldl (fun t (p, v) => t.setIfInBounds p v) a.tmps, defers := [] } W)
    (hbody : ∀ (l : Nat) (pre : List α) (x : α) (a' : Act) (W : World), w.heap.size ≤ l → (∃ r, W.heap[l]? = some (.loop r)) → I pre W → Ax x a' W → pre.length < N → body.wpIn (Fence.wide.inRound l) (n - 1 - 1) Try.prog (fun e _ W' => e = .normal ∧ KeepsFrom w.heap.size W W' ∧ Kp W W' ∧ I (pre ++ [x]) W') a' W)
    (hdone : ∀ (xs : List α) (W : World), S xs → I xs W → Q .normal a W) :
    (Code.rangeFunc g ps assign body).wpIn (Fence.wide.inRound l₀) n Try.prog Q a w := by
  refine wpIn_rangeFunc fun fn hfn => ?_
  obtain ⟨rec, hrec⟩ : ∃ rec : LoopState → Option Code → Loop, rec = fun st pe => { state := st, pending := pe, fn, tmps := a.tmps, params := ps, assign, body, defers := r₀.defers } := ⟨_, rfl⟩
  let d := w.heap.size
  let W1 := w.alloc (.loop (rec .ready none))
  have hL1 : W1.heap[d]? = some (.loop (rec .ready none)) := heap_alloc_new w _
  have hI1 : I [] W1 := hI.alloc _ h0
  have hsz : W1.heap.size = d + 1 := by simp [W1, d]
  have hw1 : Below w0.heap.size w0 W1 := hb0.trans (((Below.refl _ w).alloc (Nat.le_refl _) _).mono hb0.size)
  refine ⟨d, [], W1, { target := .fn (.func gf) lb, args := #[.func (.yield d) #[] #[]] }, W1, gf, #[.func (.yield d) #[] #[]] ++ lb, W1, ?_, ?_, fun _ _ => trivial, ?_, fun _ => h1, ?_⟩
  · show (Instr.enterLoop fn a.tmps ps assign body (some l₀)).run Try.prog w = _
    rw [run_enterLoop_inner hl₀]
    simp only [W1, hrec, d]
  · simp only [resolve, hg]; simp [go_sem]
  · simp [invoke, go_sem, eg]
  have hJ : OwnFrom W1.heap.size (fun (pre : List α) W => I pre W ∧ W.heap[d]? = some (.loop (rec .ready none))) := fun s A B row hs hg' hr =>
    ⟨hI s A B row hs.1 hg' (fun r e => ⟨by have := (hr r e).1; omega, (hr r e).2⟩), blk_turn hg' hr hs.2 (by omega)⟩
  refine (CallsIn.inRound l₀ (hseq d (fun pre W => I pre W ∧ W.heap[d]? = some (.loop (rec .ready none))) W1 hw1 (by omega) hJ ?_ ⟨hI1, hL1⟩)).mono ?_
  · rintro pre x W ⟨hi, hb⟩ hlen
    have hy := run_yield (P := Try.prog) (args := encs x) hb (by rw [hrec]; exact hps x)
    rw [hrec] at hy
    refine ⟨fn, _, assign, body, hy, roundIn_of_wpIn hfn (hassign d pre x W _ hi fun a' Wa hkf hkp hia hax => ?_)⟩
    have hba := hkf.same _ _ (Nat.le_refl _) hb rfl
    refine ⟨_, run_beginRound hba (by rw [hrec]), ?_⟩
    have hbb : (Wa.putObj d (.loop { rec .ready none with state := .busy })).heap[d]? = some (.loop { rec .ready none with state := .busy }) := World.putObj_heap_same (blk_lt hba)
    have hkb : Kp Wa (Wa.putObj d (.loop { rec .ready none with state := .busy })) := hKb _ _ _ hba rfl
    refine wpIn_mono (hbody d pre x a' _ (Nat.le_refl _) ⟨_, hbb⟩ (hI.putObj _ hia (Nat.le_refl _) hba rfl) ((hAx x a').putObj (s := ()) _ hax (Nat.le_refl _) hba rfl) hlen) ?_
    have fin : ∀ (jump : Option Code) (W3 : World), KeepsFrom d (Wa.putObj d (.loop { rec .ready none with state := .busy })) W3 →
        (Instr.endRound d jump).run Try.prog W3 = .ok (.bool jump.isNone) (W3.putObj d (.loop (rec (if jump.isNone then .ready else .done) jump))) ∧
        W3.heap[d]? = some (.loop { rec .ready none with state := .busy }) ∧
        (W3.putObj d (.loop (rec (if jump.isNone then .ready else .done) jump))).heap[d]? = some (.loop (rec (if jump.isNone then .ready else .done) jump)) := fun jump W3 hk3 => by
      have hl3 := hk3.same _ _ (Nat.le_refl _) hbb rfl
      have := run_endRound (P := Try.prog) jump hl3
      rw [hrec] at this ⊢
      exact ⟨this, by rw [hrec] at hl3; exact hl3, World.putObj_heap_same (blk_lt hl3)⟩
    rintro e a3 W3 ⟨rfl, hkf3, hkp3, hi3⟩
    obtain ⟨hr, hl3, hl4⟩ := fin none W3 hkf3
    exact ⟨_, _, hr, rfl, ⟨hI.putObj _ hi3 (Nat.le_refl _) hl3 rfl, hl4⟩, hKt _ _ _ hkp (hKt _ _ _ hkb (hKt _ _ _ hkp3 (hKb _ _ _ hl3 rfl)))⟩
  · rintro e W2 ⟨⟨v, rfl⟩, xs, hS, hi, hb⟩
    have hh : (rec .ready none).state ≠ .busy := by rw [hrec]; simp
    have hp : (rec .ready none).pending = none := by rw [hrec]
    refine ⟨_, _, run_endLoop hb hh, ?_⟩
    rw [hp]
    exact hdone xs _ hS (hI.putObj _ hi (Nat.le_refl _) hb rfl)
end
end Go.Proofs.Ytknjjjenklfeoaa

/-
  The reference's Room: may a first table's tree be used once more?
-/
namespace Go.Proofs.Ytknjjjenklfeoaa
open Go.RowKit
def nv (M : List Nat) : List Value := M.map nat64
theorem nv_length (M : List Nat) : (nv M).length = M.length := by simp [nv]
theorem nv_get (M : List Nat) (n : Nat) (hn : n < M.length) : (nv M)[n]? = some (.int .i64 ((M.getD n 0 : Nat) : Int)) := by
  unfold nv
  rw [List.getElem?_map, List.getD_eq_getElem?_getD, List.getElem?_eq_getElem hn]; rfl
def zI : List Nat := List.replicate 256 0
theorem zI_length : zI.length = 256 := List.length_replicate
def zeroInts : Sem Value := zeroValue 81
theorem zeroValue_ints : zeroValue 81 = zeroInts := rfl
theorem run_zeroInts (w : World) : zeroInts.run Try.prog w = .ok (.agg (nv zI).toArray) w :=
  (zero_of_info (P := Try.prog) (t := 81) (v := .agg (nv zI).toArray) (n := 256) (by kernel_rfl)).1 w
attribute [local go_sem ↓] loadVar_clus zeroValue_ints
attribute [local go_sem] run_loadClus run_zeroInts
def bump (M : List Nat) (n : Nat) : List Nat := M.set n (M.getD n 0 + 1)
theorem bump_length (M : List Nat) (n : Nat) : (bump M n).length = M.length := by simp [bump]
def moreIn (L : List Clus) (s : Nat) (M : List Nat) : Nat → List Nat
  | 0 => M
  | k + 1 => if num (cl L s) (2 * k) = 0 then moreIn L s M k else bump (moreIn L s M k) (num (cl L s) (2 * k) % 32768)
def moreOut (L : List Clus) (t : Nat) : Nat → List Nat
  | 0 => zI
  | i + 1 => if num (cl L t) (2 * i) = 0 then moreOut L t i else moreIn L (num (cl L t) (2 * i) % 32768) (bump (moreOut L t i) (num (cl L t) (2 * i) % 32768)) 32
theorem moreIn_length (L : List Clus) (s : Nat) (M : List Nat) : ∀ k, (moreIn L s M k).length = M.length
  | 0 => rfl
  | k + 1 => by
    rw [moreIn]
    split
    · exact moreIn_length L s M k
    · rw [bump_length]; exact moreIn_length L s M k
theorem moreOut_length (L : List Clus) (t : Nat) : ∀ i, (moreOut L t i).length = 256
  | 0 => zI_length
  | i + 1 => by
    rw [moreOut]
    split
    · exact moreOut_length L t i
    · rw [moreIn_length, bump_length]; exact moreOut_length L t i
def AtMost (b : Nat) (M : List Nat) : Prop := ∀ n, M.getD n 0 ≤ b
theorem bump_most {b : Nat} {M : List Nat} (h : AtMost b M) (n : Nat) : AtMost (b + 1) (bump M n) := fun m => by
  unfold bump
  rw [List.getD_eq_getElem?_getD, List.getElem?_set]
  have h1 := h n
  have h2 := h m
  rw [List.getD_eq_getElem?_getD] at h1 h2
  split
  · split
    · simp only [Option.getD_some, List.getD_eq_getElem?_getD]; omega
    · simp
  · omega
theorem zI_most : AtMost 0 zI := fun n => by
  unfold zI
  rw [List.getD_eq_getElem?_getD, List.getElem?_replicate]
  split <;> simp
def roomFrom (L : List Clus) (M : List Nat) : Nat → Nat → Bool
  | 0, _ => true
  | m + 1, n => if 254 < countOf L n + M.getD n 0 then false else roomFrom L M m (n + 1)
def roomR (L : List Clus) (t : Nat) : Bool := roomFrom L (moreOut L t 2) L.length 0 && decide (0 < freeOf L)

end Go.Proofs.Ytknjjjenklfeoaa
