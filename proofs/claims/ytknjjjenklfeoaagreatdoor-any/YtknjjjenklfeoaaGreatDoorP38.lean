import Derived.Test.YtknjjjenklfeoaaGreatDoorP29
import Derived.Test.YtknjjjenklfeoaaGreatDoorP37
import Derived.Test.YtknjjjenklfeoaaGreatDoorP34
/-
  checkCounts: is no count too low or too high?
-/
namespace Go.Proofs.YtknjjjenklfeoaaGreatDoor
open Go.RowKit Go.Shelf
attribute [local go_sem ↓] loadVar_clus storeVar_clus zeroValue_clus loadVar_cnt storeVar_cnt zeroValue_cnt loadVar_head storeVar_head zeroValue_head build_head
attribute [local go_sem] run_loadClus run_storeClus run_zeroClus run_storeClus_new run_loadClus_new zc_length run_loadCnt run_storeCnt run_zeroCnt run_storeCnt_new run_loadCnt_new zk_length run_loadHead run_storeHead run_zeroHead run_storeHead_new run_bHead HasAt_drew cellsAt_drew
attribute [local go_sem ↓] loadVar_use storeVar_use zeroValue_use
attribute [local go_sem] run_loadUse run_storeUse run_storeUse_new run_zeroUse zI_length
attribute [local go_sem] field_head1 field_head0 Oper.semAt_some
set_option maxHeartbeats 4000000 in
set_option maxRecDepth 100000 in
theorem checkCounts_any (w : World) (v : Nat) (Cv Lv : Value) (V : VolR) (h : VolAt w v Cv Lv V) (hG : Glob w) (h5 : 5 < V.C.length) (hC : V.C.length ≤ 256) (hF : ∀ f ∈ firstsOf V, FirstOK V f) (hT : num (cl V.C 0) 4 = V.C.length) :
    Calls Tryz.prog 95 #[.pointer (some ⟨v, 0, none⟩)] w fun e w' => ((countsP (usesOf V) (cntsOf V.C) V.C.length 256 0 = -1 ∧ e = .returned .nilIface) ∨ ∃ (n : Nat) (x : Value), countsP (usesOf V) (cntsOf V.C) V.C.length 256 0 = (n : Int) ∧ isIface x ∧ e = .returned (faultV n x)) ∧ Below w.heap.size w w' := by
  have Hu := hide (fun (W : World) (hB : Below w.heap.size w W) => callsIn_wide.1 (uses_in W v Cv Lv V (h.below hB) h5 hC hF))
  have hml : (usesOf V).length = 256 := useAll_length V _
  have hmm := useAll_most (V := V) (firstsOf V) hF
  have hfl : (firstsOf V).length ≤ 5 := by
    unfold firstsOf picFirsts
    have := lenOf_le (entsOf (cl V.C 5))
    simp only [List.length_cons, List.length_map, List.length_take]
    omega
  have Hh := hide (fun (W : World) (hB : Below w.heap.size w W) => head_vol W v Cv Lv V (h.below hB) (by omega))
  have Hc := hide (fun (W : World) (hB : Below w.heap.size w W) => counts_vol W v Cv Lv V (h.below hB) (by omega))
  have hcl := cntsOf_length V.C h.lenC (by omega)
  have hMm : ∀ n, (usesOf V).getD n 0 ≤ 10000 := fun n => by have := hmm n; unfold usesOf; omega
  rw [hT] at Hh
  have n6 := num_lt (cl V.C 0) 6
  have HG := hide hG
  generalize num (cl V.C 0) 6 = fst at *
  generalize usesOf V = M at *
  generalize cntsOf V.C = k at *
  generalize V.C.length = cls at *
  clear h hF hmm hG hT
  go_enter Tryz.func95, Tryz.ntmps95
  go_wp2_with fail
  refine (unhide Hu w (Below.refl _ _)).mono ?_
  rintro e w1 ⟨rfl, b1⟩
  have B1 := hide b1
  clear b1 Hu
  go_wp2_with fail
  refine (unhide Hh w1 (unhide B1)).mono ?_
  rintro e w2 ⟨rfl, b2⟩
  have B2 := hide ((unhide B1).trans (b2.mono (unhide B1).size))
  have X2 := hide (heap_alloc_new w2 (.cells (nv M).toArray 161))
  have B2 := hide ((unhide B2).alloc (unhide B2).size (.cells (nv M).toArray 161))
  clear b2 Hh B1
  go_wp2_with fail
  refine (unhide Hc _ (unhide B2)).mono ?_
  rintro e w3 ⟨rfl, b3⟩
  have X3 := hide ((b3.block _ (blk_lt (unhide X2))).trans (unhide X2))
  have B3 := hide ((unhide B2).trans (b3.mono (unhide B2).size))
  clear b3 Hc B2 X2
  generalize w2.heap.size = bu at *
  go_wp2
  go_loopw [5, 6, 14] (fun _ _ i w' => ∃ j : Nat, j ≤ 256 ∧ i = .int .i64 j ∧ Below w.heap.size w w' ∧ w'.heap[bu]? = some (.cells (nv M).toArray 161 (0, 0)) ∧ countsP M k cls 256 0 = countsP M k cls (256 - j) j) (fun _ _ i _ => 256 - (intOf i).toNat)
  case atStart => exact ⟨0, by omega, rfl, unhide B3, unhide X3, rfl⟩
  case round =>
    obtain ⟨j, hj, rfl, hB, hX, hP⟩ := hrel
    clear B3 X3
    by_cases hlt : j < 256
    · have hji : (j : Int) < 256 := by omega
      have hix := run_index_cnt wr k hcl j hlt
      have hbl := byteAt_lt k j
      have hmj := hMm j
      have c1 : wr.cell? ⟨bu, j, none⟩ = some (.int .i64 ((M.getD j 0 : Nat) : Int)) := by rw [cell_blk hX, List.getElem?_toArray, nv_get _ _ (by rw [hml]; exact hlt)]
      obtain ⟨t3, v3, g3⟩ := ((unhide HG).below hB).err 3 (by omega)
      have hst : 256 - j = (256 - (j + 1)) + 1 := by omega
      have e1 : countsP M k cls (256 - (j + 1) + 1) j = if badC M k cls j then (j : Int) else countsP M k cls (256 - (j + 1)) (j + 1) := rfl
      rw [hst, e1] at hP
      clear e1
      have hbc : badC M k cls j = (decide (byteAt k j < M.getD j 0) || (decide (254 < byteAt k j) || (decide (cls ≤ j) && decide (byteAt k j ≠ 0)))) := rfl
      rw [hbc] at hP
      have HB := hide hB
      have HX := hide hX
      clear hbc
      generalize byteAt k j = x at *
      generalize M.getD j 0 = m at *
      by_cases hA : x < m
      · have dA : decide (((x : Nat) : Int) < ((m : Nat) : Int)) = true := decide_eq_true (by omega)
        rw [decide_eq_true hA, Bool.true_or, if_pos rfl] at hP
        have HF := hide hP
        clear hP hB hX hst
        go_wp2
        go_ret
        exact ⟨Or.inr ⟨j, _, unhide HF, ⟨_, _, rfl⟩, rfl⟩, unhide HB⟩
      · have dA : decide (((x : Nat) : Int) < ((m : Nat) : Int)) = false := decide_eq_false (by omega)
        rw [decide_eq_false hA, Bool.false_or] at hP
        by_cases hB2 : 254 < x
        · have dB : decide ((254 : Int) < ((x : Nat) : Int)) = true := decide_eq_true (by omega)
          rw [decide_eq_true hB2, Bool.true_or, if_pos rfl] at hP
          have HF := hide hP
          clear hP hB hX hst
          go_wp2
          go_ret
          exact ⟨Or.inr ⟨j, _, unhide HF, ⟨_, _, rfl⟩, rfl⟩, unhide HB⟩
        · have dB : decide ((254 : Int) < ((x : Nat) : Int)) = false := decide_eq_false (by omega)
          rw [decide_eq_false hB2, Bool.false_or] at hP
          by_cases hT2 : cls ≤ j
          · have dT : decide (((cls : Nat) : Int) ≤ ((j : Nat) : Int)) = true := decide_eq_true (by omega)
            rw [decide_eq_true hT2, Bool.true_and] at hP
            by_cases h0 : x = 0
            · subst h0
              rw [if_neg (by decide)] at hP
              have HF := hide hP
              clear hP hB hX hst
              go_wp2
              go_roundw
              case rel => exact ⟨j + 1, by omega, by go_num, unhide HB, unhide HX, unhide HF⟩
              case measure => simp [intOf]; omega
            · have d0 : (((x : Nat) : Int) != 0) = true := by rw [bne_iff_ne]; omega
              rw [decide_eq_true h0, if_pos rfl] at hP
              have HF := hide hP
              clear hP hB hX hst
              go_wp2
              go_ret
              exact ⟨Or.inr ⟨j, _, unhide HF, ⟨_, _, rfl⟩, rfl⟩, unhide HB⟩
          · have dT : decide (((cls : Nat) : Int) ≤ ((j : Nat) : Int)) = false := decide_eq_false (by omega)
            rw [decide_eq_false hT2, Bool.false_and, if_neg (by decide)] at hP
            have HF := hide hP
            clear hP hB hX hst
            go_wp2
            go_roundw
            case rel => exact ⟨j + 1, by omega, by go_num, unhide HB, unhide HX, unhide HF⟩
            case measure => simp [intOf]; omega
    · have hj6 : j = 256 := by omega
      subst hj6
      have HF := hide hP
      have HB := hide hB
      clear hP hB hX
      go_wp2
      go_ret
      exact ⟨Or.inl ⟨unhide HF, rfl⟩, unhide HB⟩
end Go.Proofs.YtknjjjenklfeoaaGreatDoor

/-
  A loop over an iterator that goes on only where what it gave was good; the first tables and what they tell, of any file.
-/
namespace Go.Proofs.YtknjjjenklfeoaaGreatDoor
open Go.RowKit Go.Shelf

/-- The iterator's word, where a round may end the loop, and what was gone past is good. -/
def SeqAnyG {α : Type} (G : α → Prop) (n gf : Nat) (lb : Array Value) (encs : α → Array Value) (Kp : World → World → Prop) (S Sp : List α → Prop) (N B : Nat) (w : World) : Prop :=
  ∀ (l : Nat) (J Jx : List α → World → Prop) (W : World), Below w.heap.size w W → B ≤ W.heap.size → OwnFrom W.heap.size J → OwnFrom W.heap.size Jx → (∀ pre x W', J (pre ++ [x]) W' → G x) →
    (∀ pre x W1, J pre W1 → pre.length < N → YieldAt Fence.wide (n - 1) Tryz.prog l (encs x) W1 fun e W' => Kp W1 W' ∧ ((e = .returned (.bool true) ∧ J (pre ++ [x]) W') ∨ (e = .returned (.bool false) ∧ Jx (pre ++ [x]) W'))) →
    J [] W → CallsIn Fence.wide n Tryz.prog gf (#[.func (.yield l) #[] #[]] ++ lb) W fun e W' => (∃ v, e = .returned v) ∧ ((∃ xs, S xs ∧ J xs W') ∨ ∃ pre, Sp pre ∧ Jx pre W')

section
variable {α : Type} {g : Operand} {ps : Array Tmp} {assign body : Code} {Q : Exit → Act → World → Prop} {a : Act} {w : World} {n : Nat}
theorem range_inG {G : α → Prop} {l₀ : Nat} {r₀ : Loop} (hl₀ : w.heap[l₀]? = some (.loop r₀)) (h1 : 1 ≤ n) {gf : Nat} {lb : Array Value} (hg : a.eval g = .func (.func gf) #[] lb) (eg : ∀ args w, (callFunc gf args).run Tryz.prog w = .ok (.enter gf args) w)
    {encs : α → Array Value} {Kp : World → World → Prop} {S Sp : List α → Prop} {N : Nat} {w0 : World} (hseq : SeqAnyG G (n - 1) gf lb encs Kp S Sp N (w.heap.size + 1) w0)
    (hKt : ∀ A B C : World, Kp A B → Kp B C → Kp A C) (hKb : ∀ (W : World) (o o' : Obj), W.heap[w.heap.size]? = some o → o.isCells = false → Kp W (W.putObj w.heap.size o')) (hb0 : Below w0.heap.size w0 w) (hps : ∀ x, (encs x).size = ps.size)
    (I Ix : List α → World → Prop) (hIG : ∀ pre x W, I (pre ++ [x]) W → G x) (hI : OwnFrom w.heap.size I) (hIx : OwnFrom w.heap.size Ix) (h0 : I [] w) (Ax : α → Act → World → Prop) (hAx : ∀ x a', OwnFrom w.heap.size (fun (_ : Unit) W => Ax x a' W))
    (hassign : ∀ (l : Nat) (pre : List α) (x : α) (W : World) (K : Act → World → Prop), I pre W → (∀ a' W', KeepsFrom w.heap.size W W' → Kp W W' → I pre W' → Ax x a' W' → K a' W') →
      assign.wpIn (Fence.wide.inRound l) (n - 1 - 1) Tryz.prog (Exit.then K (fun _ _ _ => False)) { tmps := (ps.zip (encs x)).foldl (fun t (p, v) => t.setIfInBounds p v) a.tmps, defers := [] } W)
    (hbody : ∀ (l : Nat) (pre : List α) (x : α) (a' : Act) (W : World), w.heap.size ≤ l → (∃ r, W.heap[l]? = some (.loop r)) → I pre W → Ax x a' W → pre.length < N → body.wpIn (Fence.wide.inRound l) (n - 1 - 1) Tryz.prog (anyPost w.heap.size Kp I Ix (pre ++ [x]) W) a' W)
    (hdone : ∀ (xs : List α) (W : World), S xs → I xs W → Q .normal a W)
    (hstop : ∀ (pre : List α) (W : World), Sp pre → Ix pre W → Code.ret.wpIn (Fence.wide.inRound l₀) n Tryz.prog Q a W) :
    (Code.rangeFunc g ps assign body).wpIn (Fence.wide.inRound l₀) n Tryz.prog Q a w := by
  refine wpIn_rangeFunc fun fn hfn => ?_
  obtain ⟨rec, hrec⟩ : ∃ rec : LoopState → Option Code → Loop, rec = fun st pe => { state := st, pending := pe, fn, tmps := a.tmps, params := ps, assign, body, defers := r₀.defers } := ⟨_, rfl⟩
  let d := w.heap.size
  let W1 := w.alloc (.loop (rec .ready none))
  have hL1 : W1.heap[d]? = some (.loop (rec .ready none)) := heap_alloc_new w _
  have hI1 : I [] W1 := hI.alloc _ h0
  have hsz : W1.heap.size = d + 1 := by simp [W1, d]
  have hw1 : Below w0.heap.size w0 W1 := hb0.trans (((Below.refl _ w).alloc (Nat.le_refl _) _).mono hb0.size)
  refine ⟨d, [], W1, { target := .fn (.func gf) lb, args := #[.func (.yield d) #[] #[]] }, W1, gf, #[.func (.yield d) #[] #[]] ++ lb, W1, ?_, ?_, fun _ _ => trivial, ?_, fun _ => h1, ?_⟩
  · show (Instr.enterLoop fn a.tmps ps assign body (some l₀)).run Tryz.prog w = _
    rw [run_enterLoop_inner hl₀]
    simp only [W1, hrec, d]
  · simp only [resolve, hg]; simp [go_sem]
  · simp [invoke, go_sem, eg]
  have hJ : OwnFrom W1.heap.size (fun (pre : List α) W => I pre W ∧ W.heap[d]? = some (.loop (rec .ready none))) := fun s A B row hs hg' hr =>
    ⟨hI s A B row hs.1 hg' (fun r e => ⟨by have := (hr r e).1; omega, (hr r e).2⟩), blk_turn hg' hr hs.2 (by omega)⟩
  have hJx : OwnFrom W1.heap.size (fun (pre : List α) W => Ix pre W ∧ W.heap[d]? = some (.loop (rec .done (some .ret)))) := fun s A B row hs hg' hr =>
    ⟨hIx s A B row hs.1 hg' (fun r e => ⟨by have := (hr r e).1; omega, (hr r e).2⟩), blk_turn hg' hr hs.2 (by omega)⟩
  refine (CallsIn.inRound l₀ (hseq d (fun pre W => I pre W ∧ W.heap[d]? = some (.loop (rec .ready none))) (fun pre W => Ix pre W ∧ W.heap[d]? = some (.loop (rec .done (some .ret)))) W1 hw1 (by omega) hJ hJx (fun pre x W h => hIG pre x W h.1) ?_ ⟨hI1, hL1⟩)).mono ?_
  · rintro pre x W ⟨hi, hb⟩ hlen
    have hy := run_yield (P := Tryz.prog) (args := encs x) hb (by rw [hrec]; exact hps x)
    rw [hrec] at hy
    refine ⟨fn, _, assign, body, hy, roundIn_of_wpIn hfn (hassign d pre x W _ hi fun a' Wa hkf hkp hia hax => ?_)⟩
    have hba := hkf.same _ _ (Nat.le_refl _) hb rfl
    refine ⟨_, run_beginRound hba (by rw [hrec]), ?_⟩
    have hbb : (Wa.putObj d (.loop { rec .ready none with state := .busy })).heap[d]? = some (.loop { rec .ready none with state := .busy }) := World.putObj_heap_same (blk_lt hba)
    have hkb : Kp Wa (Wa.putObj d (.loop { rec .ready none with state := .busy })) := hKb _ _ _ hba rfl
    refine wpIn_mono (hbody d pre x a' _ (Nat.le_refl _) ⟨_, hbb⟩ (hI.putObj _ hia (Nat.le_refl _) hba rfl) ((hAx x a').putObj (s := ()) _ hax (Nat.le_refl _) hba rfl) hlen) ?_
    have fin : ∀ (jump : Option Code) (W3 : World), KeepsFrom d (Wa.putObj d (.loop { rec .ready none with state := .busy })) W3 →
        (Instr.endRound d jump).run Tryz.prog W3 = .ok (.bool jump.isNone) (W3.putObj d (.loop (rec (if jump.isNone then .ready else .done) jump))) ∧
        W3.heap[d]? = some (.loop { rec .ready none with state := .busy }) ∧
        (W3.putObj d (.loop (rec (if jump.isNone then .ready else .done) jump))).heap[d]? = some (.loop (rec (if jump.isNone then .ready else .done) jump)) := fun jump W3 hk3 => by
      have hl3 := hk3.same _ _ (Nat.le_refl _) hbb rfl
      have := run_endRound (P := Tryz.prog) jump hl3
      rw [hrec] at this ⊢
      exact ⟨this, by rw [hrec] at hl3; exact hl3, World.putObj_heap_same (blk_lt hl3)⟩
    rintro e a3 W3 hp
    cases e with
    | normal =>
      obtain ⟨hkf3, hkp3, hi3⟩ := hp
      obtain ⟨hr, hl3, hl4⟩ := fin none W3 hkf3
      exact ⟨_, _, hr, hKt _ _ _ hkp (hKt _ _ _ hkb (hKt _ _ _ hkp3 (hKb _ _ _ hl3 rfl))), .inl ⟨rfl, hI.putObj _ hi3 (Nat.le_refl _) hl3 rfl, hl4⟩⟩
    | ret =>
      obtain ⟨hkf3, hkp3, hi3⟩ := hp
      obtain ⟨hr, hl3, hl4⟩ := fin (some .ret) W3 hkf3
      exact ⟨_, _, hr, hKt _ _ _ hkp (hKt _ _ _ hkb (hKt _ _ _ hkp3 (hKb _ _ _ hl3 rfl))), .inr ⟨rfl, hIx.putObj _ hi3 (Nat.le_refl _) hl3 rfl, hl4⟩⟩
    | exit id => exact hp.elim
    | goto t => exact hp.elim
    | panic ch => exact hp.elim
    | outgrown => exact hp.elim
  · rintro e W2 ⟨⟨v, rfl⟩, (⟨xs, hS, hi, hb⟩ | ⟨pre, hSp, hi, hb⟩)⟩
    · have hh : (rec .ready none).state ≠ .busy := by rw [hrec]; simp
      have hp : (rec .ready none).pending = none := by rw [hrec]
      refine ⟨_, _, run_endLoop hb hh, ?_⟩
      rw [hp]
      exact hdone xs _ hS (hI.putObj _ hi (Nat.le_refl _) hb rfl)
    · have hh : (rec .done (some .ret)).state ≠ .busy := by rw [hrec]; simp
      have hp : (rec .done (some .ret)).pending = some .ret := by rw [hrec]
      refine ⟨_, _, run_endLoop hb hh, ?_⟩
      rw [hp]
      exact hstop pre _ hSp (hIx.putObj _ hi (Nat.le_refl _) hb rfl)
end
attribute [local go_sem ↓] loadVar_clus storeVar_clus zeroValue_clus loadVar_tab storeVar_tab zeroValue_tab loadVar_cnt storeVar_cnt zeroValue_cnt loadVar_head storeVar_head zeroValue_head build_head buildSlice_clus loadVar_wr storeVar_wr zeroValue_wr build_wr buildSlice_wr equalIn_clus loadVar_place storeVar_place zeroValue_place build_place
attribute [local go_sem] run_loadClus run_storeClus run_zeroClus run_storeClus_new run_loadClus_new zc_length run_loadTab run_storeTab run_zeroTab run_storeTab_new run_loadTab_new zt_length run_loadCnt run_storeCnt run_zeroCnt run_storeCnt_new run_loadCnt_new zk_length run_loadHead run_storeHead run_zeroHead run_storeHead_new run_bHead HasAt_drew cellsAt_drew HasAt_drewN cellsAt_drewN run_bsClus run_loadWr run_zeroWr run_storeWr run_storeWr_new run_bWr0 run_bsWr run_loadPlace run_storePlace run_zeroPlace run_storePlace_new run_bPlace
attribute [local go_sem] field_head1 field_head0 Oper.semAt_some
def Free (_ : Nat) : Prop := True
abbrev SpotF := SpotR Free
theorem freeNums (C : List Clus) (t : Nat) : NumsOK Free C t := fun _ => ⟨numsOf_lt _ _, fun _ => trivial⟩
/-- All that is told below some places of a first table, whatever they tell. -/
def flatF (V : VolR) (ss : List SpotF) : List SpotF := ss.flatMap fun s => s :: spots V (s.number % 32768) (freeNums V.C (s.number % 32768))
def toldFree (V : VolR) (first : Nat) : List SpotF := flatF V (spots V first (freeNums V.C first))
theorem flatF_snoc {V : VolR} (ss : List SpotF) (s : SpotF) : flatF V (ss ++ [s]) = flatF V ss ++ (s :: spots V (s.number % 32768) (freeNums V.C (s.number % 32768))) := by simp [flatF]
theorem flatF_pre {V : VolR} {a b : List SpotF} (h : a <+: b) : flatF V a <+: flatF V b := by
  obtain ⟨r, rfl⟩ := h
  exact ⟨flatF V r, by simp [flatF]⟩
theorem flatF_len (V : VolR) : ∀ ss : List SpotF, (flatF V ss).length ≤ 33 * ss.length
  | [] => by simp [flatF]
  | s :: ss => by
    have h1 := flatF_len V ss
    have h2 := spots_len V (s.number % 32768) (freeNums V.C (s.number % 32768))
    have : flatF V (s :: ss) = (s :: spots V (s.number % 32768) (freeNums V.C (s.number % 32768))) ++ flatF V ss := by simp [flatF]
    rw [this, List.length_append, List.length_cons, List.length_cons]
    omega

set_option maxHeartbeats 4000000 in
set_option maxRecDepth 100000 in
theorem told_free (n : Nat) (hn : 10 ≤ n) (X : Nat → Prop) (v bv bt first B : Nat) (V : VolR) (Cv Lv : Value) (w : World) (hV : VolAt w v Cv Lv V)
    (hbv : w.heap[bv]? = some (.cells #[.pointer (some ⟨v, 0, none⟩)] 82 (0, 0))) (hbt : w.heap[bt]? = some (.cells #[.int .i64 (first : Nat)] 3 (0, 0))) (hXt : ¬ X bt) (hXv : ¬ X bv) (hft : ¬ foot v Cv Lv bt) (hfv : ¬ foot v Cv Lv bv)
    (hXB : ∀ k, X k → k < B) (hF : first < V.C.length) :
    SeqAnyG (fun s : SpotF => s.number % 32768 < V.C.length) n 174 #[.pointer (some ⟨bv, 0, none⟩), .pointer (some ⟨bt, 0, none⟩)] (fun x : SpotF => #[spotVal x]) (KeepV X (fun k => B ≤ k) v EqV) (fun ys => ys = toldFree V first) (fun pre => pre <+: toldFree V first) 1056 B w := by
  intro l J Jx W hW hBW hJ hJx hG hY h0
  have hXW : ∀ k, W.heap.size ≤ k → ¬ X k := fun k hk hx => by have := hXB _ hx; omega
  have B0 : Besides X v [(bv, .cells #[.pointer (some ⟨v, 0, none⟩)] 82 (0, 0)), (bt, .cells #[.int .i64 (first : Nat)] 3 (0, 0))] (EqV V) W := by
    refine ⟨⟨Cv, Lv, V, hV.below hW, rfl, ?_⟩, ?_, ?_, ?_⟩
    · intro x hx
      simp only [List.mem_cons, List.not_mem_nil, or_false] at hx
      rcases hx with rfl | rfl
      · exact hfv
      · exact hft
    · intro x hx
      simp only [List.mem_cons, List.not_mem_nil, or_false] at hx
      rcases hx with rfl | rfl
      · exact (hW.block _ (blk_lt hbv)).trans hbv
      · exact (hW.block _ (blk_lt hbt)).trans hbt
    · intro x hx
      simp only [List.mem_cons, List.not_mem_nil, or_false] at hx
      rcases hx with rfl | rfl <;> rfl
    · intro x hx
      simp only [List.mem_cons, List.not_mem_nil, or_false] at hx
      rcases hx with rfl | rfl
      · exact hXv
      · exact hXt
  have B1 := B0.lay (.cells #[.func (.yield l) #[] #[]] 244) rfl (hXW _ (Nat.le_refl _))
  have hJ1 : J [] (W.alloc (.cells #[.func (.yield l) #[] #[]] 244)) := hJ.alloc _ h0
  have c1 : (W.alloc (.cells #[.func (.yield l) #[] #[]] 244)).cell? ⟨bv, 0, none⟩ = some (.pointer (some ⟨v, 0, none⟩)) := (cell_blk B1.b1 0).trans rfl
  have c2 : (W.alloc (.cells #[.func (.yield l) #[] #[]] 244)).cell? ⟨bt, 0, none⟩ = some (.int .i64 (first : Nat)) := (cell_blk B1.b2 0).trans rfl
  have hs1 : (W.alloc (.cells #[.func (.yield l) #[] #[]] 244)).heap.size = W.heap.size + 1 := by simp
  have hV1 : VolAt (W.alloc (.cells #[.func (.yield l) #[] #[]] 244)) v Cv Lv V := (hV.below hW).alloc _
  refine callsIn_of_wp_marks Tryz.func174 rfl trivial ?_ rfl
  simp only [Tryz.ntmps174, List.size_toArray, List.length_cons, List.length_nil, Nat.reduceAdd, Nat.reduceSub, Array.replicate_succ, Array.replicate_zero, List.push_toArray, List.append_toArray, List.nil_append, List.cons_append]
  have Hn := hide (numbers_make (W.alloc (.cells #[.func (.yield l) #[] #[]] 244)) v first)
  have hn4 := (B1.lay (.cells #[.pointer (some ⟨v, 0, none⟩)] 82) rfl (hXW _ (by omega))).lay (.cells #[.int .i64 (first : Nat)] 3) rfl (hXW _ (by simp; omega))
  simp only [World.size_alloc] at hn4 Hn
  have hb4 := hide hn4
  have B4 := hide (hn4.sub (cs := [(W.heap.size, .cells #[.func (.yield l) #[] #[]] 244 (0, 0)), (bv, .cells #[.pointer (some ⟨v, 0, none⟩)] 82 (0, 0))]) (by simp))
  have hJ4 := hide ((ownFrom_up hJ (C := W.heap.size) (Nat.le_refl _)).alloc (.cells #[.int .i64 (first : Nat)] 3) (hJ.alloc (.cells #[.pointer (some ⟨v, 0, none⟩)] 82) hJ1))
  have HV1 := hide hV1
  have hft1 := fun hf => hV1.foot_lt (W.heap.size + 1 + 1) hf
  clear B0 B1 hbt hbv h0 hn4 hJ1 hV1
  gi_wp2_with fail
  refine ⟨trivial, fun _ => by omega, (callsIn_wide.2 (unhide Hn)).mono ?_⟩
  rintro e W4 ⟨rfl, rfl⟩
  gi_wp2_with fail
  generalize hW4 : ((W.alloc (.cells #[.func (.yield l) #[] #[]] 244)).alloc (.cells #[.pointer (some ⟨v, 0, none⟩)] 82)).alloc (.cells #[.int .i64 (first : Nat)] 3) = W4 at *
  have hV4 : VolAt W4 v Cv Lv V := by rw [← hW4]; exact ((unhide HV1).alloc _).alloc _
  have hs4 : W4.heap.size = W.heap.size + 3 := by rw [← hW4]; simp
  have hNS := numbers_stops (Pc := Free) (n - 1) (by omega) X (fun _ => False) EqV v (W.heap.size + 1) (W.heap.size + 1 + 1) first V Cv Lv W4 hV4 (unhide hb4).b1 (unhide hb4).b0 (hXW _ (by omega)) (fun hf => by have := hft1 hf; rw [hs1] at this; omega) hF (freeNums V.C first)
  clear hb4 hW4 HV1 c1 c2 hV4 Hn
  refine wpIn_rangeFunc_ownH rfl (by omega) (gf := 182) (lb := #[.pointer (some ⟨W.heap.size + 1, 0, none⟩), .pointer (some ⟨W.heap.size + 1 + 1, 0, none⟩)]) rfl trivial (enters_of Tryz.func182 (by kernel_rfl) rfl) hNS (fun h k => KeepV.trans (R := EqV) (fun _ _ _ a b => Eq.trans a b) h k) (fun W l o o' _ hl hc _ => KeepV.turn (R := EqV) (fun _ => rfl) W l o o' hl hc id) (Below.refl _ _) (fun _ => rfl)
    (fun pre W' => J (flatF V pre) W' ∧ Besides X v [(W.heap.size, .cells #[.func (.yield l) #[] #[]] 244 (0, 0)), (bv, .cells #[.pointer (some ⟨v, 0, none⟩)] 82 (0, 0))] (EqV V) W')
    (fun c pre W' => c = .ret ∧ ∃ tot, tot <+: flatF V pre ∧ Jx tot W')
    (fun _ _ _ _ hs hg hr => ⟨hJ _ _ _ _ hs.1 hg (fun r e => ⟨by have := (hr r e).1; omega, (hr r e).2⟩), hs.2.turned hg (fun r e => (hr r e).2)⟩)
    (fun _ _ _ _ _ hs hg hr => by obtain ⟨e, tot, h1, h2⟩ := hs; exact ⟨e, tot, h1, hJx _ _ _ _ h2 hg (fun r e => ⟨by have := (hr r e).1; omega, (hr r e).2⟩)⟩)
    ⟨unhide hJ4, unhide B4⟩
    (fun x a' W' => ∃ bx, Besides X v [(bx, .cells #[.int .i64 ((x.table : Nat) : Int), .int .i64 ((x.index : Nat) : Int), .int .u16 ((x.number : Nat) : Int)] 219 (0, 0))] (EqV V) W' ∧ a' = { tmps := #[.func (.yield l) #[] #[], .pointer (some ⟨bv, 0, none⟩), .pointer (some ⟨bt, 0, none⟩), .pointer (some ⟨W.heap.size, 0, none⟩), .pointer (some ⟨bx, 0, none⟩), undef, .pointer (some ⟨v, 0, none⟩), .int .i64 (first : Nat), .func (.func 182) #[] #[.pointer (some ⟨W.heap.size + 1, 0, none⟩), .pointer (some ⟨W.heap.size + 1 + 1, 0, none⟩)], spotVal x, undef, undef, undef, undef, undef, undef, undef, undef, undef, undef, undef, undef, undef, undef], defers := [] })
    (fun x a' _ A' B' row hs hg hr => by
      obtain ⟨bx, h2, h3⟩ := hs
      exact ⟨bx, h2.turned hg (fun r e => (hr r e).2), h3⟩)
    ?assign ?body ?done ?stop
  case assign =>
    rintro l2 pre x W' K ⟨hJp, hBx⟩ hK
    have hsz : W.heap.size < W'.heap.size := blk_lt hBx.b0
    unfold spotVal
    gi_wp2
    exact hK _ _ ((KeepsOthers.alloc _ _).from _) (KeepV.below (R := EqV) (fun _ => rfl) ((Below.refl _ _).alloc (Nat.le_refl _) _)) ⟨hJ.alloc _ hJp, hBx.below ((Below.refl _ _).alloc (Nat.le_refl _) _)⟩ ⟨_, (hBx.lay _ rfl (hXW _ (by omega))).sub (by simp), rfl⟩
  case body =>
    rintro l2 pre x a' W' hl2 ⟨r, hr⟩ ⟨hJp, hBx⟩ ⟨bx, hAx, rfl⟩ hlen
    have BB := hAx.join hBx
    have hfl := flatF_len V pre
    have c0 : W'.cell? ⟨W.heap.size, 0, none⟩ = some (.func (.yield l) #[] #[]) := (cell_blk BB.b1 0).trans rfl
    have c1 : W'.cell? ⟨bx, 0, none⟩ = some (.int .i64 ((x.table : Nat) : Int)) := (cell_blk BB.b0 0).trans rfl
    have c2 : W'.cell? ⟨bx, 1, none⟩ = some (.int .i64 ((x.index : Nat) : Int)) := (cell_blk BB.b0 1).trans rfl
    have c3 : W'.cell? ⟨bx, 2, none⟩ = some (.int .u16 ((x.number : Nat) : Int)) := (cell_blk BB.b0 2).trans rfl
    obtain ⟨fn2, tmps2, assign2, body2, hy2, hR2⟩ := yield_deep (m' := n - 1 - 1 - 1) (hY (flatF V pre) (x) W' hJp (by omega))
    have hy2' : (Instr.yield l #[.agg #[.int .i64 ((x.table : Nat) : Int), .int .i64 ((x.index : Nat) : Int), .int .u16 ((x.number : Nat) : Int)]]).run Tryz.prog W' = .ok (.round l fn2 tmps2 assign2 body2) W' := hy2
    have BB := hide BB
    have Hr := hide hr
    clear hBx hAx hJp hy2
    gi_wp2_with fail
    refine ⟨fun _ => by omega, RoundIn.mono hR2 ?_⟩
    rintro e W5 ⟨hK5, (⟨rfl, hJ5⟩ | ⟨rfl, hJx5⟩)⟩
    rotate_left
    · have hKF : KeepsFrom W4.heap.size W' W5 := ⟨hK5.1, fun k o hB hk ho => hK5.2.1 k o hk ho (by omega)⟩
      gi_wp2
      exact ⟨hKF, rfl, flatF V pre ++ [x], ⟨spots V (x.number % 32768) (freeNums V.C (x.number % 32768)), by rw [flatF_snoc]; simp⟩, hJx5⟩
    have hKF : KeepsFrom W4.heap.size W' W5 := ⟨hK5.1, fun k o hB hk ho => hK5.2.1 k o hk ho (by omega)⟩
    have hgx := hG _ _ _ hJ5
    have B5 := (unhide BB).keep (fun _ _ a b => Eq.trans a b) hK5
    have d0 : W5.cell? ⟨bv, 0, none⟩ = some (.pointer (some ⟨v, 0, none⟩)) := (cell_blk B5.b2 0).trans rfl
    have d1 : W5.cell? ⟨bx, 2, none⟩ = some (.int .u16 ((x.number : Nat) : Int)) := (cell_blk B5.b0 2).trans rfl
    have hK5' : KeepV X (fun _ => False) v EqV W' W5 := hK5.weak (Y' := fun _ => False) (fun _ h => False.elim h)
    have Hc : Hid (∀ W, _) := fun W => cluster_of x.number x.hn W
    have Hm : Hid (∀ W, _) := fun W => numbers_make W v (x.number % 32768)
    have hs5 : W.heap.size < W5.heap.size := blk_lt B5.b1
    have B5 := hide B5
    have hKF := hide hKF
    have hK5' := hide hK5'
    clear hK5 BB c0 c1 c2 c3 hR2
    gi_wp2
    gi_cut [18] from 14 (fun s18 wc => s18 = .func (.func 182) #[] #[.pointer (some ⟨W5.heap.size, 0, none⟩), .pointer (some ⟨W5.heap.size + 1, 0, none⟩)] ∧ wc = (W5.drew.alloc (.cells #[.pointer (some ⟨v, 0, none⟩)] 82)).alloc (.cells #[.int .i64 ((x.number % 32768 : Nat) : Int)] 3))
    case first =>
      gi_region_with (first
        | (refine ⟨trivial, fun _ => by omega, (CallsIn.inRound l2 (callsIn_wide.2 (unhide Hc _))).mono ?_⟩
           rintro e w3 ⟨rfl, rfl⟩)
        | (refine ⟨trivial, fun _ => by omega, (CallsIn.inRound l2 (callsIn_wide.2 (unhide Hm _))).mono ?_⟩
           rintro e w3 ⟨rfl, rfl⟩))
      all_goals
        gi_wp2
        gi_meet
        exact ⟨rfl, rfl⟩
    case rest =>
      obtain ⟨rfl, hwc⟩ := hcut
      have B6 := (((unhide B5).below (B := W5.drew) ⟨rfl, rfl, rfl, Nat.le_refl _, fun _ _ => rfl⟩).lay (.cells #[.pointer (some ⟨v, 0, none⟩)] 82) rfl (hXW _ (by show W.heap.size ≤ W5.heap.size; omega))).lay (.cells #[.int .i64 ((x.number % 32768 : Nat) : Int)] 3) rfl (hXW _ (by rw [World.size_alloc]; show W.heap.size ≤ W5.heap.size + 1; omega))
      have hJ6 : J (flatF V pre ++ [x]) wc := by
        rw [hwc]
        exact hJ.alloc _ (hJ.alloc _ (hJ _ W5 W5.drew none hJ5 ⟨rfl, rfl, rfl, Nat.le_refl _, fun _ _ _ => rfl⟩ (fun r e => by cases e)))
      have hbl : Below W5.heap.size W5 wc := by
        rw [hwc]
        exact ((Below.refl _ W5).drew.alloc (Nat.le_refl _) _).alloc (by rw [World.size_alloc]; show W5.heap.size ≤ W5.heap.size + 1; omega) _
      have hs6 : wc.heap.size = W5.heap.size + 2 := by rw [hwc]; simp
      rw [← hwc] at B6
      simp only [World.size_alloc] at B6
      change Besides X v ((W5.heap.size + 1, _) :: (W5.heap.size, _) :: _) (EqV V) wc at B6
      have hKF6 : KeepsFrom W4.heap.size W' wc := (unhide hKF).trans ⟨hbl.size, fun k o _ hk _ => (hbl.block k (blk_lt hk)).trans hk⟩
      have hK6 : KeepV X (fun _ => False) v EqV W' wc := KeepV.trans (R := EqV) (fun _ _ _ a b => Eq.trans a b) (unhide hK5') (KeepV.below (R := EqV) (fun _ => rfl) hbl)
      have hr6 : wc.heap[l2]? = some (.loop r) := hKF6.same l2 _ hl2 (unhide Hr) rfl
      have hWc : W'.heap.size ≤ wc.heap.size := hKF6.size
      obtain ⟨C6, L6, V6, hV6, hE6, hf6⟩ := B6.vol
      obtain rfl : V = V6 := hE6
      have hNS2 := numbers_stops (Pc := Free) (n - 1 - 1 - 1) (by omega) X (fun _ => False) EqV v W5.heap.size (W5.heap.size + 1) (x.number % 32768) V C6 L6 wc hV6 B6.b1 B6.b0 (hXW _ (by omega)) (hf6 _ (List.Mem.head _)) hgx (freeNums V.C (x.number % 32768))
      have B7 := hide (B6.sub (cs := [(W.heap.size, .cells #[.func (.yield l) #[] #[]] 244 (0, 0)), (bv, .cells #[.pointer (some ⟨v, 0, none⟩)] 82 (0, 0))]) (by simp))
      have hlx : (flatF V pre).length ≤ 33 * 31 := by omega
      clear B6 B5 hwc Hc Hm d0 d1 hJ5 hV6 hf6 hNS hKF hK5' Hr hbl
      gi_wp2
      refine wpIn_rangeFunc_ownN (l₀ := l2) (r₀ := r) rfl hr6 (by omega) (gf := 182) (lb := #[.pointer (some ⟨W5.heap.size, 0, none⟩), .pointer (some ⟨W5.heap.size + 1, 0, none⟩)]) rfl trivial (enters_of Tryz.func182 (by kernel_rfl) rfl)
        (hNS2.inRound l2) (fun h k => KeepV.trans (R := EqV) (fun _ _ _ a b => Eq.trans a b) h k) (fun W l o o' _ hl hc _ => KeepV.turn (R := EqV) (fun _ => rfl) W l o o' hl hc id) (Below.refl _ _) (fun _ => rfl)
        (fun ip W7 => J (flatF V pre ++ x :: ip) W7 ∧ Besides X v [(W.heap.size, .cells #[.func (.yield l) #[] #[]] 244 (0, 0)), (bv, .cells #[.pointer (some ⟨v, 0, none⟩)] 82 (0, 0))] (EqV V) W7 ∧ KeepsFrom W4.heap.size W' W7 ∧ KeepV X (fun _ => False) v EqV W' W7)
        (fun c ip W7 => c = .ret ∧ Jx (flatF V pre ++ x :: ip) W7 ∧ KeepsFrom W4.heap.size W' W7)
        (fun s A B row hs hg hr => ⟨hJ _ _ _ _ hs.1 hg (fun r e => ⟨by have := (hr r e).1; omega, (hr r e).2⟩), hs.2.1.turned hg (fun r e => (hr r e).2), ownFrom_keepsFrom (β := Unit) hWc () A B row hs.2.2.1 hg hr, ownFrom_keepV (R := EqV) (fun _ => rfl) (fun _ _ _ a b => Eq.trans a b) (β := Unit) () A B row hs.2.2.2 hg hr⟩)
        (fun c s A B row hs hg hr => ⟨hs.1, hJx _ _ _ _ hs.2.1 hg (fun r e => ⟨by have := (hr r e).1; omega, (hr r e).2⟩), ownFrom_keepsFrom (β := Unit) hWc () A B row hs.2.2 hg hr⟩)
        ⟨hJ6, unhide B7, hKF6, hK6⟩
        (fun y a'' W7 => ∃ bx2, W7.heap[bx2]? = some (.cells #[.int .i64 ((y.table : Nat) : Int), .int .i64 ((y.index : Nat) : Int), .int .u16 ((y.number : Nat) : Int)] 219 (0, 0)) ∧ a'' = { tmps := #[.func (.yield l) #[] #[], .pointer (some ⟨bv, 0, none⟩), .pointer (some ⟨bt, 0, none⟩), .pointer (some ⟨W.heap.size, 0, none⟩), .pointer (some ⟨bx, 0, none⟩), .pointer (some ⟨bx2, 0, none⟩), .pointer (some ⟨v, 0, none⟩), .int .i64 (first : Nat), .func (.func 182) #[] #[.pointer (some ⟨W.heap.size + 1, 0, none⟩), .pointer (some ⟨W.heap.size + 1 + 1, 0, none⟩)], spotVal x, .func (.yield l) #[] #[], .agg #[.int .i64 ((x.table : Nat) : Int), .int .i64 ((x.index : Nat) : Int), .int .u16 ((x.number : Nat) : Int)], .bool true, .bool false, u14, u15, u16, u17, .func (.func 182) #[] #[.pointer (some ⟨W5.heap.size, 0, none⟩), .pointer (some ⟨W5.heap.size + 1, 0, none⟩)], spotVal y, u20, u21, u22, u23], defers := [] })
        (fun y a'' _ A' B' row hs hg hr => by
          obtain ⟨bx2, h2, h3⟩ := hs
          refine ⟨bx2, ?_, h3⟩
          rw [hg.block bx2 (blk_lt h2) (fun e => by
            obtain ⟨_, o, ho, hc⟩ := hr bx2 e.symm
            rw [h2] at ho
            injection ho with ho
            subst ho
            cases hc)]
          exact h2)
        ?assign2 ?body2 ?done2 ?stop2
      case assign2 =>
        rintro l3 ip y W7 K ⟨g1, g2, g3, g4⟩ hK
        unfold spotVal
        gi_wp2
        have hb : Below W7.heap.size W7 (W7.alloc (.cells #[.int .i64 ((y.table : Nat) : Int), .int .i64 ((y.index : Nat) : Int), .int .u16 ((y.number : Nat) : Int)] 219)) := (Below.refl _ _).alloc (Nat.le_refl _) _
        exact hK _ _ ((KeepsOthers.alloc _ _).from _) (KeepV.below (R := EqV) (fun _ => rfl) hb) ⟨hJ.alloc _ g1, g2.below hb, g3.trans ((KeepsOthers.alloc _ _).from _), KeepV.trans (R := EqV) (fun _ _ _ a b => Eq.trans a b) g4 (KeepV.below (R := EqV) (fun _ => rfl) hb)⟩ ⟨_, heap_alloc_new _ _, rfl⟩
      case stop2 =>
        rintro c ip W7 hSp ⟨rfl, g1, g2⟩
        gi_wp2
        exact ⟨g2, rfl, flatF V pre ++ x :: ip, by
          rw [flatF_snoc]
          obtain ⟨rr, hrr⟩ := hSp
          exact ⟨rr, by rw [← hrr]; simp⟩, g1⟩
      case done2 =>
        rintro ip W7 hS ⟨g1, g2, g3, g4⟩
        gi_wp2
        refine ⟨g3, g4, ?_, g2⟩
        rw [flatF_snoc, ← hS]
        exact g1
      case body2 =>
        rintro l3 ip y a'' W7 hl3 _ ⟨g1, g2, g3, g4⟩ ⟨bx2, hbx2, rfl⟩ hlen2
        have e0 : W7.cell? ⟨W.heap.size, 0, none⟩ = some (.func (.yield l) #[] #[]) := (cell_blk g2.b0 0).trans rfl
        have e1 : W7.cell? ⟨bx2, 0, none⟩ = some (.int .i64 ((y.table : Nat) : Int)) := (cell_blk hbx2 0).trans rfl
        have e2 : W7.cell? ⟨bx2, 1, none⟩ = some (.int .i64 ((y.index : Nat) : Int)) := (cell_blk hbx2 1).trans rfl
        have e3 : W7.cell? ⟨bx2, 2, none⟩ = some (.int .u16 ((y.number : Nat) : Int)) := (cell_blk hbx2 2).trans rfl
        have hap : flatF V pre ++ x :: (ip ++ [y]) = (flatF V pre ++ x :: ip) ++ [y] := by simp
        obtain ⟨fn3, tmps3, assign3, body3, hy3, hR3⟩ := yield_deep (m' := n - 1 - 1 - 1 - 1 - 1) (hY (flatF V pre ++ x :: ip) y W7 g1 (by rw [List.length_append, List.length_cons]; omega))
        have hy3' : (Instr.yield l #[.agg #[.int .i64 ((y.table : Nat) : Int), .int .i64 ((y.index : Nat) : Int), .int .u16 ((y.number : Nat) : Int)]]).run Tryz.prog W7 = .ok (.round l fn3 tmps3 assign3 body3) W7 := hy3
        have G2 := hide g2
        have G3 := hide g3
        have G4 := hide g4
        clear hy3 g1 g2 g3 g4 hbx2 hNS2 B7 hJ6 hKF6 hK6 hr6
        gi_wp2_with fail
        refine ⟨fun _ => by omega, RoundIn.mono hR3 ?_⟩
        rintro e W8 ⟨hK8, (⟨rfl, hJ8⟩ | ⟨rfl, hJx8⟩)⟩
        · have hKF8 : ∀ b, B ≤ b → KeepsFrom b W7 W8 := fun b hb => ⟨hK8.1, fun k o hB hk ho => hK8.2.1 k o hk ho (by omega)⟩
          have hK8' : KeepV X (fun _ => False) v EqV W7 W8 := hK8.weak (Y' := fun _ => False) (fun _ h => False.elim h)
          have f1 := hKF8 wc.heap.size (by omega)
          have f2 := (unhide G2).keep (fun _ _ a b => Eq.trans a b) hK8
          have f3 := (unhide G3).trans (hKF8 W4.heap.size (by omega))
          have f4 := KeepV.trans (R := EqV) (fun _ _ _ a b => Eq.trans a b) (unhide G4) hK8'
          rw [← hap] at hJ8
          gi_wp2
          exact ⟨f1, hK8', hJ8, f2, f3, f4⟩
        · have hKF8 : ∀ b, B ≤ b → KeepsFrom b W7 W8 := fun b hb => ⟨hK8.1, fun k o hB hk ho => hK8.2.1 k o hk ho (by omega)⟩
          have f1 := hKF8 wc.heap.size (by omega)
          have f3 := (unhide G3).trans (hKF8 W4.heap.size (by omega))
          rw [← hap] at hJx8
          gi_wp2
          exact ⟨f1, rfl, hJx8, f3⟩
  case done =>
    rintro D ys W' hD hS ⟨hJp, _⟩ hK
    gi_wp2
    refine ⟨by simp, .inl ⟨_, _, rfl, run_takeDeferred hK, ?_⟩⟩
    refine ⟨_, results_none rfl _ _ _, ⟨_, rfl⟩, .inl ⟨_, ?_, hJ.putObj _ hJp (by omega) hK rfl⟩⟩
    rw [hS]; rfl
  case stop =>
    rintro D c pre W' hD hSp ⟨rfl, tot, h1, h2⟩ hK
    gi_wp2
    refine ⟨by simp, .inl ⟨_, _, rfl, run_takeDeferred hK, ?_⟩⟩
    exact ⟨_, results_none rfl _ _ _, ⟨_, rfl⟩, .inr ⟨tot, h1.trans (flatF_pre hSp), hJx.putObj _ h2 (by omega) hK rfl⟩⟩
end Go.Proofs.YtknjjjenklfeoaaGreatDoor
