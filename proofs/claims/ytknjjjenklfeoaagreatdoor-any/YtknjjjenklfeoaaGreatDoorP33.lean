import Derived.Test.YtknjjjenklfeoaaGreatDoorP30
import Derived.Test.YtknjjjenklfeoaaGreatDoorP32
/-
  A loop over an iterator within a round of another one: all of its rounds go on, or one of them returns.
-/
namespace Go.Proofs.YtknjjjenklfeoaaGreatDoor
open Go.RowKit Go.Shelf

section
variable {α : Type} {g : Operand} {ps : Array Tmp} {assign body : Code} {Q : Exit → Act → World → Prop} {a : Act} {w : World} {n : Nat}
theorem range_in {l₀ : Nat} {r₀ : Loop} (hl₀ : w.heap[l₀]? = some (.loop r₀)) (h1 : 1 ≤ n) {gf : Nat} {lb : Array Value} (hg : a.eval g = .func (.func gf) #[] lb) (eg : ∀ args w, (callFunc gf args).run Tryz.prog w = .ok (.enter gf args) w)
    {encs : α → Array Value} {Kp : World → World → Prop} {S Sp : List α → Prop} {N : Nat} {w0 : World} (hseq : SeqAny (n - 1) gf lb encs Kp S Sp N (w.heap.size + 1) w0)
    (hKt : ∀ A B C : World, Kp A B → Kp B C → Kp A C) (hKb : ∀ (W : World) (o o' : Obj), W.heap[w.heap.size]? = some o → o.isCells = false → Kp W (W.putObj w.heap.size o')) (hb0 : Below w0.heap.size w0 w) (hps : ∀ x, (encs x).size = ps.size)
    (I Ix : List α → World → Prop) (hI : OwnFrom w.heap.size I) (hIx : OwnFrom w.heap.size Ix) (h0 : I [] w) (Ax : α → Act → World → Prop) (hAx : ∀ x a', OwnFrom w.heap.size (fun (_ : Unit) W => Ax x a' W))
    (hassign : ∀ (l : Nat) (pre : List α) (x : α) (W : World) (K : Act → World → Prop), I pre W → (∀ a' W', KeepsFrom w.heap.size W W' → Kp W W' → I pre W' → Ax x a' W' → K a' W') →
      assign.wpIn (Fence.wide.inRound l) (n - 1 - 1) Tryz.prog (Exit.then K (fun _ _ _ => False)) { tmps := (ps.zip (encs x)).foldl (fun t (p, v) => t.setIfInBounds p v) a.tmps, defers := [] } W)
    (hbody : ∀ (l : Nat) (pre : List α) (x : α) (a' : Act) (W : World), w.heap.size ≤ l → (∃ r, W.heap[l]? = some (.loop r)) → I pre W → Ax x a' W → pre.length < N → body.wpIn (Fence.wide.inRound l) (n - 1 - 1) Tryz.prog (anyPost w.heap.size Kp I Ix (pre ++ [x]) W) a' W)
    (hdone : ∀ (xs : List α) (W : World), S xs → I xs W → Q .normal a W)
    (hstop : ∀ (pre : List α) (W : World), Sp pre → Ix pre W → Code.ret.wpIn (Fence.wide.inRound l₀) n Tryz.prog Q a W) :
    (Code.rangeFunc g ps assign body).wpIn (Fence.wide.inRound l₀) n Tryz.prog Q a w := by
  refine wpIn_rangeFunc fun fn hfn => ?_
  obtain ⟨rec, hrec⟩ : ∃ rec : LoopState → Option Code → Loop, rec = fun st pe => { state := st, pending := pe, fn, tmps := a.tmps, params := ps, assign, body, defers := r₀.defers } := ⟨_, rfl⟩
  let d := w.heap.size
  let W1 := w.alloc (.loop (rec .ready none))
  have hL1 : W1.heap[d]? = some (.loop (rec .ready none)) := heap_alloc_new w _
  have hI1 : I [] W1 := hI.alloc _ h0
  have hsz : W1.heap.size = d + 1 := by simp [W1, d]
  have hw1 : Below w0.heap.size w0 W1 := hb0.trans (((Below.refl _ w).alloc (Nat.le_refl _) _).mono hb0.size)
  refine ⟨d, [], W1, { target := .fn (.func gf) lb, args := #[.func (.yield d) #[] #[]] }, W1, gf, #[.func (.yield d) #[] #[]] ++ lb, W1, ?_, ?_, fun _ _ => trivial, ?_, fun _ => h1, ?_⟩
  · show (Instr.enterLoop fn a.tmps ps assign body (some l₀)).run Tryz.prog w = _
    rw [run_enterLoop_inner hl₀]
    simp only [W1, hrec, d]
  · simp only [resolve, hg]; simp [go_sem]
  · simp [invoke, go_sem, eg]
  have hJ : OwnFrom W1.heap.size (fun (pre : List α) W => I pre W ∧ W.heap[d]? = some (.loop (rec .ready none))) := fun s A B row hs hg' hr =>
    ⟨hI s A B row hs.1 hg' (fun r e => ⟨by have := (hr r e).1; omega, (hr r e).2⟩), blk_turn hg' hr hs.2 (by omega)⟩
  have hJx : OwnFrom W1.heap.size (fun (pre : List α) W => Ix pre W ∧ W.heap[d]? = some (.loop (rec .done (some .ret)))) := fun s A B row hs hg' hr =>
    ⟨hIx s A B row hs.1 hg' (fun r e => ⟨by have := (hr r e).1; omega, (hr r e).2⟩), blk_turn hg' hr hs.2 (by omega)⟩
  refine (CallsIn.inRound l₀ (hseq d (fun pre W => I pre W ∧ W.heap[d]? = some (.loop (rec .ready none))) (fun pre W => Ix pre W ∧ W.heap[d]? = some (.loop (rec .done (some .ret)))) W1 hw1 (by omega) hJ hJx ?_ ⟨hI1, hL1⟩)).mono ?_
  · rintro pre x W ⟨hi, hb⟩ hlen
    have hy := run_yield (P := Tryz.prog) (args := encs x) hb (by rw [hrec]; exact hps x)
    rw [hrec] at hy
    refine ⟨fn, _, assign, body, hy, roundIn_of_wpIn hfn (hassign d pre x W _ hi fun a' Wa hkf hkp hia hax => ?_)⟩
    have hba := hkf.same _ _ (Nat.le_refl _) hb rfl
    refine ⟨_, run_beginRound hba (by rw [hrec]), ?_⟩
    have hbb : (Wa.putObj d (.loop { rec .ready none with state := .busy })).heap[d]? = some (.loop { rec .ready none with state := .busy }) := World.putObj_heap_same (blk_lt hba)
    have hkb : Kp Wa (Wa.putObj d (.loop { rec .ready none with state := .busy })) := hKb _ _ _ hba rfl
    refine wpIn_mono (hbody d pre x a' _ (Nat.le_refl _) ⟨_, hbb⟩ (hI.putObj _ hia (Nat.le_refl _) hba rfl) ((hAx x a').putObj (s := ()) _ hax (Nat.le_refl _) hba rfl) hlen) ?_
    have fin : ∀ (jump : Option Code) (W3 : World), KeepsFrom d (Wa.putObj d (.loop { rec .ready none with state := .busy })) W3 →
        (Instr.endRound d jump).run Tryz.prog W3 = .ok (.bool jump.isNone) (W3.putObj d (.loop (rec (if jump.isNone then .ready else .done) jump))) ∧
        W3.heap[d]? = some (.loop { rec .ready none with state := .busy }) ∧
        (W3.putObj d (.loop (rec (if jump.isNone then .ready else .done) jump))).heap[d]? = some (.loop (rec (if jump.isNone then .ready else .done) jump)) := fun jump W3 hk3 => by
      have hl3 := hk3.same _ _ (Nat.le_refl _) hbb rfl
      have := run_endRound (P := Tryz.prog) jump hl3
      rw [hrec] at this ⊢
      exact ⟨this, by rw [hrec] at hl3; exact hl3, World.putObj_heap_same (blk_lt hl3)⟩
    rintro e a3 W3 hp
    cases e with
    | normal =>
      obtain ⟨hkf3, hkp3, hi3⟩ := hp
      obtain ⟨hr, hl3, hl4⟩ := fin none W3 hkf3
      exact ⟨_, _, hr, hKt _ _ _ hkp (hKt _ _ _ hkb (hKt _ _ _ hkp3 (hKb _ _ _ hl3 rfl))), .inl ⟨rfl, hI.putObj _ hi3 (Nat.le_refl _) hl3 rfl, hl4⟩⟩
    | ret =>
      obtain ⟨hkf3, hkp3, hi3⟩ := hp
      obtain ⟨hr, hl3, hl4⟩ := fin (some .ret) W3 hkf3
      exact ⟨_, _, hr, hKt _ _ _ hkp (hKt _ _ _ hkb (hKt _ _ _ hkp3 (hKb _ _ _ hl3 rfl))), .inr ⟨rfl, hIx.putObj _ hi3 (Nat.le_refl _) hl3 rfl, hl4⟩⟩
    | exit id => exact hp.elim
    | goto t => exact hp.elim
    | panic ch => exact hp.elim
    | outgrown => exact hp.elim
  · rintro e W2 ⟨⟨v, rfl⟩, (⟨xs, hS, hi, hb⟩ | ⟨pre, hSp, hi, hb⟩)⟩
    · have hh : (rec .ready none).state ≠ .busy := by rw [hrec]; simp
      have hp : (rec .ready none).pending = none := by rw [hrec]
      refine ⟨_, _, run_endLoop hb hh, ?_⟩
      rw [hp]
      exact hdone xs _ hS (hI.putObj _ hi (Nat.le_refl _) hb rfl)
    · have hh : (rec .done (some .ret)).state ≠ .busy := by rw [hrec]; simp
      have hp : (rec .done (some .ret)).pending = some .ret := by rw [hrec]
      refine ⟨_, _, run_endLoop hb hh, ?_⟩
      rw [hp]
      exact hstop pre _ hSp (hIx.putObj _ hi (Nat.le_refl _) hb rfl)
theorem range_inA {l₀ : Nat} {r₀ : Loop} (hl₀ : w.heap[l₀]? = some (.loop r₀)) (h1 : 1 ≤ n) {gf : Nat} {lb : Array Value} (hg : a.eval g = .func (.func gf) #[] lb) (eg : ∀ args w, (callFunc gf args).run Tryz.prog w = .ok (.enter gf args) w)
    {encs : α → Array Value} {Kp : World → World → Prop} {S : List α → Prop} {N : Nat} {w0 : World} (hseq : SeqAll (n - 1) gf lb encs Kp S N (w.heap.size + 1) w0)
    (hKt : ∀ A B C : World, Kp A B → Kp B C → Kp A C) (hKb : ∀ (W : World) (o o' : Obj), W.heap[w.heap.size]? = some o → o.isCells = false → Kp W (W.putObj w.heap.size o')) (hb0 : Below w0.heap.size w0 w) (hps : ∀ x, (encs x).size = ps.size)
    (I : List α → World → Prop) (hI : OwnFrom w.heap.size I) (h0 : I [] w) (Ax : α → Act → World → Prop) (hAx : ∀ x a', OwnFrom w.heap.size (fun (_ : Unit) W => Ax x a' W))
    (hassign : ∀ (l : Nat) (pre : List α) (x : α) (W : World) (K : Act → World → Prop), I pre W → (∀ a' W', KeepsFrom w.heap.size W W' → Kp W W' → I pre W' → Ax x a' W' → K a' W') →
      assign.wpIn (Fence.wide.inRound l) (n - 1 - 1) Tryz.prog (Exit.then K (fun _ _ _ => False)) { tmps := (ps.zip (encs x)).foldl (fun t (p, v) => t.setIfInBounds p v) a.tmps, defers := [] } W)
    (hbody : ∀ (l : Nat) (pre : List α) (x : α) (a' : Act) (W : World), w.heap.size ≤ l → (∃ r, W.heap[l]? = some (.loop r)) → I pre W → Ax x a' W → pre.length < N → body.wpIn (Fence.wide.inRound l) (n - 1 - 1) Tryz.prog (fun e _ W' => e = .normal ∧ KeepsFrom w.heap.size W W' ∧ Kp W W' ∧ I (pre ++ [x]) W') a' W)
    (hdone : ∀ (xs : List α) (W : World), S xs → I xs W → Q .normal a W) :
    (Code.rangeFunc g ps assign body).wpIn (Fence.wide.inRound l₀) n Tryz.prog Q a w := by
  refine wpIn_rangeFunc fun fn hfn => ?_
  obtain ⟨rec, hrec⟩ : ∃ rec : LoopState → Option Code → Loop, rec = fun st pe => { state := st, pending := pe, fn, tmps := a.tmps, params := ps, assign, body, defers := r₀.defers } := ⟨_, rfl⟩
  let d := w.heap.size
  let W1 := w.alloc (.loop (rec .ready none))
  have hL1 : W1.heap[d]? = some (.loop (rec .ready none)) := heap_alloc_new w _
  have hI1 : I [] W1 := hI.alloc _ h0
  have hsz : W1.heap.size = d + 1 := by simp [W1, d]
  have hw1 : Below w0.heap.size w0 W1 := hb0.trans (((Below.refl _ w).alloc (Nat.le_refl _) _).mono hb0.size)
  refine ⟨d, [], W1, { target := .fn (.func gf) lb, args := #[.func (.yield d) #[] #[]] }, W1, gf, #[.func (.yield d) #[] #[]] ++ lb, W1, ?_, ?_, fun _ _ => trivial, ?_, fun _ => h1, ?_⟩
  · show (Instr.enterLoop fn a.tmps ps assign body (some l₀)).run Tryz.prog w = _
    rw [run_enterLoop_inner hl₀]
    simp only [W1, hrec, d]
  · simp only [resolve, hg]; simp [go_sem]
  · simp [invoke, go_sem, eg]
  have hJ : OwnFrom W1.heap.size (fun (pre : List α) W => I pre W ∧ W.heap[d]? = some (.loop (rec .ready none))) := fun s A B row hs hg' hr =>
    ⟨hI s A B row hs.1 hg' (fun r e => ⟨by have := (hr r e).1; omega, (hr r e).2⟩), blk_turn hg' hr hs.2 (by omega)⟩
  refine (CallsIn.inRound l₀ (hseq d (fun pre W => I pre W ∧ W.heap[d]? = some (.loop (rec .ready none))) W1 hw1 (by omega) hJ ?_ ⟨hI1, hL1⟩)).mono ?_
  · rintro pre x W ⟨hi, hb⟩ hlen
    have hy := run_yield (P := Tryz.prog) (args := encs x) hb (by rw [hrec]; exact hps x)
    rw [hrec] at hy
    refine ⟨fn, _, assign, body, hy, roundIn_of_wpIn hfn (hassign d pre x W _ hi fun a' Wa hkf hkp hia hax => ?_)⟩
    have hba := hkf.same _ _ (Nat.le_refl _) hb rfl
    refine ⟨_, run_beginRound hba (by rw [hrec]), ?_⟩
    have hbb : (Wa.putObj d (.loop { rec .ready none with state := .busy })).heap[d]? = some (.loop { rec .ready none with state := .busy }) := World.putObj_heap_same (blk_lt hba)
    have hkb : Kp Wa (Wa.putObj d (.loop { rec .ready none with state := .busy })) := hKb _ _ _ hba rfl
    refine wpIn_mono (hbody d pre x a' _ (Nat.le_refl _) ⟨_, hbb⟩ (hI.putObj _ hia (Nat.le_refl _) hba rfl) ((hAx x a').putObj (s := ()) _ hax (Nat.le_refl _) hba rfl) hlen) ?_
    have fin : ∀ (jump : Option Code) (W3 : World), KeepsFrom d (Wa.putObj d (.loop { rec .ready none with state := .busy })) W3 →
        (Instr.endRound d jump).run Tryz.prog W3 = .ok (.bool jump.isNone) (W3.putObj d (.loop (rec (if jump.isNone then .ready else .done) jump))) ∧
        W3.heap[d]? = some (.loop { rec .ready none with state := .busy }) ∧
        (W3.putObj d (.loop (rec (if jump.isNone then .ready else .done) jump))).heap[d]? = some (.loop (rec (if jump.isNone then .ready else .done) jump)) := fun jump W3 hk3 => by
      have hl3 := hk3.same _ _ (Nat.le_refl _) hbb rfl
      have := run_endRound (P := Tryz.prog) jump hl3
      rw [hrec] at this ⊢
      exact ⟨this, by rw [hrec] at hl3; exact hl3, World.putObj_heap_same (blk_lt hl3)⟩
    rintro e a3 W3 ⟨rfl, hkf3, hkp3, hi3⟩
    obtain ⟨hr, hl3, hl4⟩ := fin none W3 hkf3
    exact ⟨_, _, hr, rfl, ⟨hI.putObj _ hi3 (Nat.le_refl _) hl3 rfl, hl4⟩, hKt _ _ _ hkp (hKt _ _ _ hkb (hKt _ _ _ hkp3 (hKb _ _ _ hl3 rfl)))⟩
  · rintro e W2 ⟨⟨v, rfl⟩, xs, hS, hi, hb⟩
    have hh : (rec .ready none).state ≠ .busy := by rw [hrec]; simp
    have hp : (rec .ready none).pending = none := by rw [hrec]
    refine ⟨_, _, run_endLoop hb hh, ?_⟩
    rw [hp]
    exact hdone xs _ hS (hI.putObj _ hi (Nat.le_refl _) hb rfl)
end
end Go.Proofs.YtknjjjenklfeoaaGreatDoor

/-
  uses: how often each cluster is used.
-/
namespace Go.Proofs.YtknjjjenklfeoaaGreatDoor
open Go.RowKit Go.Shelf

theorem nv_one (T : List Nat) : ∀ v ∈ nv T, v.oneCell' = true := by
  intro v hv
  simp only [nv, List.mem_map] at hv
  obtain ⟨b, _, rfl⟩ := hv
  rfl
def loadUse (a : Addr) : Sem Value := loadVar 161 a
theorem loadVar_use (a : Addr) : loadVar 161 a = loadUse a := rfl
theorem run_loadUse {w : World} {b o : Nat} (h : HasAt w b o 256) : (loadUse ⟨b, o, none⟩).run Tryz.prog w = .ok (.agg (cellsAt w b o 256).toArray) w :=
  run_loadVar_has h 161 _ Tryz.underlying161 rfl (by kernel_rfl)
def storeUse (a : Addr) (v : Value) : Sem Unit := storeVar 161 a v
theorem storeVar_use (a : Addr) (v : Value) : storeVar 161 a v = storeUse a v := rfl
theorem run_storeUse_new {w : World} {z T : List Nat} (hz : z.length = 256) (hT : T.length = 256) :
    (storeUse ⟨w.heap.size, 0, none⟩ (.agg (nv T).toArray)).run Tryz.prog (w.alloc (.cells (nv z).toArray 161)) = .ok () (w.alloc (.cells (nv T).toArray 161)) :=
  run_storeVar_new w 161 (nv z).toArray (nv T).toArray (by simp only [List.size_toArray, nv_length, hT]; kernel_rfl) (by simp [nv_length, hz, hT]) (all_oneCell_toArray (nv_one T))
theorem run_storeUse {w : World} {b o : Nat} {T : List Nat} (ht : w.there b o 256) (hT : T.length = 256) : (storeUse ⟨b, o, none⟩ (.agg (nv T).toArray)).run Tryz.prog w = .ok () (w.setCells b o (nv T)) := by
  have := run_storeVar_mid (P := Tryz.prog) w b o 161 (nv T).toArray (by simpa [nv_length, hT] using ht) (by simp only [List.size_toArray, nv_length, hT]; kernel_rfl) (all_oneCell_toArray (nv_one T))
  simpa [storeUse] using this
/-- A block is written over as a whole. -/
theorem all_store {w : World} {b : Nat} {cs : List Value} {vs : List Value} {t : TypeId} {fr : Nat × Nat} (h : w.heap[b]? = some (.cells cs.toArray t fr)) (hl : cs.length = vs.length) : (w.setCells b 0 vs).heap[b]? = some (.cells vs.toArray t fr) := by
  rw [heap_setCells_same _ _ _ _ _ _ _ h]
  congr 2
  apply Array.ext_getElem?
  intro i
  rw [setList_get _ _ _ _ (by simp [hl]), List.getElem?_toArray, List.getElem?_toArray]
  by_cases hi : i < vs.length
  · rw [if_pos (by omega), Nat.sub_zero]
  · rw [if_neg (by omega), List.getElem?_eq_none (by omega), List.getElem?_eq_none (by omega)]
def zeroUse : Sem Value := zeroValue 161
theorem zeroValue_use : zeroValue 161 = zeroUse := rfl
theorem run_zeroUse (w : World) : zeroUse.run Tryz.prog w = .ok (.agg (nv zI).toArray) w :=
  (zero_of_info (P := Tryz.prog) (t := 161) (v := .agg (nv zI).toArray) (n := 256) (by kernel_rfl)).1 w

attribute [local go_sem ↓] loadVar_use storeVar_use zeroValue_use
attribute [local go_sem] run_loadUse run_storeUse run_storeUse_new run_zeroUse zI_length
attribute [local go_sem] Oper.semAt_some
/-- The first k clusters are used. -/
def onesTo (k : Nat) : List Nat := List.replicate k 1 ++ List.replicate (256 - k) 0
theorem onesTo_length (k : Nat) (hk : k ≤ 256) : (onesTo k).length = 256 := by simp [onesTo]; omega
theorem onesTo_succ (k : Nat) (hk : k < 256) : (onesTo k).set k 1 = onesTo (k + 1) := by
  unfold onesTo
  rw [List.set_append_right _ _ (by simp), List.length_replicate, Nat.sub_self, show 256 - k = (256 - (k + 1)) + 1 by omega, List.replicate_succ, List.set_cons_zero, List.replicate_succ', List.append_assoc]
  rfl
def bumps (M : List Nat) (us : List Nat) : List Nat := us.foldl bump M
theorem bumps_snoc (M us : List Nat) (u : Nat) : bumps M (us ++ [u]) = bump (bumps M us) u := by simp [bumps]
theorem bumps_length (M us : List Nat) : (bumps M us).length = M.length := by
  unfold bumps
  induction us generalizing M with
  | nil => rfl
  | cons a r ih => simp only [List.foldl_cons]; rw [ih, bump_length]
theorem bumps_most {b : Nat} (us : List Nat) : ∀ {M : List Nat}, AtMost b M → AtMost (b + us.length) (bumps M us) := by
  induction us generalizing b with
  | nil => intro M h; exact h
  | cons a r ih =>
    intro M h
    have := ih (bump_most h a)
    rw [List.length_cons, show b + (r.length + 1) = b + 1 + r.length by omega]
    exact this
def useAll (V : VolR) (fs : List Nat) : List Nat := bumps (onesTo 6) (fs.flatMap (heldAll V.C))
def usesOf (V : VolR) : List Nat := useAll V (firstsOf V)
theorem useAll_snoc (V : VolR) (fs : List Nat) (f : Nat) : useAll V (fs ++ [f]) = bumps (useAll V fs) (heldAll V.C f) := by
  unfold useAll bumps
  rw [List.flatMap_append, List.foldl_append, List.flatMap_cons, List.flatMap_nil, List.append_nil]
theorem useAll_length (V : VolR) (fs : List Nat) : (useAll V fs).length = 256 := by unfold useAll; rw [bumps_length]; exact onesTo_length 6 (by omega)
theorem onesTo_most (k : Nat) : AtMost 1 (onesTo k) := fun n => by
  unfold onesTo
  rw [List.getD_eq_getElem?_getD]
  by_cases h : n < k
  · rw [List.getElem?_append_left (by simpa using h), List.getElem?_replicate, if_pos h]; exact Nat.le_refl _
  · rw [List.getElem?_append_right (by simpa using h), List.getElem?_replicate]
    split <;> simp

theorem below_turned {w W W' : World} {row : Option Nat} (h : Below w.heap.size w W) (hg : W.grownBy W' row) (hr : ∀ r, row = some r → w.heap.size ≤ r) : Below w.heap.size w W' :=
  ⟨hg.os.trans h.os, hg.tape.trans h.tape, hg.output.trans h.output, Nat.le_trans h.size hg.size, fun i hi => by
    rw [hg.block i (Nat.lt_of_lt_of_le hi h.size) (fun e => by have := hr i e.symm; omega)]; exact h.block i hi⟩
theorem KeepV.wide {X Y : Nat → Prop} {v : Nat} {R R' : VolR → VolR → Prop} {A B : World} (h : KeepV X Y v R A B) (hR : ∀ a b, R a b → R' a b) : KeepV X Y v R' A B :=
  ⟨h.1, h.2.1, fun C1 L1 V1 hV => by
    obtain ⟨C2, L2, V2, h1, h2, h3⟩ := h.2.2 C1 L1 V1 hV
    exact ⟨C2, L2, V2, h1, hR _ _ h2, h3⟩⟩
theorem ownFrom_keepVY {X Y : Nat → Prop} {v : Nat} {R : VolR → VolR → Prop} (hR : ∀ a, R a a) (hRt : ∀ a b c, R a b → R b c → R a c) {β : Type} {W0 : World} {B' : Nat} (hB : W0.heap.size ≤ B') : OwnFrom B' (fun (_ : β) W => KeepV X Y v R W0 W) :=
  fun _ A B row hs hg hr => ⟨Nat.le_trans hs.1 hg.size, fun k o ho hc hy => by
      have h1 := hs.2.1 k o ho hc hy
      rw [hg.block k (blk_lt h1) (fun e => by have := (hr k e.symm).1; have := blk_lt ho; omega)]
      exact h1,
    ((hs.weak (Y' := fun _ => False) (fun _ h => False.elim h)).trans hRt (KeepV.turned hR hg (fun r e => (hr r e).2))).2.2⟩
def valsM {Pc : Nat → Prop} (pre : List (UM Pc)) : List Nat := pre.map fun y => y.1
theorem valsM_snoc {Pc : Nat → Prop} (pre : List (UM Pc)) (x : UM Pc) : valsM (pre ++ [x]) = valsM pre ++ [x.1] := by simp [valsM]
theorem heldAll_len {V : VolR} {f : Nat} (h : FirstOK V f) : (heldAll V.C f).length ≤ 1057 := by
  have h1 := flatS_len (spots V f h.2)
  have h2 := spots_len V f h.2
  have h3 := told_nums V f h
  have h4 : (toldAll V.C f).length = (toldSpots V f h).length := by rw [← h3]; simp [numsS]
  unfold heldAll
  rw [List.length_cons, h4]
  unfold toldSpots
  omega
theorem useAll_most {V : VolR} : ∀ fs : List Nat, (∀ f ∈ fs, FirstOK V f) → AtMost (1 + 1057 * fs.length) (useAll V fs) := by
  intro fs hfs
  have hl : (fs.flatMap (heldAll V.C)).length ≤ 1057 * fs.length := by
    induction fs with
    | nil => simp
    | cons a r ih =>
      have h1 := ih (fun f hf => hfs f (List.mem_cons_of_mem _ hf))
      have h2 := heldAll_len (hfs a (List.mem_cons_self ..))
      rw [List.flatMap_cons, List.length_append, List.length_cons]
      omega
  intro n
  have := bumps_most (fs.flatMap (heldAll V.C)) (onesTo_most 6) n
  unfold useAll
  omega
/-- Where uses stands: its three boxes. -/
structure UseAt (w W : World) (v : Nat) (M : List Nat) (R : List Nat := zI) : Prop where
  below : Below w.heap.size w W
  bv : W.heap[w.heap.size]? = some (.cells #[.pointer (some ⟨v, 0, none⟩)] 82 (0, 0))
  br : W.heap[w.heap.size + 1]? = some (.cells (nv R).toArray 161 (0, 0))
  bu : W.heap[w.heap.size + 1 + 1]? = some (.cells (nv M).toArray 161 (0, 0))
theorem UseAt.later {w W W' : World} {v : Nat} {M : List Nat} (h : UseAt w W v M) (hb : Below W.heap.size W W') : UseAt w W' v M :=
  ⟨h.below.trans (hb.mono h.below.size), (hb.block _ (blk_lt h.bv)).trans h.bv, (hb.block _ (blk_lt h.br)).trans h.br, (hb.block _ (blk_lt h.bu)).trans h.bu⟩
theorem UseAt.turned {w W W' : World} {v B : Nat} {M : List Nat} {row : Option Nat} (h : UseAt w W v M) (hB : w.heap.size + 3 ≤ B) (hg : W.grownBy W' row) (hr : ∀ r, row = some r → B ≤ r ∧ ∃ o : Obj, W.heap[r]? = some o ∧ o.isCells = false) : UseAt w W' v M :=
  ⟨below_turned h.below hg (fun r e => by have := (hr r e).1; omega), blk_turn hg hr h.bv (by omega), blk_turn hg hr h.br (by omega), blk_turn hg hr h.bu (by omega)⟩
theorem UseAt.answer {w W : World} {v : Nat} {M : List Nat} (h : UseAt w W v M) (hM : M.length = 256) : UseAt w (W.setCells (w.heap.size + 1) 0 (nv M)) v M M := by
  have hk := Kept.onlys W (w.heap.size + 1) 0 (nv M)
  refine ⟨?_, hk.blk (by omega) h.bv, all_store h.br (by rw [nv_length, nv_length, zI_length, hM]), hk.blk (by omega) h.bu⟩
  exact ⟨hk.os.trans h.below.os, hk.tape.trans h.below.tape, hk.output.trans h.below.output, Nat.le_trans h.below.size hk.size, fun i hi => by
      rw [hk.block i (Nat.lt_of_lt_of_le hi h.below.size) (by omega)]; exact h.below.block i hi⟩
theorem UseAt.shut {w W : World} {v D : Nat} {M R : List Nat} (h : UseAt w W v M R) (hD : w.heap.size + 3 ≤ D) : UseAt w (W.putObj D (.deferred none)) v M R := by
  have hg := grownBy_putObj' W D (.deferred none)
  have hk : Kept (fun k => k = D) W (W.putObj D (.deferred none)) := ⟨hg.os, hg.tape, hg.output, hg.size, fun k hk hs => hg.block k hk (fun e => hs (by injection e))⟩
  refine ⟨?_, hk.blk (by omega) h.bv, hk.blk (by omega) h.br, hk.blk (by omega) h.bu⟩
  exact ⟨hk.os.trans h.below.os, hk.tape.trans h.below.tape, hk.output.trans h.below.output, Nat.le_trans h.below.size hk.size, fun i hi => by
      rw [hk.block i (Nat.lt_of_lt_of_le hi h.below.size) (by omega)]; exact h.below.block i hi⟩
theorem UseAt.put {w W : World} {v : Nat} {M : List Nat} (h : UseAt w W v M) (x : Nat) (n : Nat) : UseAt w (W.setCell ⟨w.heap.size + 1 + 1, x, none⟩ (.int .i64 (n : Nat))) v (M.set x n) := by
  have hk := Kept.only W (w.heap.size + 1 + 1) x (.int .i64 (n : Nat))
  refine ⟨?_, hk.blk (by omega) h.bv, hk.blk (by omega) h.br, ?_⟩
  · exact ⟨hk.os.trans h.below.os, hk.tape.trans h.below.tape, hk.output.trans h.below.output, Nat.le_trans h.below.size hk.size, fun i hi => by
      rw [hk.block i (Nat.lt_of_lt_of_le hi h.below.size) (by omega)]; exact h.below.block i hi⟩
  · rw [heap_setCell_same _ _ _ _ _ _ _ h.bu, List.setIfInBounds_toArray]
    unfold nv
    rw [List.map_set]
    rfl

set_option maxHeartbeats 1000000 in
set_option maxRecDepth 100000 in
theorem uses_in (w : World) (v : Nat) (Cv Lv : Value) (V : VolR) (h : VolAt w v Cv Lv V) (h5 : 5 < V.C.length) (hC : V.C.length ≤ 256) (hF : ∀ f ∈ firstsOf V, FirstOK V f) :
    CallsIn Fence.wide 100 Tryz.prog 99 #[.pointer (some ⟨v, 0, none⟩)] w fun e w' => e = .returned (.agg (nv (usesOf V)).toArray) ∧ Below w.heap.size w w' := by
  refine callsIn_of_wp_marks Tryz.func99 rfl trivial ?_ rfl
  simp only [Tryz.ntmps99, List.size_toArray, List.length_cons, List.length_nil, Nat.reduceAdd, Nat.reduceSub, Array.replicate_succ, Array.replicate_zero, List.push_toArray, List.append_toArray, List.nil_append, List.cons_append]
  have U0 : UseAt w (((w.alloc (.cells #[.pointer (some ⟨v, 0, none⟩)] 82)).alloc (.cells (nv zI).toArray 161)).alloc (.cells (nv zI).toArray 161)) v (onesTo 0) := by
    refine ⟨((((Below.refl _ w).alloc (Nat.le_refl _) _).alloc (by simp) _).alloc (by simp; omega) _), ?_, ?_, ?_⟩
    · exact (Below.heap_alloc _ _ _ (by simp; omega)).trans ((Below.heap_alloc _ _ _ (by simp)).trans (heap_alloc_new w _))
    · exact (Below.heap_alloc _ _ _ (by simp)).trans (by have := heap_alloc_new (w.alloc (.cells #[.pointer (some ⟨v, 0, none⟩)] 82)) (.cells (nv zI).toArray 161); rwa [World.size_alloc] at this)
    · have := heap_alloc_new ((w.alloc (.cells #[.pointer (some ⟨v, 0, none⟩)] 82)).alloc (.cells (nv zI).toArray 161)) (.cells (nv zI).toArray 161)
      rwa [World.size_alloc, World.size_alloc] at this
  have U0 := hide U0
  have H := hide h
  clear h
  gi_wp2
  generalize ((w.alloc (.cells #[.pointer (some ⟨v, 0, none⟩)] 82)).alloc (.cells (nv zI).toArray 161)).alloc (.cells (nv zI).toArray 161) = wa at *
  gi_loopw [4, 7] (fun _ i wr => ∃ k : Nat, k ≤ 6 ∧ i = .int .i64 k ∧ UseAt w wr v (onesTo k)) (fun _ i _ => 6 - (intOf i).toNat)
  case atStart => exact ⟨0, by omega, rfl, unhide U0⟩
  case round =>
    obtain ⟨k, hk, rfl, hU⟩ := hrel
    clear U0
    by_cases hlt : k < 6
    · have hki : (k : Int) < 6 := by omega
      have hki2 : (k : Int) < 256 := by omega
      have U1 := hide (by have := hU.put k 1; rwa [onesTo_succ k (by omega)] at this)
      have cu : wr.cell? ⟨w.heap.size + 1 + 1, k, none⟩ = some (.int .i64 (((onesTo k).getD k 0 : Nat) : Int)) := by
        rw [cell_blk hU.bu, List.getElem?_toArray, nv_get _ _ (by rw [onesTo_length k (by omega)]; omega)]
      have fu := frozen_blk hU.bu
      clear hU
      gi_wp2
      go_roundw
      case rel => exact ⟨k + 1, by omega, by go_num, unhide U1⟩
      case measure => simp [intOf]; omega
    · have hk6 : k = 6 := by omega
      subst hk6
      have cv0 : wr.cell? ⟨w.heap.size, 0, none⟩ = some (.pointer (some ⟨v, 0, none⟩)) := (cell_blk hU.bv 0).trans rfl
      have Hm := hide (firsts_make wr v)
      have hbr := blk_lt hU.bu
      have U1 := hide hU
      clear hU
      gi_wp2_with fail
      refine ⟨trivial, (callsIn_wide.2 (unhide Hm)).mono ?_⟩
      rintro e W3 ⟨rfl, hW3⟩
      have hs3 : wr.heap.size + 1 ≤ W3.heap.size := by rw [hW3]; simp
      have hb3 : Below wr.heap.size wr W3 := by rw [hW3]; exact (Below.refl _ _).alloc (Nat.le_refl _) _
      have hbx : W3.heap[wr.heap.size]? = some (.cells #[.pointer (some ⟨v, 0, none⟩)] 82 (0, 0)) := by rw [hW3]; exact heap_alloc_new _ _
      have U3 := (unhide U1).later hb3
      have hV3 := (unhide H).below U3.below
      have hFA := firsts_all (Pc := FirstOK V) 99 (by omega) (fun k => k = w.heap.size + 1 + 1) v wr.heap.size (W3.heap.size + 2) V Cv Lv W3 hV3 hbx (by omega) (fun hf => by have := ((unhide H).below (unhide U1).below).foot_lt _ hf; omega) (fun k hk => by rw [hk]; omega) h5 hF
      have U3 := hide U3
      clear U1 hV3 hbx hb3 hW3 Hm cv0
      gi_wp2_with fail
      refine range_all (by omega) (gf := 173) (lb := #[.pointer (some ⟨wr.heap.size, 0, none⟩)]) rfl (enters_of Tryz.func173 (by kernel_rfl) rfl) hFA
        (fun A B C h k => KeepV.trans (R := SameNum) (fun _ _ _ a b => a.trans b) h k) (fun W o o' hl hc => KeepV.turn SameNum.refl W _ o o' hl hc (by omega)) (Below.refl _ _) (fun _ => rfl)
        (fun pre W' => UseAt w W' v (useAll V (valsM pre)))
        (fun _ _ _ _ hs hg hr => UseAt.turned hs (by omega) hg hr)
        (unhide U3)
        (fun x a' _ => a' = { tmps := #[.pointer (some ⟨v, 0, none⟩), .pointer (some ⟨w.heap.size, 0, none⟩), .pointer (some ⟨w.heap.size + 1, 0, none⟩), .pointer (some ⟨w.heap.size + 1 + 1, 0, none⟩), u4, .int .i64 ((x.1 : Nat) : Int), undef, .int .i64 ((6 : Nat) : Int), .bool false, u9, u10, u11, u12, .pointer (some ⟨v, 0, none⟩), .func (.func 173) #[] #[.pointer (some ⟨wr.heap.size, 0, none⟩)], .int .i64 ((x.1 : Nat) : Int), undef, undef, undef, undef, undef, undef, undef, undef, undef, undef], defers := [] })
        (fun _ _ _ _ _ _ hs _ _ => hs)
        ?assign ?body ?done
      case assign =>
        rintro l pre x W' K hi hK
        gi_wp2
        exact hK _ _ (KeepsFrom.refl _ _) (KeepV.below SameNum.refl (Below.refl _ _)) hi rfl
      case done =>
        rintro D ys W' hD hS hU hK
        have hS' : valsM ys = firstsOf V := hS
        rw [hS'] at hU
        have l1 := blk_has hU.bu (n := 256) (by rw [nv_length, useAll_length])
        have l2 := blk_cells hU.bu (n := 256) (by rw [nv_length, useAll_length])
        have ht := there_blk hU.br 0 256 (by simp [nv_length, zI_length])
        have hml := useAll_length V (firstsOf V)
        have U5 := hide ((hU.answer hml).shut (D := D) (by omega))
        have hK5 : (W'.setCells (w.heap.size + 1) 0 (nv (useAll V (firstsOf V)))).heap[D]? = some (.deferred (some [])) := (Kept.onlys W' (w.heap.size + 1) 0 (nv (useAll V (firstsOf V)))).blk (by omega) hK
        have hR : Hid (usesOf V = useAll V (firstsOf V)) := rfl
        clear hU hK hS hS' hFA U3
        generalize useAll V (firstsOf V) = M at *
        gi_wp2
        refine ⟨by simp, .inl ⟨_, _, rfl, run_takeDeferred hK5, ?_⟩⟩
        have n3 := blk_has (unhide U5).br (n := 256) (by rw [nv_length, hml])
        have n4 := blk_cells (unhide U5).br (n := 256) (by rw [nv_length, hml])
        refine ⟨_, results_cell rfl ⟨w.heap.size + 1, 0, none⟩ rfl (v := .agg (nv M).toArray) (by rw [loadVar_use, run_loadUse n3, n4]), ?_, (unhide U5).below⟩
        rw [unhide hR]
      case body =>
        rintro l pre x a' W hl ⟨r, hr⟩ hU rfl hlen
        obtain ⟨x, hx⟩ := x
        have cv0 : W.cell? ⟨w.heap.size, 0, none⟩ = some (.pointer (some ⟨v, 0, none⟩)) := (cell_blk hU.bv 0).trans rfl
        have Hm := hide (held_make W v x)
        have U1 := hide hU
        have hbr2 := blk_lt hU.bu
        clear hU hFA
        dsimp only
        gi_wp2_with fail
        refine ⟨trivial, (CallsIn.inRound l (callsIn_wide.2 (unhide Hm))).mono ?_⟩
        rintro e wc ⟨rfl, hwc⟩
        have hs5 : W.heap.size + 2 ≤ wc.heap.size := by rw [hwc]; simp
        have hb5 : Below W.heap.size W wc := by rw [hwc]; exact ((Below.refl _ _).alloc (Nat.le_refl _) _).alloc (by simp) _
        have hb1 : wc.heap[W.heap.size]? = some (.cells #[.pointer (some ⟨v, 0, none⟩)] 82 (0, 0)) := by rw [hwc]; exact (Below.heap_alloc _ _ _ (by simp)).trans (heap_alloc_new _ _)
        have hb2 : wc.heap[W.heap.size + 1]? = some (.cells #[.int .i64 (x : Nat)] 3 (0, 0)) := by rw [hwc]; have := heap_alloc_new (W.alloc (.cells #[.pointer (some ⟨v, 0, none⟩)] 82)) (.cells #[.int .i64 (x : Nat)] 3); rwa [World.size_alloc] at this
        have U5 := (unhide U1).later hb5
        have hV5 := (unhide H).below U5.below
        have hVW := (unhide H).below (unhide U1).below
        have hr5 : wc.heap[l]? = some (.loop r) := (hb5.block _ (blk_lt hr)).trans hr
        have hHA := held_all 97 (by omega) (fun k => k = w.heap.size + 1 + 1) v W.heap.size (W.heap.size + 1) x (wc.heap.size + 1) V Cv Lv wc hV5 hC hb1 hb2 (by omega) (by omega) (fun hf => by have := hVW.foot_lt _ hf; omega) (fun hf => by have := hVW.foot_lt _ hf; omega) (fun k hk => by rw [hk]; omega) hx
        have hKF5 : KeepsFrom W3.heap.size W wc := ⟨hb5.size, fun k o _ hk _ => (hb5.block k (blk_lt hk)).trans hk⟩
        have hK5 : KeepV (fun k => k = w.heap.size + 1 + 1) (fun k => W3.heap.size + 2 ≤ k) v SameNum W wc := KeepV.below SameNum.refl hb5
        have hmost := useAll_most (V := V) (valsM pre) (fun f hf => by obtain ⟨y, _, rfl⟩ := List.mem_map.1 hf; exact y.2)
        have hpl : (valsM pre).length ≤ 4 := by have : (valsM pre).length = pre.length := List.length_map _; omega
        have hsn : useAll V (valsM (pre ++ [⟨x, hx⟩])) = bumps (useAll V (valsM pre)) (heldAll V.C x) := by rw [valsM_snoc, useAll_snoc]
        have hml := useAll_length V (valsM pre)
        have U5 := hide U5
        clear U1 hV5 hb1 hb2 hwc Hm cv0 hr hVW
        generalize useAll V (valsM pre) = M at *
        gi_wp2_with fail
        refine range_inA (l₀ := l) (r₀ := r) hr5 (by omega) (gf := 166) (lb := #[.pointer (some ⟨W.heap.size + 1, 0, none⟩), .pointer (some ⟨W.heap.size, 0, none⟩)]) rfl (enters_of Tryz.func166 (by kernel_rfl) rfl) hHA
          (fun A B C h k => KeepV.trans (R := EqV) (fun _ _ _ a b => Eq.trans a b) h k) (fun W o o' hl hc => KeepV.turn (R := EqV) (fun _ => rfl) W _ o o' hl hc (by omega)) (Below.refl _ _) (fun _ => rfl)
          (fun ip W' => UseAt w W' v (bumps M (valsU ip)) ∧ KeepsFrom W3.heap.size W W' ∧ KeepV (fun k => k = w.heap.size + 1 + 1) (fun k => W3.heap.size + 2 ≤ k) v SameNum W W')
          (fun s A B row hs hg hr => ⟨UseAt.turned hs.1 (by omega) hg hr, ownFrom_keepsFrom (β := Unit) hb5.size () A B row hs.2.1 hg hr, ownFrom_keepVY (R := SameNum) SameNum.refl (fun _ _ _ a b => a.trans b) (β := Unit) hb5.size () A B row hs.2.2 hg hr⟩)
          ⟨unhide U5, hKF5, hK5⟩
          (fun y a' _ => a' = { tmps := #[.pointer (some ⟨v, 0, none⟩), .pointer (some ⟨w.heap.size, 0, none⟩), .pointer (some ⟨w.heap.size + 1, 0, none⟩), .pointer (some ⟨w.heap.size + 1 + 1, 0, none⟩), u4, .int .i64 ((x : Nat) : Int), .int .i64 ((y.1 : Nat) : Int), .int .i64 ((6 : Nat) : Int), .bool false, u9, u10, u11, u12, .pointer (some ⟨v, 0, none⟩), .func (.func 173) #[] #[.pointer (some ⟨wr.heap.size, 0, none⟩)], .int .i64 ((x : Nat) : Int), .pointer (some ⟨v, 0, none⟩), .int .i64 ((x : Nat) : Int), .func (.func 166) #[] #[.pointer (some ⟨W.heap.size + 1, 0, none⟩), .pointer (some ⟨W.heap.size, 0, none⟩)], .int .i64 ((y.1 : Nat) : Int), undef, undef, undef, undef, undef, undef], defers := [] })
          (fun _ _ _ _ _ _ hs _ _ => hs) ?assign2 ?body2 ?done2
        case assign2 =>
          rintro l2 ip y W' K hi hK
          gi_wp2
          exact hK _ _ (KeepsFrom.refl _ _) (KeepV.below (R := EqV) (fun _ => rfl) (Below.refl _ _)) hi rfl
        case done2 =>
          rintro ip W' hS ⟨g1, g2, g3⟩
          have hS' : valsU ip = heldAll V.C x := hS
          rw [hS'] at g1
          have G0 := hide g1
          rw [← hsn] at g1
          have G1 := hide g1
          have G2 := hide g2
          have G3 := hide g3
          clear g1 g2 g3
          gi_wp2
          repeat (first | exact unhide G0 | exact unhide G1 | exact unhide G2 | exact unhide G3 | refine ⟨?_, ?_⟩)
        case body2 =>
          rintro l2 ip ⟨y, hy⟩ a' W' hl2 _ ⟨g1, g2, g3⟩ rfl hip
          have hbm := bumps_most (valsU ip) hmost y
          have hil : (valsU ip).length = ip.length := List.length_map _
          have hsb : bumps M (valsU (ip ++ [⟨y, hy⟩])) = bump (bumps M (valsU ip)) y := by rw [valsU_snoc, bumps_snoc]
          have hbl := bumps_length M (valsU ip)
          have hyi : (y : Int) < 256 := by omega
          have hV' := (unhide H).below g1.below
          generalize bumps M (valsU ip) = N at *
          have c1 : W'.cell? ⟨w.heap.size + 1 + 1, y, none⟩ = some (.int .i64 ((N.getD y 0 : Nat) : Int)) := by
            rw [cell_blk g1.bu, List.getElem?_toArray, nv_get _ _ (by omega)]
          have f1 := frozen_blk g1.bu
          have hNi : ((N.getD y 0 : Nat) : Int) ≤ 10000 := by omega
          have U6 := g1.put y (N.getD y 0 + 1)
          rw [show N.set y (N.getD y 0 + 1) = bump N y from rfl, ← hsb, show ((N.getD y 0 + 1 : Nat) : Int) = ((N.getD y 0 : Nat) : Int) + 1 by omega] at U6
          have hown : ∀ k, k = w.heap.size + 1 + 1 → k = w.heap.size + 1 + 1 ∧ ¬ foot v Cv Lv k ∧ ∃ o, W'.heap[k]? = some o ∧ o.isCells = true := fun k e => by
            subst e
            exact ⟨rfl, fun hf => by have := (unhide H).foot_lt _ hf; omega, _, g1.bu, rfl⟩
          have K3 : KeepV (fun k => k = w.heap.size + 1 + 1) (fun k => wc.heap.size + 1 ≤ k) v EqV W' (W'.setCell ⟨w.heap.size + 1 + 1, y, none⟩ (.int .i64 (((N.getD y 0 : Nat) : Int) + 1))) := KeepV.own hV' (Kept.only _ _ _ _) hown rfl
          have K4 : KeepV (fun k => k = w.heap.size + 1 + 1) (fun k => W3.heap.size + 2 ≤ k) v SameNum W' (W'.setCell ⟨w.heap.size + 1 + 1, y, none⟩ (.int .i64 (((N.getD y 0 : Nat) : Int) + 1))) := KeepV.own hV' (Kept.only _ _ _ _) hown (SameNum.refl _)
          have K5 := hide (g3.trans (fun _ _ _ a b => a.trans b) K4)
          have hf := hide ((KeepsOthers.setCell W' ⟨w.heap.size + 1 + 1, y, none⟩ (.int .i64 (((N.getD y 0 : Nat) : Int) + 1))).from wc.heap.size)
          have hf2 := hide (g2.trans ((KeepsOthers.setCell W' ⟨w.heap.size + 1 + 1, y, none⟩ (.int .i64 (((N.getD y 0 : Nat) : Int) + 1))).from W3.heap.size))
          have U6 := hide U6
          have K3 := hide K3
          clear g1 g2 g3 K4 hown hsb hV' hbm hmost hHA
          generalize N.getD y 0 = q at *
          gi_wp2
          repeat (first | exact unhide hf | exact unhide K3 | exact unhide U6 | exact unhide hf2 | exact unhide K5 | refine ⟨?_, ?_⟩)
end Go.Proofs.YtknjjjenklfeoaaGreatDoor
