import Derived.Test.YtknjjjenklfeoaaGreatDoorP00
/-
  The reference's small readers: a number of two bytes, a cluster's count, a number that is told, a mark.
-/
namespace Go.Proofs.YtknjjjenklfeoaaGreatDoor
open Go.RowKit

def rootCells (r : RootR) : List Value := [.int .i64 r.N, .int .i64 r.At, .string ⟨r.name.toArray⟩]
def nat64 (n : Nat) : Value := .int .i64 n
def fileCells (Lv Rv : Value) (R : FileR) : List Value := Lv :: Rv :: (R.told.map nat64 ++ (R.used.map nat64 ++ [.int .i64 R.bad]))

/-- The record of a file that is looked over lies in block f. -/
structure FileAt (w : World) (f : Nat) (Lv Rv : Value) (R : FileR) : Prop where
  blk : w.heap[f]? = some (.cells (fileCells Lv Rv R).toArray 93 (0, 0))
  rowL : w.ownsRow 0 38 64 Lv R.L.length (flatC R.L)
  rowR : w.ownsRow 0 132 3 Rv R.roots.length (R.roots.flatMap rootCells)
  told : R.told.length = 256
  used : R.used.length = 256
  lens : ∀ c ∈ R.L, c.length = 64

section
variable {w : World} {f : Nat} {Lv Rv : Value} {R : FileR}
theorem FileAt.cLv (h : FileAt w f Lv Rv R) : w.cell? ⟨f, 0, none⟩ = some Lv := by rw [cell_blk h.blk]; rfl
theorem FileAt.cRv (h : FileAt w f Lv Rv R) : w.cell? ⟨f, 1, none⟩ = some Rv := by rw [cell_blk h.blk]; rfl
theorem FileAt.cTold (h : FileAt w f Lv Rv R) (n : Nat) (hn : n < 256) : w.cell? ⟨f, 2 + n, none⟩ = some (.int .i64 ((R.told.getD n 0 : Nat) : Int)) := by
  rw [cell_blk h.blk, List.getElem?_toArray, Nat.add_comm]
  show (R.told.map nat64 ++ (R.used.map nat64 ++ [.int .i64 R.bad]))[n]? = _
  have ht := h.told
  rw [List.getElem?_append_left (by simp; omega), List.getElem?_map, List.getD_eq_getElem?_getD, List.getElem?_eq_getElem (by omega)]
  rfl
theorem FileAt.cUsed (h : FileAt w f Lv Rv R) (n : Nat) (hn : n < 256) : w.cell? ⟨f, 258 + n, none⟩ = some (.int .i64 ((R.used.getD n 0 : Nat) : Int)) := by
  rw [cell_blk h.blk, List.getElem?_toArray, show 258 + n = (256 + n) + 2 by omega]
  show (R.told.map nat64 ++ (R.used.map nat64 ++ [.int .i64 R.bad]))[256 + n]? = _
  have ht := h.told
  have hu := h.used
  rw [List.getElem?_append_right (by simp; omega), List.length_map, ht, Nat.add_sub_cancel_left, List.getElem?_append_left (by simp; omega), List.getElem?_map, List.getD_eq_getElem?_getD, List.getElem?_eq_getElem (by omega)]
  rfl
theorem FileAt.cBad (h : FileAt w f Lv Rv R) : w.cell? ⟨f, 514, none⟩ = some (.int .i64 R.bad) := by
  rw [cell_blk h.blk, List.getElem?_toArray]
  show (R.told.map nat64 ++ (R.used.map nat64 ++ [.int .i64 R.bad]))[512]? = _
  have ht := h.told
  have hu := h.used
  rw [List.getElem?_append_right (by simp; omega), List.length_map, ht, List.getElem?_append_right (by simp; omega), List.length_map, hu]
  rfl
theorem FileAt.fz (h : FileAt w f Lv Rv R) (i : Nat) : w.frozen? ⟨f, i, none⟩ = false := frozen_blk h.blk i
theorem FileAt.lt (h : FileAt w f Lv Rv R) : f < w.heap.size := blk_lt h.blk
theorem FileAt.neL (h : FileAt w f Lv Rv R) : ∀ g, Lv.ownBlock = some g → g ≠ f := row_ne h.rowL h.blk (by decide)
theorem FileAt.neR (h : FileAt w f Lv Rv R) : ∀ g, Rv.ownBlock = some g → g ≠ f := row_ne h.rowR h.blk (by decide)
theorem FileAt.neLR (h : FileAt w f Lv Rv R) : ∀ g, Rv.ownBlock = some g → Lv.ownBlock ≠ some g := by
  intro g hg hl
  rcases h.rowL.2 with ⟨rfl, _⟩ | ⟨g', cap, cur, rfl, _, hh, _⟩
  · cases hl
  · simp only [Value.ownBlock, Option.some.injEq] at hl
    subst hl
    exact row_ne h.rowR hh (by decide) _ hg rfl
/-- A record stays where what it uses is left alone. -/
theorem FileAt.kept {w' : World} {S : Nat → Prop} (h : FileAt w f Lv Rv R) (hk : Kept S w w') (hf : ¬ S f) (hL : ∀ g, Lv.ownBlock = some g → ¬ S g) (hR : ∀ g, Rv.ownBlock = some g → ¬ S g) : FileAt w' f Lv Rv R :=
  ⟨hk.blk hf h.blk, ownsRow_kept hk h.rowL hL, ownsRow_kept hk h.rowR hR, h.told, h.used, h.lens⟩
theorem FileAt.drewN (h : FileAt w f Lv Rv R) (n : Nat) : FileAt (w.drewN n) f Lv Rv R :=
  h.kept (S := fun _ => False) ((Kept.refl _ _).drewN n) id (fun _ _ => id) (fun _ _ => id)
theorem FileAt.drew (h : FileAt w f Lv Rv R) : FileAt w.drew f Lv Rv R :=
  h.kept (S := fun _ => False) ((Kept.refl _ _).drew) id (fun _ _ => id) (fun _ _ => id)
theorem FileAt.below {w' : World} (h : FileAt w f Lv Rv R) (hb : Below w.heap.size w w') : FileAt w' f Lv Rv R :=
  h.kept (S := fun _ => False) (Kept.of_below hb) id (fun _ _ => id) (fun _ _ => id)
theorem Kept.only (w : World) (f i : Nat) (v : Value) : Kept (fun k => k = f) w (w.setCell ⟨f, i, none⟩ v) := (Kept.refl (fun k => k = f) w).setCell (p := ⟨f, i, none⟩) (Or.inl rfl) v
theorem FileAt.stored (h : FileAt w f Lv Rv R) (i : Nat) (v : Value) (R' : FileR) (hL : R'.L = R.L) (hR : R'.roots = R.roots) (ht : R'.told.length = 256) (hu : R'.used.length = 256)
    (hc : (fileCells Lv Rv R).set i v = fileCells Lv Rv R') : FileAt (w.setCell ⟨f, i, none⟩ v) f Lv Rv R' := by
  have hk := Kept.only w f i v
  refine ⟨?_, by rw [hL]; exact ownsRow_kept hk h.rowL h.neL, by rw [hR]; exact ownsRow_kept hk h.rowR h.neR, ht, hu, by rw [hL]; exact h.lens⟩
  rw [heap_setCell_same w f i v _ _ _ h.blk, ← hc, List.setIfInBounds_toArray]
theorem FileAt.setBad (h : FileAt w f Lv Rv R) (b : Int) : FileAt (w.setCell ⟨f, 514, none⟩ (.int .i64 b)) f Lv Rv { R with bad := b } := by
  refine h.stored 514 _ _ rfl rfl h.told h.used ?_
  have ht := h.told
  have hu := h.used
  show Lv :: Rv :: (R.told.map nat64 ++ (R.used.map nat64 ++ [Value.int .i64 R.bad])).set 512 _ = _
  rw [List.set_append_right _ _ (by simp; omega), List.set_append_right _ _ (by simp; omega)]
  simp [ht, hu, fileCells]
theorem FileAt.setTold (h : FileAt w f Lv Rv R) (n k : Nat) (hn : n < 256) : FileAt (w.setCell ⟨f, 2 + n, none⟩ (.int .i64 (k : Int))) f Lv Rv { R with told := R.told.set n k } := by
  refine h.stored (2 + n) _ _ rfl rfl (by simp [h.told]) h.used ?_
  have ht := h.told
  rw [Nat.add_comm]
  show Lv :: Rv :: (R.told.map nat64 ++ (R.used.map nat64 ++ [Value.int .i64 R.bad])).set n _ = _
  rw [List.set_append_left _ _ (by simp; omega)]
  simp [fileCells, nat64, List.map_set]
theorem FileAt.setUsed (h : FileAt w f Lv Rv R) (n k : Nat) (hn : n < 256) : FileAt (w.setCell ⟨f, 258 + n, none⟩ (.int .i64 (k : Int))) f Lv Rv { R with used := R.used.set n k } := by
  refine h.stored (258 + n) _ _ rfl rfl h.told (by simp [h.used]) ?_
  have ht := h.told
  have hu := h.used
  rw [show 258 + n = (256 + n) + 2 by omega]
  show Lv :: Rv :: (R.told.map nat64 ++ (R.used.map nat64 ++ [Value.int .i64 R.bad])).set (256 + n) _ = _
  rw [List.set_append_right _ _ (by simp; omega), List.length_map, ht, Nat.add_sub_cancel_left, List.set_append_left _ _ (by simp; omega)]
  simp [fileCells, nat64, List.map_set]
end

set_option maxHeartbeats 400000 in
theorem number_any (c : List UInt8) (at' : Int) (w : World) (hc : c.length = 64) (h0 : 0 ≤ at') (h1 : at' < 63) :
    Calls Tryz.prog 136 #[.agg (cv c).toArray, .int .i64 at'] w fun e w' => e = .returned (.int .i64 (num c at'.toNat : Nat)) ∧ Below w.heap.size w w' := by
  obtain ⟨n, rfl⟩ := Int.eq_ofNat_of_zero_le h0
  have b1 := byteAt_lt c n
  have b2 := byteAt_lt c (n + 1)
  have k1 : (w.alloc (.cells (cv c).toArray 38)).cell? ⟨w.heap.size, n, none⟩ = some (.int .u8 (byteAt c n : Nat)) := by
    rw [cell_new, List.getElem?_toArray, cv_get]; omega
  have k2 : (w.alloc (.cells (cv c).toArray 38)).cell? ⟨w.heap.size, n + 1, none⟩ = some (.int .u8 (byteAt c (n + 1) : Nat)) := by
    rw [cell_new, List.getElem?_toArray, cv_get]; omega
  go_enter Tryz.func136, Tryz.ntmps136
  go_wp2
  go_quiet (fail)
  go_wp2
  go_ret
  refine ⟨?_, ?_⟩
  · simp [num]
  · exact (((Kept.refl (fun _ => False) w).alloc _).drewN _).below

end Go.Proofs.YtknjjjenklfeoaaGreatDoor

/-
  The reference's tell, count and mark: what they compute of the record.
-/
namespace Go.Proofs.YtknjjjenklfeoaaGreatDoor
open Go.RowKit

theorem row_form {w : World} {base : Nat} {e : TypeId} {size : Nat} {v : Value} {n : Nat} {xs : List Value} (h : w.ownsRow base e size v n xs) : ∃ a cap, v = .slice a n cap := by
  rcases h.2 with ⟨rfl, rfl⟩ | ⟨g, cap, _, rfl, _⟩
  · exact ⟨none, 0, rfl⟩
  · exact ⟨_, cap, rfl⟩

set_option maxHeartbeats 1000000 in
set_option maxRecDepth 100000 in
theorem tell_no (w : World) (f : Nat) (Lv Rv : Value) (R : FileR) (h : FileAt w f Lv Rv R) (hL : R.L.length ≤ 256) (n kind at' : Nat) (hn : n < 65536) (hno : noTell R n kind = true) :
    Calls Tryz.prog 138 #[.pointer (some ⟨f, 0, none⟩), .int .i64 n, .int .i64 kind, .int .i64 at'] w fun e w' =>
      e = .returned (.bool false) ∧ FileAt w' f Lv Rv { R with bad := at' } ∧ Kept (fun k => k = f) w w' := by
  have hb := h.setBad at'
  have hk := Kept.only w f 514 (.int .i64 at')
  have c0 := h.cLv
  have cB := h.cBad
  have hfz := h.fz
  obtain ⟨a, cap, rfl⟩ := row_form h.rowL
  by_cases h6 : n < 6
  · have d6 : decide ((n : Int) < 6) = true := by simp; omega
    clear hno
    go_enter Tryz.func138, Tryz.ntmps138
    go_wp2
    go_ret
    exact ⟨rfl, hb, hk⟩
  · have d6 : decide ((n : Int) < 6) = false := by simp; omega
    by_cases hl : R.L.length ≤ n
    · have dl : decide ((R.L.length : Int) ≤ (n : Int)) = true := by simp; omega
      clear hno
      go_enter Tryz.func138, Tryz.ntmps138
      go_wp2
      go_ret
      exact ⟨rfl, hb, hk⟩
    · have dl : decide ((R.L.length : Int) ≤ (n : Int)) = false := by simp; omega
      have hn0 : (0 : Int) ≤ (n : Int) := by omega
      have hn1 : (n : Int) < 256 := by omega
      have ct := h.cTold n (by omega)
      simp only [noTell, h6, hl, decide_false, Bool.false_or, Bool.and_eq_true, Bool.or_eq_true, bne_iff_ne, beq_iff_eq] at hno
      obtain ⟨ht, hx⟩ := hno
      generalize R.told.getD n 0 = t at *
      have dt : (((t : Nat) : Int) != 0) = true := by rw [bne_iff_ne]; omega
      by_cases hk1 : t = kind
      · have hx1 : kind = 1 := by rcases hx with hx | hx <;> omega
        subst hx1
        subst hk1
        clear hx
        go_enter Tryz.func138, Tryz.ntmps138
        go_wp2
        go_ret
        exact ⟨rfl, hb, hk⟩
      · have dk : (((t : Nat) : Int) != (kind : Int)) = true := by rw [bne_iff_ne]; omega
        clear hx
        go_enter Tryz.func138, Tryz.ntmps138
        go_wp2
        go_ret
        exact ⟨rfl, hb, hk⟩

set_option maxHeartbeats 1000000 in
set_option maxRecDepth 100000 in
theorem tell_yes (w : World) (f : Nat) (Lv Rv : Value) (R : FileR) (h : FileAt w f Lv Rv R) (hL : R.L.length ≤ 256) (n kind at' : Nat) (hn : n < 65536) (hno : noTell R n kind = false) (hlow : Low 1000000 R) :
    Calls Tryz.prog 138 #[.pointer (some ⟨f, 0, none⟩), .int .i64 n, .int .i64 kind, .int .i64 at'] w fun e w' =>
      e = .returned (.bool true) ∧ FileAt w' f Lv Rv { R with told := R.told.set n kind, used := R.used.set n (R.used.getD n 0 + 1) } ∧ Kept (fun k => k = f) w w' := by
  simp only [noTell, Bool.or_eq_false_iff, decide_eq_false_iff_not] at hno
  obtain ⟨h6, hl, hx⟩ := hno
  have d6 : decide ((n : Int) < 6) = false := by simp; omega
  have dl : decide ((R.L.length : Int) ≤ (n : Int)) = false := by simp; omega
  have hn0 : (0 : Int) ≤ (n : Int) := by omega
  have hn1 : (n : Int) < 256 := by omega
  have c0 := h.cLv
  have hfz := h.fz
  have ct := h.cTold n (by omega)
  have hb1 := h.setTold n kind (by omega)
  have cu := hb1.cUsed n (by omega)
  have hfz1 := hb1.fz
  have hb2 := hb1.setUsed n (R.used.getD n 0 + 1) (by omega)
  have hk : Kept (fun k => k = f) w ((w.setCell ⟨f, 2 + n, none⟩ (.int .i64 kind)).setCell ⟨f, 258 + n, none⟩ (.int .i64 ((R.used.getD n 0 + 1 : Nat) : Int))) := (Kept.only w f _ _).trans (Kept.only _ f _ _)
  have hu := hlow n
  simp only at cu
  obtain ⟨a, cap, rfl⟩ := row_form h.rowL
  generalize R.told.getD n 0 = t at *
  generalize R.used.getD n 0 = u at *
  have hu2 : (u : Int) ≤ 1000000 := by omega
  rw [show ((u + 1 : Nat) : Int) = (u : Int) + 1 by omega] at hb2 hk
  have Hb2 := hide (hb2.drew)
  have Hk := hide (hk.drew)
  clear hb2 hk
  by_cases ht : t = 0
  · subst ht
    clear hx
    go_enter Tryz.func138, Tryz.ntmps138
    go_wp2
    go_region
    go_wp2
    go_ret
    exact ⟨rfl, unhide Hb2, unhide Hk⟩
  · have dt : (((t : Nat) : Int) != 0) = true := by rw [bne_iff_ne]; omega
    have hx' : t = kind ∧ kind ≠ 1 := by
      have e : (t != 0) = true := by rw [bne_iff_ne]; exact ht
      rw [e, Bool.true_and, Bool.or_eq_false_iff] at hx
      exact ⟨by simpa using hx.1, by simpa using hx.2⟩
    obtain ⟨rfl, h1⟩ := hx'
    have d1 : ((t : Int) == 1) = false := by rw [beq_eq_false_iff_ne]; omega
    clear hx
    go_enter Tryz.func138, Tryz.ntmps138
    go_wp2
    go_region
    go_wp2
    go_ret
    exact ⟨rfl, unhide Hb2, unhide Hk⟩

theorem tell_any (w : World) (f : Nat) (Lv Rv : Value) (R : FileR) (h : FileAt w f Lv Rv R) (hL : R.L.length ≤ 256) (n kind at' : Int) (hn0 : 0 ≤ n) (hn : n < 65536) (hk0 : 0 ≤ kind) (ha : 0 ≤ at') (hlow : Low 1000000 R) :
    Calls Tryz.prog 138 #[.pointer (some ⟨f, 0, none⟩), .int .i64 n, .int .i64 kind, .int .i64 at'] w fun e w' =>
      e = .returned (.bool (tell R n.toNat kind.toNat at'.toNat).1) ∧ FileAt w' f Lv Rv (tell R n.toNat kind.toNat at'.toNat).2 ∧ Kept (fun k => k = f) w w' := by
  obtain ⟨n, rfl⟩ := Int.eq_ofNat_of_zero_le hn0
  obtain ⟨kind, rfl⟩ := Int.eq_ofNat_of_zero_le hk0
  obtain ⟨at', rfl⟩ := Int.eq_ofNat_of_zero_le ha
  simp only [Int.toNat_natCast]
  cases hno : noTell R n kind with
  | true =>
    rw [show tell R n kind at' = (false, { R with bad := at' }) by simp [tell, hno]]
    exact tell_no w f Lv Rv R h hL n kind at' (by omega) hno
  | false =>
    rw [show tell R n kind at' = (true, { R with told := R.told.set n kind, used := R.used.set n (R.used.getD n 0 + 1) }) by simp [tell, hno]]
    exact tell_yes w f Lv Rv R h hL n kind at' (by omega) hno hlow

/-- A byte of a cluster of a row. -/
theorem row_byte {w : World} {base : Nat} {g cap : Nat} {L : List Clus} (h : w.ownsRow base 38 64 (.slice (some ⟨g, 0, none⟩) L.length cap) L.length (flatC L)) (hl : ∀ c ∈ L, c.length = 64)
    (k j : Nat) (hk : k < L.length) (hj : j < 64) : w.cell? ⟨g, k * 64 + j, none⟩ = some (.int .u8 (byteAt (cl L k) j : Nat)) := by
  rw [h.cellAt (k * 64 + j) (by omega), flatC_range L hl k hk j hj, cv_get _ _ (by rw [cl_length hl hk]; exact hj)]
theorem row_range {w : World} {base : Nat} {g cap : Nat} {L : List Clus} (h : w.ownsRow base 38 64 (.slice (some ⟨g, 0, none⟩) L.length cap) L.length (flatC L)) (hl : ∀ c ∈ L, c.length = 64)
    (k : Nat) (hk : k < L.length) : w.rangeAt g (k * 64) (cv (cl L k)) := by
  intro j v hv
  have hj : j < 64 := by
    have := (List.getElem?_eq_some_iff.1 hv).1
    rw [cv_length, cl_length hl hk] at this; exact this
  rw [row_byte h hl k j hk hj]
  rw [cv_get _ _ (by rw [cl_length hl hk]; exact hj)] at hv
  exact hv
theorem row_some {w : World} {base : Nat} {e : TypeId} {size : Nat} {v : Value} {n : Nat} {xs : List Value} (h : w.ownsRow base e size v n xs) (hn : 0 < n) : ∃ g cap, v = .slice (some ⟨g, 0, none⟩) n cap ∧ n ≤ cap := by
  rcases h.2 with ⟨rfl, rfl⟩ | ⟨g, cap, _, rfl, _, _, hc, _⟩
  · omega
  · exact ⟨g, cap, rfl, hc⟩

set_option maxHeartbeats 400000 in
theorem count_any (w : World) (f : Nat) (Lv Rv : Value) (R : FileR) (h : FileAt w f Lv Rv R) (n : Int) (h0 : 0 ≤ n) (h1 : n < 256) (hL : 5 ≤ R.L.length) :
    Calls Tryz.prog 79 #[.pointer (some ⟨f, 0, none⟩), .int .i64 n] w fun e w' => e = .returned (.int .i64 (countOf R.L n.toNat : Nat)) ∧ w' = w := by
  obtain ⟨n, rfl⟩ := Int.eq_ofNat_of_zero_le h0
  rw [Int.toNat_natCast]
  obtain ⟨g, cap, rfl, hc⟩ := row_some h.rowL (by omega)
  have c0 := h.cLv
  have cb := row_byte h.rowL h.lens (1 + n / 64) (n % 64) (by omega) (by omega)
  have bl := byteAt_lt (cl R.L (1 + n / 64)) (n % 64)
  have hLi : (5 : Int) ≤ (R.L.length : Int) := by omega
  have Hc : Hid (countOf R.L n = byteAt (cl R.L (1 + n / 64)) (n % 64)) := rfl
  go_enter Tryz.func79, Tryz.ntmps79
  go_wp2
  go_ret
  exact ⟨rfl, rfl⟩

/-- May a number have its mark? How many marks it lacks. -/
theorem mark_no (w : World) (f : Nat) (Lv Rv : Value) (R : FileR) (h : FileAt w f Lv Rv R) (x : Nat) (h1 : x % 32768 < 256) (hx : x < 65536) (hL : 5 ≤ R.L.length) (hlow : Low 1000000 R) :
    Calls Tryz.prog 139 #[.pointer (some ⟨f, 0, none⟩), .int .i64 x] w fun e w' => e = .returned (.tuple #[.bool (markBad R x), .int .i64 (markNone R x : Nat)]) ∧ w' = w := by
  have cu := h.cUsed (x % 32768) h1
  have hu := hlow (x % 32768)
  have hi1 : (x : Int) % 32768 < 256 := by omega
  have Hb : Hid (markBad R x = if 32768 ≤ x then (R.used.getD (x % 32768) 0 != 1 || countOf R.L (x % 32768) != 1) else false) := rfl
  have Hn : Hid (markNone R x = if 32768 ≤ x then 0 else if R.used.getD (x % 32768) 0 = 1 then 1 else 0) := rfl
  generalize R.used.getD (x % 32768) 0 = u at *
  by_cases hm : 32768 ≤ x
  · have dm : decide ((32768 : Int) ≤ (x : Int)) = true := by simp; omega
    have Hn0 : Hid (markNone R x = 0) := by rw [unhide Hn, if_pos hm]; rfl
    clear Hn
    by_cases hu1 : u = 1
    · subst hu1
      have Hb0 : Hid (markBad R x = (countOf R.L (x % 32768) != 1)) := by rw [unhide Hb, if_pos hm]; rfl
      clear Hb
      have hcnt := count_any w f Lv Rv R h ((x % 32768 : Nat) : Int) (by omega) (by omega) hL
      rw [Int.toNat_natCast] at hcnt
      have Hcnt := hide hcnt
      clear hcnt
      have hci : (((countOf R.L (x % 32768) : Nat) : Int) != 1) = (countOf R.L (x % 32768) != 1) := by
        rw [Bool.eq_iff_iff]; simp only [bne_iff_ne]; omega
      have Hci := hide hci
      clear hci
      generalize countOf R.L (x % 32768) = q at *
      go_enter Tryz.func139, Tryz.ntmps139
      go_wp2_with fail
      refine (unhide Hcnt).mono ?_
      rintro e w' ⟨rfl, rfl⟩
      go_wp2
      go_ret2
      rw [unhide Hb0, unhide Hn0, unhide Hci]
      exact ⟨rfl, rfl⟩
    · have Hb0 : Hid (markBad R x = true) := by
        have e : (u != 1) = true := by rw [bne_iff_ne]; exact hu1
        rw [unhide Hb, if_pos hm, e]; rfl
      clear Hb
      have du : ((u : Int) == 1) = false := by rw [beq_eq_false_iff_ne]; omega
      go_enter Tryz.func139, Tryz.ntmps139
      go_wp2
      go_ret2
      rw [unhide Hb0, unhide Hn0]
      exact ⟨rfl, rfl⟩
  · have dm : decide ((32768 : Int) ≤ (x : Int)) = false := by simp; omega
    have Hb0 : Hid (markBad R x = false) := by rw [unhide Hb, if_neg hm]; rfl
    clear Hb
    by_cases hu1 : u = 1
    · subst hu1
      have Hn0 : Hid (markNone R x = 1) := by rw [unhide Hn, if_neg hm]; rfl
      clear Hn
      go_enter Tryz.func139, Tryz.ntmps139
      go_wp2
      go_ret2
      rw [unhide Hb0, unhide Hn0]
      exact ⟨rfl, rfl⟩
    · have Hn0 : Hid (markNone R x = 0) := by rw [unhide Hn, if_neg hm, if_neg hu1]; rfl
      clear Hn
      have du : ((u : Int) == 1) = false := by rw [beq_eq_false_iff_ne]; omega
      go_enter Tryz.func139, Tryz.ntmps139
      go_wp2
      go_ret2
      rw [unhide Hb0, unhide Hn0]
      exact ⟨rfl, rfl⟩
end Go.Proofs.YtknjjjenklfeoaaGreatDoor

/-
  The reference's Needs: how many clusters a write may need.
-/
namespace Go.Proofs.YtknjjjenklfeoaaGreatDoor
open Go.RowKit

attribute [local go_sem ↓] loadVar_clus
attribute [local go_sem] run_loadClus
theorem row_has {w : World} {base : Nat} {g cap : Nat} {L : List Clus} (h : w.ownsRow base 38 64 (.slice (some ⟨g, 0, none⟩) L.length cap) L.length (flatC L)) (hl : ∀ c ∈ L, c.length = 64)
    (k : Nat) (hk : k < L.length) : HasAt w g (k * 64) 64 := hasAt_of_range (row_range h hl k hk) (by rw [cv_length, cl_length hl hk])
theorem row_cells {w : World} {base : Nat} {g cap : Nat} {L : List Clus} (h : w.ownsRow base 38 64 (.slice (some ⟨g, 0, none⟩) L.length cap) L.length (flatC L)) (hl : ∀ c ∈ L, c.length = 64)
    (k : Nat) (hk : k < L.length) : cellsAt w g (k * 64) 64 = cv (cl L k) := cellsAt_of_range (row_range h hl k hk) (by rw [cv_length, cl_length hl hk])

theorem root_cells (R : List RootR) (i : Nat) (hi : i < R.length) (j : Nat) (hj : j < 3) : (R.flatMap rootCells)[i * 3 + j]? = (rootCells (R.getD i ⟨0, 0, []⟩))[j]? := by
  induction R generalizing i with
  | nil => simp at hi
  | cons a r ih =>
    cases i with
    | zero =>
      simp only [List.flatMap_cons, List.getD_cons_zero, Nat.zero_mul, Nat.zero_add]
      rw [List.getElem?_append_left (by simp [rootCells]; omega)]
    | succ i =>
      have h2 := ih i (by simpa using hi)
      simp only [List.flatMap_cons, List.getD_cons_succ]
      rw [List.getElem?_append_right (by simp [rootCells]; omega), ← h2]
      congr 1
      simp [rootCells]; omega
theorem root_cell {w : World} {base : Nat} {g cap : Nat} {R : List RootR} (h : w.ownsRow base 132 3 (.slice (some ⟨g, 0, none⟩) R.length cap) R.length (R.flatMap rootCells)) (i : Nat) (hi : i < R.length) (j : Nat) (hj : j < 3) :
    w.cell? ⟨g, i * 3 + j, none⟩ = (rootCells (R.getD i ⟨0, 0, []⟩))[j]? := by
  rw [h.cellAt (i * 3 + j) (by omega), root_cells R i hi j hj]

def rootOf (R : FileR) (i : Nat) : RootR := R.roots.getD i ⟨0, 0, []⟩

end Go.Proofs.YtknjjjenklfeoaaGreatDoor

/-
  The reference's tree: a first table and all that it tells is gone through.
-/
namespace Go.Proofs.YtknjjjenklfeoaaGreatDoor
open Go.RowKit
attribute [local go_sem ↓] loadVar_clus
attribute [local go_sem] run_loadClus
theorem treeIn_zero (t m k : Nat) (R : FileR) (h : num (cl R.L t) (2 * k) = 0) : treeIn t (m + 1) k R = treeIn t m (k + 1) R := by simp [treeIn, h]
theorem treeIn_yes (t m k : Nat) (R : FileR) (h : num (cl R.L t) (2 * k) ≠ 0) (ht : (tell R (num (cl R.L t) (2 * k) % 32768) 3 t).1 = true) :
    treeIn t (m + 1) k R = treeIn t m (k + 1) (tell R (num (cl R.L t) (2 * k) % 32768) 3 t).2 := by simp [treeIn, h, ht]
theorem treeIn_no (t m k : Nat) (R : FileR) (h : num (cl R.L t) (2 * k) ≠ 0) (ht : (tell R (num (cl R.L t) (2 * k) % 32768) 3 t).1 = false) :
    treeIn t (m + 1) k R = (false, (tell R (num (cl R.L t) (2 * k) % 32768) 3 t).2) := by simp [treeIn, h, ht]

/-- What holds of the record while a tree is gone through. -/
structure Going (w0 w' : World) (f : Nat) (Lv Rv : Value) (R R' : FileR) (b : Nat) : Prop where
  at' : FileAt w' f Lv Rv R'
  kept : Kept (fun k => k = f) w0 w'
  hL : R'.L = R.L
  hR : R'.roots = R.roots
  low : Low b R'
theorem Going.below {w0 w' w2 : World} {f : Nat} {Lv Rv : Value} {R R' : FileR} {b : Nat} (h : Going w0 w' f Lv Rv R R' b) (hb : Below w'.heap.size w' w2) : Going w0 w2 f Lv Rv R R' b :=
  ⟨h.at'.below hb, h.kept.trans (Kept.of_below hb), h.hL, h.hR, h.low⟩
theorem Low.mono {a b : Nat} {R : FileR} (h : Low a R) (hab : a ≤ b) : Low b R := fun n => Nat.le_trans (h n) hab
theorem Going.told {w0 w' w2 : World} {f : Nat} {Lv Rv : Value} {R R' : FileR} {b n kind at' : Nat} (h : Going w0 w' f Lv Rv R R' b) (hF : FileAt w2 f Lv Rv (tell R' n kind at').2) (hK : Kept (fun k => k = f) w' w2) :
    Going w0 w2 f Lv Rv R (tell R' n kind at').2 (b + 1) :=
  ⟨hF, h.kept.trans hK, by rw [tell_L, h.hL], by rw [tell_roots, h.hR], tell_low h.low _ _ _⟩
theorem Going.mono {w0 w' : World} {f : Nat} {Lv Rv : Value} {R R' : FileR} {a b : Nat} (h : Going w0 w' f Lv Rv R R' a) (hab : a ≤ b) : Going w0 w' f Lv Rv R R' b :=
  ⟨h.at', h.kept, h.hL, h.hR, h.low.mono hab⟩

set_option maxHeartbeats 2000000 in
set_option maxRecDepth 100000 in
theorem tree_any (w : World) (f : Nat) (Lv Rv : Value) (R : FileR) (r : RootR) (h : FileAt w f Lv Rv R) (hLL : R.L.length ≤ 256) (hN : r.N < 65536) (hA : r.At < 65536) (b : Nat) (hbb : b ≤ 100000) (hlow : Low b R) :
    Calls Tryz.prog 76 #[.pointer (some ⟨f, 0, none⟩), .agg (rootCells r).toArray] w fun e w' =>
      e = .returned (.bool (tree R r).1) ∧ Going w w' f Lv Rv R (tree R r).2 (b + 2000) := by
  have hW := (Kept.refl (fun k => k = f) w).alloc (.cells (rootCells r).toArray 132)
  have hB : Below w.heap.size w (w.alloc (.cells (rootCells r).toArray 132)) := (Below.refl _ _).alloc (Nat.le_refl _) _
  have h0 := h.below hB
  have hfb : f ≠ w.heap.size := Nat.ne_of_lt h.lt
  have b0 : (w.alloc (.cells (rootCells r).toArray 132)).cell? ⟨w.heap.size, 0, none⟩ = some (.int .i64 (r.N : Nat)) := by rw [cell_new]; rfl
  have b1 : (w.alloc (.cells (rootCells r).toArray 132)).cell? ⟨w.heap.size, 1, none⟩ = some (.int .i64 (r.At : Nat)) := by rw [cell_new]; rfl
  have hsz : w.heap.size < (w.alloc (.cells (rootCells r).toArray 132)).heap.size := by simp
  have HW := hide hW
  clear hW hB
  have Ht := hide (tell_any _ f Lv Rv R h0 hLL (r.N : Int) 1 (r.At : Int) (by omega) (by omega) (by omega) (by omega) (hlow.mono (by omega)))
  have Htr : Hid (tree R r = if (tell R r.N 1 r.At).1 then treeOut r.N 32 0 (tell R r.N 1 r.At).2 else (false, (tell R r.N 1 r.At).2)) := rfl
  simp only [Int.toNat_natCast, show (1 : Int).toNat = 1 from rfl] at Ht
  have g0 : Going (w.alloc (.cells (rootCells r).toArray 132)) (w.alloc (.cells (rootCells r).toArray 132)) f Lv Rv R R b := ⟨h0, Kept.refl _ _, rfl, rfl, hlow⟩
  go_enter Tryz.func76, Tryz.ntmps76
  go_wp2_with fail
  refine (unhide Ht).mono ?_
  rintro e w1 ⟨rfl, hF1, hK1⟩
  have g1 := g0.told hF1 hK1
  have hok := fun hh => tell_ok (R := R) (n := r.N) (kind := 1) (at' := r.At) hh
  generalize w.alloc (.cells (rootCells r).toArray 132) = W at *
  clear Ht hF1 hK1 g0 h0
  generalize (tell R r.N 1 r.At).1 = ok1 at *
  generalize (tell R r.N 1 r.At).2 = R1 at *
  clear b1
  have Hg1 := hide g1
  clear g1
  go_wp2
  go_loopw [5, 6] (fun ok i w' => ∃ (k : Nat) (R' : FileR), k ≤ 32 ∧ i = .int .i64 k ∧ Going W w' f Lv Rv R R' (b + 1 + 40 * k) ∧
      ((ok = .bool true ∧ r.N < R.L.length ∧ tree R r = treeOut r.N (32 - k) k R') ∨ (ok = .bool false ∧ tree R r = (false, R')))) (fun _ i _ => 32 - (intOf i).toNat)
  case atStart =>
    refine ⟨0, R1, by omega, rfl, unhide Hg1, ?_⟩
    cases ok1 with
    | true => exact Or.inl ⟨rfl, (hok rfl).2, by rw [unhide Htr]; rfl⟩
    | false => exact Or.inr ⟨rfl, by rw [unhide Htr]; rfl⟩
  case round =>
    obtain ⟨k, R', hk, rfl, hg, hcase⟩ := hrel
    clear Hg1 hok Htr
    rcases hcase with ⟨rfl, hNL, htr⟩ | ⟨rfl, htr⟩
    · have Htr := hide htr
      clear htr
      have hNL' : r.N < R'.L.length := by rw [hg.hL]; exact hNL
      have hNi : (r.N : Int) < (R'.L.length : Int) := by omega
      have hbox : wr.cell? ⟨w.heap.size, 0, none⟩ = some (.int .i64 (r.N : Nat)) := by
        rw [hg.kept.cell (p := ⟨w.heap.size, 0, none⟩) hsz (fun e => hfb e.symm)]; exact b0
      by_cases hlt : k < 32
      · obtain ⟨g, cap, rfl, hc⟩ := row_some hg.at'.rowL (by omega)
        have hG : ∀ d os, FileAt (Go.Sort.grow (redrawn wr d) os) f _ _ R' := fun d os => hg.at'.below (below_regrown wr d os)
        have c0 := fun d os => (hG d os).cLv
        have cx := fun d os => cell_regrown hbox d os
        have l1 := fun d os => row_has (hG d os).rowL hg.at'.lens _ hNL'
        have l2 := fun d os => row_cells (hG d os).rowL hg.at'.lens _ hNL'
        have hlen := cl_length hg.at'.lens hNL'
        have Hn := hide (fun d os => number_any (cl R'.L r.N) (2 * (k : Int)) (Go.Sort.grow (redrawn wr d) os) hlen (by omega) (by omega))
        rw [show (2 * (k : Int)).toNat = 2 * k by omega] at Hn
        have hxl := num_lt (cl R'.L r.N) (2 * k)
        have HX : Hid (num (cl R'.L r.N) (2 * k) = num (cl R'.L r.N) (2 * k)) := rfl
        generalize hx : num (cl R'.L r.N) (2 * k) = x at Hn hxl
        have Hx := hide hx
        clear hG hx HX
        go_wp2
        refine wp_region_quiet_below (by kernel_rfl) (by kernel_rfl) ?_
        repeat (go_big_quiet_step (exact Calls.regrown_of (unhide Hn _ _)))
        refine wpQuiet_nil ?_
        intro _ hw'
        obtain ⟨⟨dq, osq⟩, hw''⟩ := hw'
        subst hw''
        clear c0 cx l1 l2 Hn
        have g2 := hg.below (below_regrown wr dq osq)
        have hbox2 := cell_regrown hbox dq osq
        clear hbox hg
        generalize Go.Sort.grow (redrawn wr dq) osq = w2 at *
        have Hg2 := hide g2
        by_cases hx0 : x = 0
        · subst hx0
          clear g2
          go_wp2
          go_roundw
          case rel =>
            refine ⟨k + 1, R', by omega, by go_num, (unhide Hg2).mono (by omega), Or.inl ⟨rfl, hNL, ?_⟩⟩
            rw [unhide Htr, show 32 - k = (32 - (k + 1)) + 1 by omega, treeOut, if_pos (unhide Hx)]
          case measure => simp [intOf]; omega
        · have dx : ((x : Int) == 0) = false := by rw [beq_eq_false_iff_ne]; omega
          by_cases hk1 : 1 < k
          · have dk : decide ((1 : Int) < (k : Int)) = true := by simp; omega
            have cB := g2.at'.cBad
            have hfz := g2.at'.fz
            have hb := g2.at'.setBad (r.N : Int)
            have hK := Kept.only w2 f 514 (.int .i64 (r.N : Int))
            have Hb := hide hb
            have HK := hide hK
            clear hb hK g2
            go_wp2
            go_ret
            have e : tree R r = (false, { R' with bad := (r.N : Int) }) := by
              rw [unhide Htr, show 32 - k = (32 - (k + 1)) + 1 by omega, treeOut, if_neg (by rw [unhide Hx]; exact hx0), if_pos hk1]
            rw [e]
            exact ⟨rfl, unhide Hb, ((unhide HW).trans (unhide Hg2).kept).trans (unhide HK), (unhide Hg2).hL, (unhide Hg2).hR, (unhide Hg2).low.mono (by omega)⟩
          · have dk : decide ((1 : Int) < (k : Int)) = false := by simp; omega
            have Ht := hide (tell_any w2 f _ Rv R' g2.at' (by rw [g2.hL]; exact hLL) ((x : Int) % 32768) 2 (r.N : Int) (by omega) (by omega) (by omega) (by omega) (g2.low.mono (by omega)))
            simp only [Int.toNat_natCast, show (2 : Int).toNat = 2 from rfl, show ((x : Int) % 32768).toNat = x % 32768 by omega] at Ht
            clear g2
            have hT : tree R r = (if (if (tell R' (x % 32768) 2 r.N).1 then treeIn (x % 32768) 32 0 (tell R' (x % 32768) 2 r.N).2 else (false, (tell R' (x % 32768) 2 r.N).2)).1
                then treeOut r.N (32 - (k + 1)) (k + 1) (if (tell R' (x % 32768) 2 r.N).1 then treeIn (x % 32768) 32 0 (tell R' (x % 32768) 2 r.N).2 else (false, (tell R' (x % 32768) 2 r.N).2)).2
                else (false, (if (tell R' (x % 32768) 2 r.N).1 then treeIn (x % 32768) 32 0 (tell R' (x % 32768) 2 r.N).2 else (false, (tell R' (x % 32768) 2 r.N).2)).2)) := by
              rw [unhide Htr, show 32 - k = (32 - (k + 1)) + 1 by omega, treeOut, if_neg (by rw [unhide Hx]; exact hx0), if_neg hk1, unhide Hx]
              cases (tell R' (x % 32768) 2 r.N).1 <;> simp
            have hok2 := fun hh => tell_ok (R := R') (n := x % 32768) (kind := 2) (at' := r.N) hh
            go_wp2_with fail
            refine (unhide Ht).mono ?_
            rintro e w3 ⟨rfl, hF3, hK3⟩
            have g3 := (unhide Hg2).told hF3 hK3
            have hgL := (unhide Hg2).hL
            have hgb : w3.cell? ⟨w.heap.size, 0, none⟩ = some (.int .i64 (r.N : Nat)) := by
              rw [hK3.cell (p := ⟨w.heap.size, 0, none⟩) (World.block_lt_of_cell? _ _ hbox2) (fun e => hfb e.symm)]; exact hbox2
            clear Ht hF3 hK3 Hg2 hbox2 Htr Hx
            generalize hT2 : (if (tell R' (x % 32768) 2 r.N).1 then treeIn (x % 32768) 32 0 (tell R' (x % 32768) 2 r.N).2 else (false, (tell R' (x % 32768) 2 r.N).2)) = T at hT
            generalize (tell R' (x % 32768) 2 r.N).1 = ok2 at *
            generalize (tell R' (x % 32768) 2 r.N).2 = R2 at *
            have HT := hide hT
            have HT2 := hide hT2
            have Hg3 := hide g3
            clear hT hT2 g3
            rw [hgL] at hok2
            clear hgL hgb
            go_wp2
            go_loopw [5, 8] (fun ok j w' => ∃ (m : Nat) (R3 : FileR), m ≤ 32 ∧ j = .int .i64 m ∧ Going W w' f (.slice (some ⟨g, 0, none⟩) R'.L.length cap) Rv R R3 (b + 1 + 40 * k + 1 + m) ∧
                ((ok = .bool true ∧ x % 32768 < R.L.length ∧ T = treeIn (x % 32768) (32 - m) m R3) ∨ (ok = .bool false ∧ T = (false, R3)))) (fun _ j _ => 32 - (intOf j).toNat)
            case atStart =>
              refine ⟨0, R2, by omega, rfl, unhide Hg3, ?_⟩
              cases ok2 with
              | true => exact Or.inl ⟨rfl, (hok2 rfl).2, by rw [← unhide HT2]; rfl⟩
              | false => exact Or.inr ⟨rfl, by rw [← unhide HT2]; rfl⟩
            case round =>
              obtain ⟨m, R3, hm, rfl, hg, hcase⟩ := hrel
              clear Hg3 hok2 HT2
              rcases hcase with ⟨rfl, hxL, hTe⟩ | ⟨rfl, hTe⟩
              · have HTe := hide hTe
                clear hTe
                by_cases hlt2 : m < 32
                · have hxL' : x % 32768 < R3.L.length := by rw [hg.hL]; exact hxL
                  have hxi : (x : Int) % 32768 < (R'.L.length : Int) := by
                    have := hg.at'.rowL
                    rcases this.2 with ⟨e, _⟩ | ⟨g', cap', cur, e, _⟩
                    · cases e
                    · have : R'.L.length = R3.L.length := by injection e
                      omega
                  have eL : R'.L.length = R3.L.length := by
                    rcases hg.at'.rowL.2 with ⟨e, _⟩ | ⟨g', cap', cur, e, _⟩
                    · cases e
                    · injection e
                  have hrow := hg.at'.rowL
                  have c0 := hg.at'.cLv
                  rw [eL] at hrow
                  have l1 := row_has hrow hg.at'.lens _ hxL'
                  have l2 := row_cells hrow hg.at'.lens _ hxL'
                  have Hn := hide (number_any (cl R3.L (x % 32768)) (2 * (m : Int)) wr (cl_length hg.at'.lens hxL') (by omega) (by omega))
                  rw [show (2 * (m : Int)).toNat = 2 * m by omega] at Hn
                  have hyl := num_lt (cl R3.L (x % 32768)) (2 * m)
                  generalize hy : num (cl R3.L (x % 32768)) (2 * m) = y at Hn hyl
                  have Hy := hide hy
                  have Hg := hide hg
                  clear hy hg eL hrow
                  go_wp2_with fail
                  refine (unhide Hn).mono ?_
                  rintro e w4 ⟨rfl, hb4⟩
                  have g4 := (unhide Hg).below hb4
                  clear Hn Hg hb4 l1 l2 c0
                  by_cases hy0 : y = 0
                  · subst hy0
                    have Hg4 := hide g4
                    clear g4
                    go_wp2
                    go_roundw
                    case rel =>
                      refine ⟨m + 1, R3, by omega, by go_num, (unhide Hg4).mono (by omega), Or.inl ⟨rfl, hxL, ?_⟩⟩
                      rw [unhide HTe, show 32 - m = (32 - (m + 1)) + 1 by omega, treeIn_zero _ _ _ _ (unhide Hy)]
                    case measure => simp [intOf]; omega
                  · have dy : ((y : Int) != 0) = true := by rw [bne_iff_ne]; omega
                    have Ht := hide (tell_any w4 f _ Rv R3 g4.at' (by rw [g4.hL]; exact hLL) ((y : Int) % 32768) 3 ((x : Int) % 32768) (by omega) (by omega) (by omega) (by omega) (g4.low.mono (by omega)))
                    simp only [show (3 : Int).toNat = 3 from rfl, show ((y : Int) % 32768).toNat = y % 32768 by omega, show ((x : Int) % 32768).toNat = x % 32768 by omega] at Ht
                    have Hg4 := hide g4
                    clear g4
                    go_wp2_with fail
                    refine (unhide Ht).mono ?_
                    rintro e w5 ⟨rfl, hF5, hK5⟩
                    have g5 := hide ((unhide Hg4).told hF5 hK5)
                    clear Ht hF5 hK5 Hg4
                    have hcase : (((tell R3 (y % 32768) 3 (x % 32768)).1 = true ∧ T = treeIn (x % 32768) (32 - (m + 1)) (m + 1) (tell R3 (y % 32768) 3 (x % 32768)).2) ∨ ((tell R3 (y % 32768) 3 (x % 32768)).1 = false ∧ T = (false, (tell R3 (y % 32768) 3 (x % 32768)).2))) := by
                      have e := unhide HTe
                      rw [show 32 - m = (32 - (m + 1)) + 1 by omega] at e
                      cases ht : (tell R3 (y % 32768) 3 (x % 32768)).1 with
                      | true => exact Or.inl ⟨rfl, by rw [e, treeIn_yes _ _ _ _ (by rw [unhide Hy]; exact hy0) (by rw [unhide Hy]; exact ht), unhide Hy]⟩
                      | false => exact Or.inr ⟨rfl, by rw [e, treeIn_no _ _ _ _ (by rw [unhide Hy]; exact hy0) (by rw [unhide Hy]; exact ht), unhide Hy]⟩
                    have Hcase := hide hcase
                    clear hcase HTe
                    generalize (tell R3 (y % 32768) 3 (x % 32768)).1 = ok5 at *
                    generalize (tell R3 (y % 32768) 3 (x % 32768)).2 = R5 at *
                    go_wp2
                    go_roundw
                    case rel =>
                      refine ⟨m + 1, R5, by omega, by go_num, (unhide g5).mono (by omega), ?_⟩
                      rcases unhide Hcase with ⟨rfl, e⟩ | ⟨rfl, e⟩
                      · exact Or.inl ⟨rfl, hxL, e⟩
                      · exact Or.inr ⟨rfl, e⟩
                    case measure => simp [intOf]; omega
                · have hm32 : m = 32 := by omega
                  subst hm32
                  have Hg := hide hg
                  clear hg
                  go_wp2
                  go_roundw
                  case rel =>
                    refine ⟨k + 1, R3, by omega, by go_num, (unhide Hg).mono (by omega), Or.inl ⟨rfl, hNL, ?_⟩⟩
                    rw [unhide HT, unhide HTe]; rfl
                  case measure => simp [intOf]; omega
              · have HTe := hide hTe
                clear hTe
                have Hg := hide hg
                clear hg
                by_cases hlt2 : m < 32
                all_goals
                  go_wp2
                  go_roundw
                  case rel =>
                    refine ⟨k + 1, R3, by omega, by go_num, (unhide Hg).mono (by omega), Or.inr ⟨rfl, ?_⟩⟩
                    rw [unhide HT, unhide HTe]; rfl
                  case measure => simp [intOf]; omega
      · have hk32 : k = 32 := by omega
        subst hk32
        have Hg := hide hg
        clear hg
        go_wp2
        go_ret
        have e : tree R r = (true, R') := by rw [unhide Htr]; rfl
        rw [e]
        exact ⟨rfl, (unhide Hg).at', (unhide HW).trans (unhide Hg).kept, (unhide Hg).hL, (unhide Hg).hR, (unhide Hg).low.mono (by omega)⟩
    · have Htr := hide htr
      clear htr
      have Hg := hide hg
      clear hg
      go_wp2
      all_goals
        go_ret
        rw [unhide Htr]
        exact ⟨rfl, (unhide Hg).at', (unhide HW).trans (unhide Hg).kept, (unhide Hg).hL, (unhide Hg).hR, (unhide Hg).low.mono (by omega)⟩
end Go.Proofs.YtknjjjenklfeoaaGreatDoor

/-
  The reference's counts and Free.
-/
namespace Go.Proofs.YtknjjjenklfeoaaGreatDoor
open Go.RowKit

theorem countOf_lt (L : List Clus) (n : Nat) : countOf L n < 256 := byteAt_lt _ _

set_option maxHeartbeats 1000000 in
set_option maxRecDepth 100000 in
theorem counts_any (w : World) (f : Nat) (Lv Rv : Value) (R : FileR) (h : FileAt w f Lv Rv R) (hL5 : 5 ≤ R.L.length) (hlow : Low 1000000 R) :
    Calls Tryz.prog 77 #[.pointer (some ⟨f, 0, none⟩)] w fun e w' => e = .returned (.int .i64 (countsFrom R 256 0)) ∧ w' = w := by
  have c0 := h.cLv
  obtain ⟨a, cap, rfl⟩ := row_form h.rowL
  go_enter Tryz.func77, Tryz.ntmps77
  go_wp2
  go_loopw [3] (fun i w' => ∃ k : Nat, k ≤ 256 ∧ i = .int .i64 k ∧ w' = w ∧ countsFrom R 256 0 = countsFrom R (256 - k) k) (fun i _ => 256 - (intOf i).toNat)
  case atStart => exact ⟨0, by omega, rfl, rfl, rfl⟩
  case round =>
    obtain ⟨k, hk, rfl, rfl, he⟩ := hrel
    have He := hide he
    clear he
    by_cases hlt : k < 256
    · have cu := h.cUsed k hlt
      have hu := hlow k
      have Hcnt := hide (count_any wr f _ Rv R h (k : Int) (by omega) (by omega) hL5)
      rw [Int.toNat_natCast] at Hcnt
      have hq := countOf_lt R.L k
      have hb : badCount R k = ((decide (k < R.L.length) && decide (countOf R.L k < R.used.getD k 0)) || (countOf R.L k == 255 || (decide (R.L.length ≤ k) && countOf R.L k != 0))) := rfl
      have hnext : badCount R k = false → countsFrom R 256 0 = countsFrom R (256 - (k + 1)) (k + 1) := fun hf => by
        rw [unhide He, show 256 - k = (256 - (k + 1)) + 1 by omega, countsFrom, hf]; rfl
      have hstop : badCount R k = true → countsFrom R 256 0 = (k : Int) := fun hf => by
        rw [unhide He, show 256 - k = (256 - (k + 1)) + 1 by omega, countsFrom, hf]; rfl
      generalize badCount R k = bc at *
      have Hb := hide hb
      have Hnext := hide hnext
      have Hstop := hide hstop
      clear hb hnext hstop
      generalize countOf R.L k = q at *
      generalize R.used.getD k 0 = u at *
      go_wp2_with fail
      refine (unhide Hcnt).mono ?_
      rintro e w1 ⟨rfl, rfl⟩
      clear Hcnt
      by_cases hl : k < R.L.length
      · have dl : decide ((k : Int) < (R.L.length : Int)) = true := by simp; omega
        have dl2 : decide ((R.L.length : Int) ≤ (k : Int)) = false := by simp; omega
        by_cases hqu : q < u
        · have dq : decide ((q : Int) < (u : Int)) = true := by simp; omega
          have e := unhide Hstop (by rw [unhide Hb]; simp [hl, hqu])
          have E := hide e
          clear e Hb Hnext Hstop
          go_wp2
          go_ret
          exact ⟨by rw [unhide E]; rfl, rfl⟩
        · have dq : decide ((q : Int) < (u : Int)) = false := by simp; omega
          by_cases h255 : q = 255
          · subst h255
            have e := unhide Hstop (by rw [unhide Hb]; simp)
            have E := hide e
            clear e Hb Hnext Hstop
            go_wp2
            go_ret
            exact ⟨by rw [unhide E]; rfl, rfl⟩
          · have d2 : ((q : Int) == 255) = false := by rw [beq_eq_false_iff_ne]; omega
            have e := unhide Hnext (by rw [unhide Hb]; simp [hqu, h255]; omega)
            have E := hide e
            clear e Hb Hnext Hstop
            go_wp2
            go_roundw
            case rel => exact ⟨k + 1, by omega, by go_num, by trivial, unhide E⟩
            case measure => simp [intOf]; omega
      · have dl : decide ((k : Int) < (R.L.length : Int)) = false := by simp; omega
        have dl2 : decide ((R.L.length : Int) ≤ (k : Int)) = true := by simp; omega
        by_cases h255 : q = 255
        · subst h255
          have e := unhide Hstop (by rw [unhide Hb]; simp)
          have E := hide e
          clear e Hb Hnext Hstop
          go_wp2
          go_ret
          exact ⟨by rw [unhide E]; rfl, rfl⟩
        · have d2 : ((q : Int) == 255) = false := by rw [beq_eq_false_iff_ne]; omega
          by_cases hq0 : q = 0
          · subst hq0
            have e := unhide Hnext (by rw [unhide Hb]; simp [hl])
            have E := hide e
            clear e Hb Hnext Hstop
            go_wp2
            go_roundw
            case rel => exact ⟨k + 1, by omega, by go_num, by trivial, unhide E⟩
            case measure => simp [intOf]; omega
          · have d3 : ((q : Int) != 0) = true := by rw [bne_iff_ne]; omega
            have e := unhide Hstop (by rw [unhide Hb]; simp [hq0]; omega)
            have E := hide e
            clear e Hb Hnext Hstop
            go_wp2
            go_ret
            exact ⟨by rw [unhide E]; rfl, rfl⟩
    · have hk2 : k = 256 := by omega
      subst hk2
      go_wp2
      go_ret
      exact ⟨by rw [unhide He]; rfl, rfl⟩

end Go.Proofs.YtknjjjenklfeoaaGreatDoor
