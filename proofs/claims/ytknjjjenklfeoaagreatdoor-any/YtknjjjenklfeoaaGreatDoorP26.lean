import Derived.Test.YtknjjjenklfeoaaGreatDoorP25
import Derived.Test.YtknjjjenklfeoaaGreatDoorP09
import Derived.Test.YtknjjjenklfeoaaGreatDoorP05
/-
  vellumlaw's begun: a pair behind New or Open.
-/
namespace Go.Proofs.YtknjjjenklfeoaaGreatDoor
open Go.RowKit
attribute [local go_sem ↓] buildSlice_mark
attribute [local go_sem] run_bsMark
/-- The blocks that a pair has from its disks. -/
def twoFoot (d v y : Nat) (Cv Lv Pv bv : Value) (k : Nat) : Prop := dfoot d v Cv Lv k ∨ k = y ∨ Pv.ownBlock = some k ∨ bv.ownBlock = some k
def MarkT1 (p : Nat) (w' : World) : Prop := w'.cell? ⟨p, 4, none⟩ = some (.slice none 0 0)

end Go.Proofs.YtknjjjenklfeoaaGreatDoor

/-
  Log, where it is empty.
-/
namespace Go.Proofs.YtknjjjenklfeoaaGreatDoor
open Go.RowKit
set_option maxHeartbeats 1000000 in
set_option maxRecDepth 100000 in
theorem cloneW_nil (w : World) : Calls Tryz.prog 159 #[.slice none 0 0] w fun e w' => e = .returned (.slice none 0 0) ∧ w' = w := by
  have hq := run_eql_slice_nil (P := Tryz.prog) w 58 104 none 0 0 Tryz.underlying58
  go_enter Tryz.func159, Tryz.ntmps159
  go_wp2
  go_ret
  exact ⟨rfl, rfl⟩
set_option maxHeartbeats 1000000 in
set_option maxRecDepth 100000 in
theorem cloneW_zero (w : World) (g cap : Nat) : Calls Tryz.prog 159 #[.slice (some ⟨g, 0, none⟩) 0 cap] w fun e w' => ∃ v, e = .returned v ∧ w'.ownsRow w.heap.size 104 65 v 0 [] ∧ Below w.heap.size w w' := by
  have hq := run_eql_slice_nil (P := Tryz.prog) w 58 104 (some ⟨g, 0, none⟩) 0 cap Tryz.underlying58
  go_enter Tryz.func159, Tryz.ntmps159
  go_wp2
  go_ret
  exact ⟨_, rfl, row_empty w _ _ _ (Nat.le_refl _), (Below.refl _ _).alloc (Nat.le_refl _) _⟩
theorem cloneW_all (w : World) (Lv : Value) (L : List WrR) (hL : ∀ x ∈ L, x.data.length = 64) (hr : w.ownsRow 0 104 65 Lv L.length (flatW L)) (h1 : L.length ≤ 1000000000) :
    Calls Tryz.prog 159 #[Lv] w fun e w' => ∃ v, e = .returned v ∧ w'.ownsRow w.heap.size 104 65 v L.length (flatW L) ∧ Below w.heap.size w w' := by
  by_cases h0 : 0 < L.length
  · obtain ⟨g, cap, rfl, _⟩ := row_some hr h0
    exact cloneW_any w g cap L hL hr h0 h1
  · have hl : L = [] := List.eq_nil_of_length_eq_zero (by omega)
    subst hl
    rcases hr.2 with ⟨rfl, _⟩ | ⟨g, cap, cur, rfl, _⟩
    · refine (cloneW_nil w).mono ?_
      rintro e w' ⟨rfl, rfl⟩
      exact ⟨_, rfl, World.ownsRow_nil _ _ _ _, Below.refl _ _⟩
    · exact cloneW_zero w g cap
theorem storeLog_all (w : World) (v : Nat) (Cv Lv : Value) (V : VolR) (h : VolAt w v Cv Lv V) (h1 : V.L.length ≤ 1000000000) :
    Calls Tryz.prog 102 #[.pointer (some ⟨v, 0, none⟩)] w fun e w' => ∃ x, e = .returned x ∧ w'.ownsRow w.heap.size 104 65 x V.L.length (flatW V.L) ∧ Below w.heap.size w w' := by
  have c1 := h.c1
  obtain ⟨a, cap, hLv⟩ := row_form h.rowL
  have Hc := hide (cloneW_all w Lv V.L h.lenL h.rowL h1)
  subst hLv
  go_enter Tryz.func102, Tryz.ntmps102
  go_wp2_with fail
  refine (unhide Hc).mono ?_
  rintro e w1 ⟨x, rfl, hr, hb⟩
  go_wp2
  go_ret
  exact ⟨x, rfl, hr, hb⟩
theorem volLog_all (w : World) (v : Nat) (Cv Lv : Value) (V : VolR) (h : VolAt w v Cv Lv V) (h1 : V.L.length ≤ 1000000000) :
    Calls Tryz.prog 53 #[.pointer (some ⟨v, 0, none⟩)] w fun e w' => ∃ x, e = .returned x ∧ w'.ownsRow w.heap.size 104 65 x V.L.length (flatW V.L) ∧ Below w.heap.size w w' := by
  have Hc := hide (storeLog_all w v Cv Lv V h h1)
  go_enter Tryz.func53, Tryz.ntmps53
  go_wp2_with fail
  refine (unhide Hc).mono ?_
  rintro e w1 ⟨x, rfl, hr, hb⟩
  go_wp2
  go_ret
  exact ⟨x, rfl, hr, hb⟩
theorem diskLog_all (w : World) (d v : Nat) (Cv Lv : Value) (V : VolR) (h : DskAt w d v Cv Lv V) (h1 : V.L.length ≤ 1000000000) :
    Calls Tryz.prog 24 #[.pointer (some ⟨d, 0, none⟩)] w fun e w' => ∃ x, e = .returned x ∧ w'.ownsRow w.heap.size 104 65 x V.L.length (flatW V.L) ∧ Below w.heap.size w w' := by
  have c0 := h.c0
  have Hm := hide (made_any w d v Cv Lv V h)
  have Hc := hide (volLog_all w v Cv Lv V h.vol h1)
  go_enter Tryz.func24, Tryz.ntmps24
  go_wp2_with fail
  refine (unhide Hm).mono ?_
  rintro e w1 ⟨rfl, rfl⟩
  go_wp2_with fail
  refine (unhide Hc).mono ?_
  rintro e w1 ⟨x, rfl, hr, hb⟩
  go_wp2
  go_ret
  exact ⟨x, rfl, hr, hb⟩
end Go.Proofs.YtknjjjenklfeoaaGreatDoor

/-
  vellumlaw's stands: where the log is empty.
-/
namespace Go.Proofs.YtknjjjenklfeoaaGreatDoor
open Go.RowKit
attribute [local go_sem ↓] loadVar_clus loadVar_wr build_wr equalIn_wr
attribute [local go_sem] run_loadClus run_loadWr run_bWr0 zc_length
attribute [local go_sem ↓] buildSlice_mark
attribute [local go_sem] run_bsMark
set_option linter.unusedSimpArgs false in
set_option maxHeartbeats 4000000 in
set_option maxRecDepth 100000 in
theorem stands_nil (w : World) (p : Nat) (P : PairR) (S : Nat → Prop) (N0 : Nat) (E : List EntR) (h : PairAt w p P S) (hst : Stands P N0 E) (hnil : P.V.L = []) (hB : P.B.length ≤ 1000) (hms : P.ms.length ≤ 1000000000) :
    Calls Tryz.prog 33 #[.pointer (some ⟨p, 0, none⟩)] w fun e w' => e = .returned (.bool true) ∧
      ∃ Mv' m, m.log = P.V.L.length ∧ m.D = P.D ∧ ∃ S', PairAt w' p { P with Mv := Mv', ms := P.ms ++ [m] } S' ∧ Kept S w w' ∧ ∀ k, S' k → S k ∨ w.heap.size ≤ k := by
  have hg := hst.vol
  obtain ⟨k1, k2, k3, k4, k5⟩ := hg.look
  have hdo : diskOf (look P.V.C) = P.D := by rw [hg.disk]; exact hst.disk
  have HL0 : Hid (P.V.L.length = 0) := by rw [hnil]; rfl
  have hL : P.V.L.length ≤ 900000000 := by have := unhide HL0; omega
  clear hnil
  have h7 := hg.file.seven
  have hmost := hg.file.most
  have hrep := hg.log.rep
  have hlow := hg.log.low
  have hlens := hg.file.lens
  have hlL := h.dsk.vol.lenL
  have hDl : P.D.L.length ≤ 4 := by rw [← hst.disk]; exact hg.file.ents.dsk
  have hrl : (look P.V.C).roots.length ≤ 5 := by rw [k3]; have := hg.file.ents.len; simp [rsOf]; omega
  have hr0 : 0 < (look P.V.C).roots.length := by rw [k3]; simp [rsOf]
  have hin : ∀ i, i < (look P.V.C).roots.length → InFile (look P.V.C).L (rootOf (look P.V.C) i).N := by
    intro i hi
    unfold rootOf
    rw [k2, k3]
    rw [k3] at hi
    apply hg.sound.inFile
    rw [List.getD_eq_getElem?_getD, List.getElem?_eq_getElem hi]
    exact List.getElem_mem hi
  have hexB : P.ex = true → exactB (look P.V.C) = true := fun e => hg.exactB (hst.exact e)
  have Hin := hide hin
  have HexB := hide hexB
  have c0 := h.c0
  have H := hide h
  clear h hg hst hin hexB
  go_enter Tryz.func33, Tryz.ntmps33
  go_wp2_with fail
  refine (diskFile_any w _ _ _ _ _ (unhide H).dsk (by omega) (by omega)).mono ?_
  rintro e w1 ⟨fv, rfl, rf1, b1⟩
  have h1 := hide ((unhide H).below b1)
  have c1 := (unhide h1).c0
  have B1 := hide b1
  have R1 := hide rf1
  clear b1 rf1 c0
  go_wp2_with fail
  refine (diskLog_all w1 _ _ _ _ _ (unhide h1).dsk (by omega)).mono ?_
  rintro e w2 ⟨lv, rfl, rl2, b2⟩
  have h2 := hide ((unhide h1).below b2)
  have B2 := hide ((unhide B1).trans (b2.mono (unhide B1).size))
  have R2 : Hid (FRow w2 fv P.V.C) := ⟨row_base (ownsRow_kept (Kept.of_below (S := fun _ => False) b2) (unhide R1) (fun _ _ => id)) (Nat.zero_le _), hlens⟩
  have RL2 : Hid (LRow w2 lv P.V.L) := ⟨row_base rl2 (Nat.zero_le _), hlL⟩
  clear b2 h1 B1 R1 rl2 c1
  go_wp2_with fail
  refine (look_any w2 fv P.V.C (unhide R2) (by omega)).mono ?_
  rintro e w3 ⟨rfl, fl, fr, hLk⟩
  have hF3 := hLk.at'
  have b3 := hLk.below
  clear hLk
  have h3 := hide ((unhide h2).below b3)
  have B3 := hide ((unhide B2).trans (b3.mono (unhide B2).size))
  have R3 : Hid (FRow w3 fv P.V.C) := (unhide R2).kept (S := fun _ => False) (Kept.of_below b3) (fun _ _ => id)
  have RL3 : Hid (LRow w3 lv P.V.L) := ⟨ownsRow_kept (Kept.of_below (S := fun _ => False) b3) (unhide RL2).row (fun _ _ => id), hlL⟩
  have cb := hF3.cBad
  rw [k1] at cb
  have HF3 := hide hF3
  clear hF3 b3 h2 B2 R2 RL2
  generalize w2.heap.size = f at *
  go_wp2_with fail
  refine (disk_any w3 f fl fr (look P.V.C) (unhide HF3) (unhide Hin) (by rw [k2]; exact hmost) hr0 (by omega)).mono ?_
  rintro e w4 ⟨d4, Q4, rfl, hd4, hD4, hQ4, b4⟩
  rw [hdo] at hD4
  have h4 := hide ((unhide h3).below b4)
  have B4 := hide ((unhide B3).trans (b4.mono (unhide B3).size))
  have R4 : Hid (FRow w4 fv P.V.C) := (unhide R3).kept (S := fun _ => False) (Kept.of_below b4) (fun _ _ => id)
  have RL4 : Hid (LRow w4 lv P.V.L) := ⟨ownsRow_kept (Kept.of_below (S := fun _ => False) b4) (unhide RL3).row (fun _ _ => id), hlL⟩
  have HF4 := hide ((unhide HF3).below b4)
  have c4 := (unhide h4).c1
  have HD4 := hide hD4
  clear b4 h3 B3 R3 RL3 HF3 cb hD4
  go_wp2_with fail
  refine (same_any w4 d4 P.y _ _ _ _ (unhide HD4) (unhide h4).ref (by omega) (by omega)).mono ?_
  rintro e w5 ⟨rfl, b5⟩
  rw [sameR_iff.2 rfl]
  have h5 := hide ((unhide h4).below b5)
  have B5 := hide ((unhide B4).trans (b5.mono (unhide B4).size))
  have R5 : Hid (FRow w5 fv P.V.C) := (unhide R4).kept (S := fun _ => False) (Kept.of_below b5) (fun _ _ => id)
  have RL5 : Hid (LRow w5 lv P.V.L) := ⟨ownsRow_kept (Kept.of_below (S := fun _ => False) b5) (unhide RL4).row (fun _ _ => id), hlL⟩
  have HF5 := hide ((unhide HF4).below b5)
  clear b5 h4 B4 R4 RL4 HF4 c4 HD4
  go_wp2_with fail
  refine (exact_any w5 f fl fr (look P.V.C) (unhide HF5) (by rw [k2]; exact hmost) (by rw [k2]; omega) hrl (unhide Hin) (fun n => by have := k5 n; omega)).mono ?_
  rintro e w6 ⟨rfl, b6⟩
  have h6 := hide ((unhide h5).below b6)
  have B6 := hide ((unhide B5).trans (b6.mono (unhide B5).size))
  have R6 : Hid (FRow w6 fv P.V.C) := (unhide R5).kept (S := fun _ => False) (Kept.of_below b6) (fun _ _ => id)
  have RL6 : Hid (LRow w6 lv P.V.L) := ⟨ownsRow_kept (Kept.of_below (S := fun _ => False) b6) (unhide RL5).row (fun _ _ => id), hlL⟩
  have c2 := (unhide h6).c2
  have c3 := (unhide h6).c3
  clear b6 h5 B5 R5 RL5 HF5
  obtain ⟨ba, bcap, hbv⟩ := row_form (unhide h6).rowB.row
  obtain ⟨i0, hi0, hz0, hz1, hz2⟩ := info_parts Tryz.infoMark
  have Hbv := hide hbv
  have hms2 : P.ms.length < 9223372036854775807 := by omega
  generalize hxb : exactB (look P.V.C) = xb at *
  clear hxb
  have hcase : P.ex = false ∨ xb = true := by
    cases e : P.ex with
    | false => exact Or.inl rfl
    | true => exact Or.inr (unhide HexB e)
  clear HexB
  have hdec : ∃ pe xe : Bool, P.ex = pe ∧ xb = xe ∧ (pe = false ∨ xe = true) := ⟨P.ex, xb, rfl, rfl, hcase⟩
  obtain ⟨pe, xe, hpe, rfl, hor⟩ := hdec
  rw [hpe] at c3
  clear hpe hcase
  have hbool : (pe && !xb) = false := by revert hor; cases pe <;> cases xb <;> simp
  cases pe <;> cases xb
  all_goals first | (exfalso; revert hor; simp; done) | skip
  all_goals
    clear hor hbool
    go_wp2_with fail
    refine (replayed_any w6 _ lv P.B P.V.L (by rw [← unhide Hbv]; exact (unhide h6).rowB) (unhide RL6) hB (by omega) (fun x hx => by have := hlow x hx; omega)).mono ?_
    rintro e w7 ⟨rv, rfl, rr7, lens7, b7⟩
    rw [hrep] at rr7
    have h7' := hide ((unhide h6).below b7)
    have B7 := hide ((unhide B6).trans (b7.mono (unhide B6).size))
    have R7 : Hid (FRow w7 fv P.V.C) := (unhide R6).kept (S := fun _ => False) (Kept.of_below b7) (fun _ _ => id)
    have RL7 : Hid (LRow w7 lv P.V.L) := ⟨ownsRow_kept (Kept.of_below (S := fun _ => False) b7) (unhide RL6).row (fun _ _ => id), hlL⟩
    have RR7 : Hid (FRow w7 rv P.V.C) := ⟨row_base rr7 (Nat.zero_le _), hlens⟩
    clear b7 h6 B6 R6 RL6 rr7 lens7 c2 c3 hbv
    go_wp2_with fail
    refine (sameFile_any w7 rv fv P.V.C P.V.C (unhide RR7) (unhide R7) (by omega) (by omega)).mono ?_
    rintro e w8 ⟨rfl, b8⟩
    rw [decide_eq_true rfl]
    have h8 := hide ((unhide h7').below b8)
    have B8 := hide ((unhide B7).trans (b8.mono (unhide B7).size))
    have rl8 : w8.ownsRow 0 104 65 lv P.V.L.length (flatW P.V.L) := ownsRow_kept (Kept.of_below (S := fun _ => False) b8) (unhide RL7).row (fun _ _ => id)
    clear b8 h7' B7 R7 RL7 RR7
    obtain ⟨la, lcap, rfl⟩ := row_form rl8
    have d0 : ((P.V.L.length : Int) == 0) = true := by rw [unhide HL0]; rfl
    have c4 := ((unhide h8).below ((Below.refl _ w8).drew)).c4
    have c1 := ((unhide h8).below ((Below.refl _ w8).drew)).c1
    have z4 := (unhide h8).fz 4
    have Hc := hide (fun (W : World) (hb : Below w8.heap.size w8 W) => copied_any W P.y P.Pv P.D ((unhide h8).below hb).ref (by omega))
    clear rl8
    go_wp2
    have hT : MarkT p P.Mv P.y w8.drew := ⟨c4, c1⟩
    refine wp_region_L (MarkT p P.Mv P.y) 17 (by kernel_rfl) ?_
    refine wpAnyL_take (i := 0) (v := ?_) rfl (by kernel_rfl) (by kernel_rfl) (by kernel_rfl) (by kernel_rfl) (fun _ _ _ h => h) (Or.inl ⟨by rfl, fun W hW => ?_⟩) hT ?_
    rotate_left 1
    · (obtain ⟨t0, t1⟩ := hW; go_simp; with_reducible rfl)
    simp only [Act.put, List.setIfInBounds_toArray, List.set_cons_zero, List.set_cons_succ]
    refine wpAnyL_take (i := 1) (v := ?_) rfl (by kernel_rfl) (by kernel_rfl) (by kernel_rfl) (by kernel_rfl) (fun _ _ _ h => h) (Or.inl ⟨by rfl, fun W hW => ?_⟩) hT ?_
    rotate_left 1
    · (obtain ⟨t0, t1⟩ := hW; go_simp; with_reducible rfl)
    simp only [Act.put, List.setIfInBounds_toArray, List.set_cons_zero, List.set_cons_succ]
    refine wpAnyL_take (i := 2) (v := ?_) rfl (by kernel_rfl) (by kernel_rfl) (by kernel_rfl) (by kernel_rfl) (fun _ _ _ h => h) (Or.inl ⟨by rfl, fun W hW => ?_⟩) hT ?_
    rotate_left 1
    · (obtain ⟨t0, t1⟩ := hW; go_simp; with_reducible rfl)
    simp only [Act.put, List.setIfInBounds_toArray, List.set_cons_zero, List.set_cons_succ]
    refine wpAnyL_take (i := 3) (v := ?_) rfl (by kernel_rfl) (by kernel_rfl) (by kernel_rfl) (by kernel_rfl) (fun _ _ _ h => h) (Or.inl ⟨by rfl, fun W hW => ?_⟩) hT ?_
    rotate_left 1
    · (obtain ⟨t0, t1⟩ := hW; go_simp; with_reducible rfl)
    simp only [Act.put, List.setIfInBounds_toArray, List.set_cons_zero, List.set_cons_succ]
    refine wpAnyL_take (i := 4) (v := ?_) rfl (by kernel_rfl) (by kernel_rfl) (by kernel_rfl) (by kernel_rfl) (fun _ _ _ h => h) (Or.inl ⟨by rfl, fun W hW => ?_⟩) hT ?_
    rotate_left 1
    · (obtain ⟨t0, t1⟩ := hW; go_simp; with_reducible rfl)
    simp only [Act.put, List.setIfInBounds_toArray, List.set_cons_zero, List.set_cons_succ]
    refine wpAnyL_take (i := 5) (v := ?_) rfl (by kernel_rfl) (by kernel_rfl) (by kernel_rfl) (by kernel_rfl) (fun _ _ _ h => h) (Or.inl ⟨by rfl, fun W hW => ?_⟩) hT ?_
    rotate_left 1
    · (obtain ⟨t0, t1⟩ := hW; go_simp; with_reducible rfl)
    simp only [Act.put, List.setIfInBounds_toArray, List.set_cons_zero, List.set_cons_succ]
    refine wpAnyL_take (i := 6) (v := ?_) rfl (by kernel_rfl) (by kernel_rfl) (by kernel_rfl) (by kernel_rfl) (fun _ _ _ h => h) (Or.inl ⟨by rfl, fun W hW => ?_⟩) hT ?_
    rotate_left 1
    · (obtain ⟨t0, t1⟩ := hW; go_simp; with_reducible rfl)
    simp only [Act.put, List.setIfInBounds_toArray, List.set_cons_zero, List.set_cons_succ]
    refine wpAnyL_take (i := 7) (v := ?_) rfl (by kernel_rfl) (by kernel_rfl) (by kernel_rfl) (by kernel_rfl) (fun _ _ _ h => h) (Or.inl ⟨by rfl, fun W hW => ?_⟩) hT ?_
    rotate_left 1
    · (obtain ⟨t0, t1⟩ := hW; go_simp; with_reducible rfl)
    simp only [Act.put, List.setIfInBounds_toArray, List.set_cons_zero, List.set_cons_succ]
    refine wpAnyL_take (i := 8) (v := ?_) rfl (by kernel_rfl) (by kernel_rfl) (by kernel_rfl) (by kernel_rfl) (fun _ _ _ h => h) (Or.inl ⟨by rfl, fun W hW => ?_⟩) hT ?_
    rotate_left 1
    · (obtain ⟨t0, t1⟩ := hW; go_simp; with_reducible rfl)
    simp only [Act.put, List.setIfInBounds_toArray, List.set_cons_zero, List.set_cons_succ]
    refine wpAnyL_take (i := 9) (v := ?_) rfl (by kernel_rfl) (by kernel_rfl) (by kernel_rfl) (by kernel_rfl) (fun _ _ _ h => h) (Or.inl ⟨by rfl, fun W hW => ?_⟩) hT ?_
    rotate_left 1
    · (obtain ⟨t0, t1⟩ := hW; go_simp; with_reducible rfl)
    simp only [Act.put, List.setIfInBounds_toArray, List.set_cons_zero, List.set_cons_succ]
    refine wpAnyL_take (i := 10) (v := ?_) rfl (by kernel_rfl) (by kernel_rfl) (by kernel_rfl) (by kernel_rfl) (fun _ _ _ h => h) (Or.inl ⟨by rfl, fun W hW => ?_⟩) hT ?_
    rotate_left 1
    · (obtain ⟨t0, t1⟩ := hW; go_simp; with_reducible rfl)
    simp only [Act.put, List.setIfInBounds_toArray, List.set_cons_zero, List.set_cons_succ]
    refine wpAnyL_one (i := 11) (by kernel_rfl) rfl fun K11 hK11 => ?_
    go_simp
    go_at_call 58
    refine (unhide Hc _ ((Below.refl _ w8).drew)).mono ?_
    rintro e w9 ⟨Q9, rfl, hD9, hQ9, b9⟩
    have B9 : Hid (Below w8.heap.size w8 w9) := ((Below.refl _ w8).drew).trans b9
    have HD9 := hide hD9
    have HQ9 := hide hQ9
    have hT2 : MarkT p P.Mv P.y w9 := ⟨((unhide h8).below (unhide B9)).c4, ((unhide h8).below (unhide B9)).c1⟩
    have hT3 : ∀ o, MarkT p P.Mv P.y (w9.alloc o) := fun o => ⟨((unhide h8).below ((unhide B9).alloc (unhide B9).size o)).c4, ((unhide h8).below ((unhide B9).alloc (unhide B9).size o)).c1⟩
    clear b9 hD9 hQ9
    refine hK11 _ _ (Or.inr hT2) ?_
    try simp only [Act.put, List.setIfInBounds_toArray, List.set_cons_zero, List.set_cons_succ]
    refine wpAnyL_take (i := 12) (v := ?_) rfl (by kernel_rfl) (by kernel_rfl) (by kernel_rfl) (by kernel_rfl) (fun _ _ _ h => h) (Or.inl ⟨by rfl, fun W hW => ?_⟩) hT2 ?_
    rotate_left 1
    · (obtain ⟨t0, t1⟩ := hW; go_simp; with_reducible rfl)
    simp only [Act.put, List.setIfInBounds_toArray, List.set_cons_zero, List.set_cons_succ]
    refine wpAnyL_one (i := 13) (by kernel_rfl) rfl fun K13 hK13 => ?_
    go_simp
    refine hK13 _ _ (Or.inr (hT3 _)) ?_
    try simp only [Act.put, List.setIfInBounds_toArray, List.set_cons_zero, List.set_cons_succ]
    refine wpAnyL_one (i := 14) (by kernel_rfl) rfl fun K14 hK14 => ?_
    refine step_append_lies _ (by rfl) _ _ _ (by rfl) 0 109 i0 _ 2 16 Tryz.underlying105 hi0 hz0 hz1 hz2 (by rfl) (by omega) P.Mv P.ms.length (P.ms.flatMap markCells) (by rfl) (((unhide h8).below (unhide B9)).rowM.alloc _) ⟨w9.heap.size, 0, none⟩ 1 1 [.int .i64 (P.V.L.length : Nat), .pointer (some ⟨w8.heap.size, 0, none⟩)] (by rfl) (by rfl) (World.news_of_block (cs := #[.int .i64 (P.V.L.length : Nat), .pointer (some ⟨w8.heap.size, 0, none⟩)]) (t := 109) (fr := (0, 0)) (heap_alloc_new w9 _)) (by intro u hu; simp at hu; rcases hu with rfl | rfl <;> rfl) (by omega) (by unfold maxLen; omega) (by omega) (by omega) (w9.heap.size + 1) (by simp) ?_
    intro g5 cap5 w5 hown5 hgrow hat hlt5
    have b5 := hide (grown_blk hgrow ((unhide h8).below ((unhide B9).alloc (unhide B9).size _)).blk (unhide h8).neM)
    have c5 : w5.cell? ⟨p, 4, none⟩ = some P.Mv := (cell_blk (unhide b5) 4).trans rfl
    have c51 : w5.cell? ⟨p, 1, none⟩ = some (.pointer (some ⟨P.y, 0, none⟩)) := (cell_blk (unhide b5) 1).trans rfl
    have z5 : ∀ i, w5.frozen? ⟨p, i, none⟩ = false := fun i => frozen_blk (unhide b5) i
    have hT5 : MarkT p P.Mv P.y w5 := ⟨c5, c51⟩
    have hfin := PairAt.growM (m := ⟨P.V.L.length, w8.heap.size, Q9, P.D⟩) ((unhide h8).below ((unhide B9).alloc (unhide B9).size _)) hgrow hown5 (by
      rcases hat with x | x
      · exact Or.inl x
      · right; rw [x]; simp) hlt5 ((unhide HD9).below ((Below.refl _ w9).alloc (Nat.le_refl _) _)) (fun e => by have := (unhide h8).ref.lt; simp only at e; omega) w (by have h1 := (unhide B8).size; have h2 := (unhide B9).size; simp; omega) ⟨(unhide B8).size, fun g hg => by have h1 := (unhide B8).size; have h2 := unhide HQ9 g hg; have h3 : w8.drew.heap.size = w8.heap.size := rfl; omega⟩
    have Hfin := hide hfin
    clear hgrow hown5 hfin
    refine hK14 _ _ (Or.inr hT5) ?_
    try simp only [Act.put, List.setIfInBounds_toArray, List.set_cons_zero, List.set_cons_succ]
    refine wpAnyL_one (i := 15) (by kernel_rfl) rfl fun K15 hK15 => ?_
    go_simp
    refine hK15 _ _ (Or.inr hT5) ?_
    try simp only [Act.put, List.setIfInBounds_toArray, List.set_cons_zero, List.set_cons_succ]
    refine wpAnyL_one (i := 16) (by kernel_rfl) rfl fun K16 hK16 => ?_
    go_simp
    refine hK16 _ _ (Or.inr hT5) ?_
    try simp only [Act.put, List.setIfInBounds_toArray, List.set_cons_zero, List.set_cons_succ]
    refine wpAnyL_one (i := 17) (by kernel_rfl) rfl fun K17 hK17 => ?_
    go_simp
    refine hK17 _ _ (Or.inl rfl) ?_
    try simp only [Act.put, List.setIfInBounds_toArray, List.set_cons_zero, List.set_cons_succ]
    refine wpAnyL_done (by kernel_rfl) ?_ _
    clear hT hT2 hT3 hT5
    go_wp2
    go_ret
    obtain ⟨f1, f2, f3⟩ := unhide Hfin
    refine ⟨rfl, .slice (some ⟨g5, 0, none⟩) (P.ms.length + 1) cap5, ⟨P.V.L.length, w8.heap.size, Q9, P.D⟩, rfl, rfl, _, f1, (Kept.of_below ((unhide B8).trans (((unhide B9).alloc (unhide B9).size _).mono (unhide B8).size))).trans f2, f3⟩
end Go.Proofs.YtknjjjenklfeoaaGreatDoor

/-
  vellumlaw's begun: a pair behind New or Open, whatever its log.
-/
namespace Go.Proofs.YtknjjjenklfeoaaGreatDoor
open Go.RowKit
attribute [local go_sem ↓] buildSlice_mark
attribute [local go_sem] run_bsMark
set_option linter.unusedSimpArgs false in
set_option maxHeartbeats 4000000 in
set_option maxRecDepth 100000 in
theorem begun_all (w : World) (d v : Nat) (Cv Lv : Value) (V : VolR) (y : Nat) (Pv bv : Value) (D : DiskR) (B : List Clus) (hd : DskAt w d v Cv Lv V) (hy : DiskAt w y Pv D) (hB : FRow w bv B) (hap : ∀ g, bv.ownBlock = some g → ¬ foot v Cv Lv g) (hD : D.L.length ≤ 1000) (hL : V.L.length ≤ 900000000) (ex : Bool) :
    Calls Tryz.prog 32 #[.pointer (some ⟨d, 0, none⟩), .pointer (some ⟨y, 0, none⟩), bv, .bool ex] w fun e w' =>
      ∃ p, e = .returned (.pointer (some ⟨p, 0, none⟩)) ∧ ∃ Mv m, m.log = V.L.length ∧ m.D = D ∧ ∃ S', PairAt w' p ⟨d, v, y, Cv, Lv, Pv, Mv, bv, ex, V, D, B, [m]⟩ S' ∧ Below w.heap.size w w' ∧ ∀ k, S' k → twoFoot d v y Cv Lv Pv bv k ∨ w.heap.size ≤ k := by
  obtain ⟨ba, bc, hbv⟩ := row_form hB.row
  subst hbv
  have hP0 : PairAt (w.alloc (.cells #[.pointer (some ⟨d, 0, none⟩), .pointer (some ⟨y, 0, none⟩), .slice ba B.length bc, .bool ex, .slice none 0 0] 107)) w.heap.size ⟨d, v, y, Cv, Lv, Pv, .slice none 0 0, .slice ba B.length bc, ex, V, D, B, []⟩ (fun k => twoFoot d v y Cv Lv Pv (.slice ba B.length bc) k ∨ k = w.heap.size) := by
    have hb : Below w.heap.size w (w.alloc (.cells #[.pointer (some ⟨d, 0, none⟩), .pointer (some ⟨y, 0, none⟩), .slice ba B.length bc, .bool ex, .slice none 0 0] 107)) := (Below.refl _ _).alloc (Nat.le_refl _) _
    refine ⟨heap_alloc_new _ _, hd.below hb, hy.below hb, hB.kept (S := fun _ => False) (Kept.of_below hb) (fun _ _ => id), World.ownsRow_nil _ _ _ _, fun m hm => (by cases hm), fun m hm => (by cases hm), hap, Or.inr rfl, fun k hk => Or.inl (Or.inl hk), Or.inl (Or.inr (Or.inl rfl)), ?_, fun m hm => (by cases hm), ?_⟩
    · rintro g (e | e | e)
      · exact Or.inl (Or.inr (Or.inr (Or.inl e)))
      · cases e
      · exact Or.inl (Or.inr (Or.inr (Or.inr e)))
    · rintro k ((e | e | e | e) | e)
      · have := hd.foot_lt k e; simp; omega
      · have := hy.lt; simp; omega
      · have := (hy.row.lt k e).2; simp; omega
      · have := (hB.row.lt k e).2; simp; omega
      · simp; omega
  have hB0 : Below w.heap.size w (w.alloc (.cells #[.pointer (some ⟨d, 0, none⟩), .pointer (some ⟨y, 0, none⟩), .slice ba B.length bc, .bool ex, .slice none 0 0] 107)) := (Below.refl _ _).alloc (Nat.le_refl _) _
  have HB0 := hide hB0
  have HP0 := hide hP0
  have hsz0 : w.heap.size < (w.alloc (.cells #[.pointer (some ⟨d, 0, none⟩), .pointer (some ⟨y, 0, none⟩), .slice ba B.length bc, .bool ex, .slice none 0 0] 107)).heap.size := by simp
  have hylt := hy.lt
  obtain ⟨i0, hi0, hz0, hz1, hz2⟩ := info_parts Tryz.infoMark
  clear hP0 hd hy hB0 hB hap
  go_enter Tryz.func32, Tryz.ntmps32
  go_wp2_with fail
  generalize w.alloc (.cells #[.pointer (some ⟨d, 0, none⟩), .pointer (some ⟨y, 0, none⟩), .slice ba B.length bc, .bool ex, .slice none 0 0] 107) = W0 at *
  refine (diskLog_all W0 _ _ _ _ _ (unhide HP0).dsk (Nat.le_trans hL (by omega))).mono ?_
  rintro e w8 ⟨lv, rfl, rl1, b1⟩
  obtain ⟨la, lcap, rfl⟩ := row_form rl1
  have h8 := hide ((unhide HP0).below b1)
  have B8 := hide ((unhide HB0).trans (b1.mono (unhide HB0).size))
  have hsz : w.heap.size < w8.heap.size := Nat.lt_of_lt_of_le hsz0 b1.size
  have c4 : w8.drew.cell? ⟨w.heap.size, 4, none⟩ = some (.slice none 0 0) := ((unhide h8).below ((Below.refl _ w8).drew)).c4
  have z4 := (unhide h8).fz 4
  have Hc := hide (fun (W : World) (hb : Below w8.heap.size w8 W) => copied_any W y Pv D ((unhide h8).below hb).ref (by omega))
  clear b1 rl1 HP0 HB0 hsz0
  go_wp2
  have hT : MarkT1 w.heap.size w8.drew := c4
  refine wp_region_L (MarkT1 w.heap.size) 14 (by kernel_rfl) ?_
  refine wpAnyL_take (i := 0) (v := ?_) rfl (by kernel_rfl) (by kernel_rfl) (by kernel_rfl) (by kernel_rfl) (fun _ _ _ h => h) (Or.inl ⟨by rfl, fun W hW => ?_⟩) hT ?_
  rotate_left 1
  · (unfold MarkT1 at hW; go_simp; with_reducible rfl)
  simp only [Act.put, List.setIfInBounds_toArray, List.set_cons_zero, List.set_cons_succ]
  refine wpAnyL_take (i := 1) (v := ?_) rfl (by kernel_rfl) (by kernel_rfl) (by kernel_rfl) (by kernel_rfl) (fun _ _ _ h => h) (Or.inl ⟨by rfl, fun W hW => ?_⟩) hT ?_
  rotate_left 1
  · (unfold MarkT1 at hW; go_simp; with_reducible rfl)
  simp only [Act.put, List.setIfInBounds_toArray, List.set_cons_zero, List.set_cons_succ]
  refine wpAnyL_take (i := 2) (v := ?_) rfl (by kernel_rfl) (by kernel_rfl) (by kernel_rfl) (by kernel_rfl) (fun _ _ _ h => h) (Or.inl ⟨by rfl, fun W hW => ?_⟩) hT ?_
  rotate_left 1
  · (unfold MarkT1 at hW; go_simp; with_reducible rfl)
  simp only [Act.put, List.setIfInBounds_toArray, List.set_cons_zero, List.set_cons_succ]
  refine wpAnyL_take (i := 3) (v := ?_) rfl (by kernel_rfl) (by kernel_rfl) (by kernel_rfl) (by kernel_rfl) (fun _ _ _ h => h) (Or.inl ⟨by rfl, fun W hW => ?_⟩) hT ?_
  rotate_left 1
  · (unfold MarkT1 at hW; go_simp; with_reducible rfl)
  simp only [Act.put, List.setIfInBounds_toArray, List.set_cons_zero, List.set_cons_succ]
  refine wpAnyL_take (i := 4) (v := ?_) rfl (by kernel_rfl) (by kernel_rfl) (by kernel_rfl) (by kernel_rfl) (fun _ _ _ h => h) (Or.inl ⟨by rfl, fun W hW => ?_⟩) hT ?_
  rotate_left 1
  · (unfold MarkT1 at hW; go_simp; with_reducible rfl)
  simp only [Act.put, List.setIfInBounds_toArray, List.set_cons_zero, List.set_cons_succ]
  refine wpAnyL_take (i := 5) (v := ?_) rfl (by kernel_rfl) (by kernel_rfl) (by kernel_rfl) (by kernel_rfl) (fun _ _ _ h => h) (Or.inl ⟨by rfl, fun W hW => ?_⟩) hT ?_
  rotate_left 1
  · (unfold MarkT1 at hW; go_simp; with_reducible rfl)
  simp only [Act.put, List.setIfInBounds_toArray, List.set_cons_zero, List.set_cons_succ]
  refine wpAnyL_take (i := 6) (v := ?_) rfl (by kernel_rfl) (by kernel_rfl) (by kernel_rfl) (by kernel_rfl) (fun _ _ _ h => h) (Or.inl ⟨by rfl, fun W hW => ?_⟩) hT ?_
  rotate_left 1
  · (unfold MarkT1 at hW; go_simp; with_reducible rfl)
  simp only [Act.put, List.setIfInBounds_toArray, List.set_cons_zero, List.set_cons_succ]
  refine wpAnyL_take (i := 7) (v := ?_) rfl (by kernel_rfl) (by kernel_rfl) (by kernel_rfl) (by kernel_rfl) (fun _ _ _ h => h) (Or.inl ⟨by rfl, fun W hW => ?_⟩) hT ?_
  rotate_left 1
  · (unfold MarkT1 at hW; go_simp; with_reducible rfl)
  simp only [Act.put, List.setIfInBounds_toArray, List.set_cons_zero, List.set_cons_succ]
  refine wpAnyL_one (i := 8) (by kernel_rfl) rfl fun K8 hK8 => ?_
  go_simp
  go_at_call 58
  refine (unhide Hc _ ((Below.refl _ w8).drew)).mono ?_
  rintro e w9 ⟨Q9, rfl, hD9, hQ9, b9⟩
  have B9 : Hid (Below w8.heap.size w8 w9) := ((Below.refl _ w8).drew).trans b9
  have HD9 := hide hD9
  have HQ9 := hide hQ9
  have hT2 : MarkT1 w.heap.size w9 := ((unhide h8).below (unhide B9)).c4
  have hT3 : ∀ o, MarkT1 w.heap.size (w9.alloc o) := fun o => ((unhide h8).below ((unhide B9).alloc (unhide B9).size o)).c4
  clear b9 hD9 hQ9
  refine hK8 _ _ (Or.inr hT2) ?_
  try simp only [Act.put, List.setIfInBounds_toArray, List.set_cons_zero, List.set_cons_succ]
  refine wpAnyL_take (i := 9) (v := ?_) rfl (by kernel_rfl) (by kernel_rfl) (by kernel_rfl) (by kernel_rfl) (fun _ _ _ h => h) (Or.inl ⟨by rfl, fun W hW => ?_⟩) hT2 ?_
  rotate_left 1
  · (unfold MarkT1 at hW; go_simp; with_reducible rfl)
  simp only [Act.put, List.setIfInBounds_toArray, List.set_cons_zero, List.set_cons_succ]
  refine wpAnyL_one (i := 10) (by kernel_rfl) rfl fun K10 hK10 => ?_
  go_simp
  refine hK10 _ _ (Or.inr (hT3 _)) ?_
  try simp only [Act.put, List.setIfInBounds_toArray, List.set_cons_zero, List.set_cons_succ]
  refine wpAnyL_one (i := 11) (by kernel_rfl) rfl fun K11 hK11 => ?_
  refine step_append_lies _ (by rfl) _ _ _ (by rfl) 0 109 i0 _ 2 16 Tryz.underlying105 hi0 hz0 hz1 hz2 (by rfl) (by omega) (.slice none 0 0) 0 [] (by rfl) (World.ownsRow_nil _ _ _ _) ⟨w9.heap.size, 0, none⟩ 1 1 [.int .i64 (V.L.length : Nat), .pointer (some ⟨w8.heap.size, 0, none⟩)] (by rfl) (by rfl) (World.news_of_block (cs := #[.int .i64 (V.L.length : Nat), .pointer (some ⟨w8.heap.size, 0, none⟩)]) (t := 109) (fr := (0, 0)) (heap_alloc_new w9 _)) (by intro u hu; simp at hu; rcases hu with rfl | rfl <;> rfl) (by omega) (by unfold maxLen; omega) (by omega) (by omega) (w9.heap.size + 1) (by simp) ?_
  intro g5 cap5 w5 hown5 hgrow hat hlt5
  have b5 := hide (grown_blk hgrow ((unhide h8).below ((unhide B9).alloc (unhide B9).size _)).blk (unhide h8).neM)
  have c5 : w5.cell? ⟨w.heap.size, 4, none⟩ = some (.slice none 0 0) := (cell_blk (unhide b5) 4).trans rfl
  have z5 : ∀ i, w5.frozen? ⟨w.heap.size, i, none⟩ = false := fun i => frozen_blk (unhide b5) i
  have hT5 : MarkT1 w.heap.size w5 := c5
  have hg5 : g5 = w9.heap.size + 1 := by
    rcases hat with x | x
    · cases x
    · exact x
  have hfin := PairAt.growM (m := ⟨V.L.length, w8.heap.size, Q9, D⟩) ((unhide h8).below ((unhide B9).alloc (unhide B9).size _)) hgrow hown5 (by right; rw [hg5]; simp) hlt5 ((unhide HD9).below ((Below.refl _ w9).alloc (Nat.le_refl _) _)) (fun e => by simp only at e; omega) w (by have h1 := (unhide B8).size; have h2 := (unhide B9).size; simp; omega) ⟨by simp only; omega, fun g hg => by have h2 := unhide HQ9 g hg; have h3 : w8.drew.heap.size = w8.heap.size := rfl; omega⟩
  have hB5 : Below w.heap.size w (w5.setCell ⟨w.heap.size, 4, none⟩ (.slice (some ⟨g5, 0, none⟩) (0 + 1) cap5)) := (((unhide B8).trans (((unhide B9).alloc (unhide B9).size _).mono (unhide B8).size)).grown hgrow (by have h2 := (unhide B9).size; simp; omega) (fun k hk => by cases hk)).setCell (Nat.le_refl _) _
  have Hfin := hide hfin
  have HB5 := hide hB5
  clear hgrow hown5 hfin hB5 hg5 hat
  refine hK11 _ _ (Or.inr hT5) ?_
  try simp only [Act.put, List.setIfInBounds_toArray, List.set_cons_zero, List.set_cons_succ]
  refine wpAnyL_one (i := 12) (by kernel_rfl) rfl fun K12 hK12 => ?_
  go_simp
  refine hK12 _ _ (Or.inr hT5) ?_
  try simp only [Act.put, List.setIfInBounds_toArray, List.set_cons_zero, List.set_cons_succ]
  refine wpAnyL_one (i := 13) (by kernel_rfl) rfl fun K13 hK13 => ?_
  go_simp
  refine hK13 _ _ (Or.inr hT5) ?_
  try simp only [Act.put, List.setIfInBounds_toArray, List.set_cons_zero, List.set_cons_succ]
  refine wpAnyL_one (i := 14) (by kernel_rfl) rfl fun K14 hK14 => ?_
  go_simp
  refine hK14 _ _ (Or.inl rfl) ?_
  try simp only [Act.put, List.setIfInBounds_toArray, List.set_cons_zero, List.set_cons_succ]
  refine wpAnyL_done (by kernel_rfl) ?_ _
  clear hT hT2 hT3 hT5
  go_wp2
  go_ret
  obtain ⟨f1, f2, f3⟩ := unhide Hfin
  refine ⟨w.heap.size, rfl, .slice (some ⟨g5, 0, none⟩) 1 cap5, ⟨V.L.length, w8.heap.size, Q9, D⟩, rfl, rfl, _, f1, unhide HB5, fun k hk => ?_⟩
  rcases f3 k hk with (x | x) | x
  · exact Or.inl x
  · exact Or.inr (by omega)
  · exact Or.inr x
end Go.Proofs.YtknjjjenklfeoaaGreatDoor

/-
  What may be wrong with a file: the errors that lie in variables, a Fault as a value; the roles that clusters are told in.
-/
namespace Go.Proofs.YtknjjjenklfeoaaGreatDoor
open Go.RowKit
attribute [local go_sem] Oper.semAt_some
/-- The package-level variables hold their errors, and errors' own type. -/
structure Glob (w : World) : Prop where
  err : ∀ g, g < 9 → ∃ t v, w.cell? ⟨g, 0, none⟩ = some (.iface t v)
  typ : w.cell? ⟨5, 0, none⟩ = some (.iface 246 (.agg #[.pointer (some ⟨10, 98, none⟩)]))
theorem Glob.size {w : World} (h : Glob w) : 9 ≤ w.heap.size := by
  obtain ⟨t, v, h8⟩ := h.err 8 (by omega)
  unfold World.cell? at h8
  rcases Nat.lt_or_ge 8 w.heap.size with x | x
  · omega
  · rw [Array.getElem?_eq_none (show w.heap.size ≤ (⟨8, 0, none⟩ : Addr).block from x)] at h8
    cases h8
theorem Glob.kept {w w' : World} {S : Nat → Prop} (h : Glob w) (hk : Kept S w w') (hs : ∀ k, k < 9 → ¬ S k) : Glob w' := by
  have h9 := h.size
  have key : ∀ g, g < 9 → w'.cell? ⟨g, 0, none⟩ = w.cell? ⟨g, 0, none⟩ := fun g hg => by
    unfold World.cell?
    rw [show w'.heap[(⟨g, 0, none⟩ : Addr).block]? = w.heap[(⟨g, 0, none⟩ : Addr).block]? from hk.block g (by omega) (hs g hg)]
  refine ⟨fun g hg => ?_, ?_⟩
  · rw [key g hg]; exact h.err g hg
  · rw [key 5 (by omega)]; exact h.typ
theorem Glob.below {w w' : World} (h : Glob w) (hb : Below w.heap.size w w') : Glob w' := h.kept (S := fun _ => False) (Kept.of_below hb) (fun _ _ => id)

/-- A fault as an error. -/
def faultV (c : Nat) (x : Value) : Value := .iface 157 (.agg #[.int .i64 (c : Nat), x])
def isIface (x : Value) : Prop := ∃ t v, x = .iface t v

def rv (M : List Nat) : List Value := M.map fun k => .int .u8 (k : Nat)
def roleCells (T : Nat) (M : List Nat) : List Value := .int .i64 (T : Nat) :: rv M
structure RolesAt (w : World) (b T : Nat) (M : List Nat) : Prop where
  blk : w.heap[b]? = some (.cells (roleCells T M).toArray 212 (0, 0))
  len : M.length = 256
theorem rv_get (M : List Nat) (i : Nat) (h : i < M.length) : (rv M)[i]? = some (.int .u8 ((M.getD i 0 : Nat) : Int)) := by
  unfold rv
  rw [List.getElem?_map, List.getElem?_eq_getElem h, List.getD_eq_getElem?_getD, List.getElem?_eq_getElem h]
  rfl
theorem RolesAt.c0 {w : World} {b T : Nat} {M : List Nat} (h : RolesAt w b T M) : w.cell? ⟨b, 0, none⟩ = some (.int .i64 (T : Nat)) := by rw [cell_blk h.blk]; rfl
theorem RolesAt.cell {w : World} {b T : Nat} {M : List Nat} (h : RolesAt w b T M) (n : Nat) (hn : n < 256) : w.cell? ⟨b, 1 + n, none⟩ = some (.int .u8 ((M.getD n 0 : Nat) : Int)) := by
  rw [cell_blk h.blk, List.getElem?_toArray, Nat.add_comm]
  show (rv M)[n]? = _
  exact rv_get M n (by rw [h.len]; exact hn)
theorem RolesAt.fz {w : World} {b T : Nat} {M : List Nat} (h : RolesAt w b T M) (i : Nat) : w.frozen? ⟨b, i, none⟩ = false := frozen_blk h.blk i
theorem RolesAt.kept {w w' : World} {b T : Nat} {M : List Nat} {S : Nat → Prop} (h : RolesAt w b T M) (hk : Kept S w w') (hs : ¬ S b) : RolesAt w' b T M := ⟨hk.blk hs h.blk, h.len⟩
theorem RolesAt.below {w w' : World} {b T : Nat} {M : List Nat} (h : RolesAt w b T M) (hb : Below w.heap.size w w') : RolesAt w' b T M := h.kept (S := fun _ => False) (Kept.of_below hb) id
theorem RolesAt.lt {w : World} {b T : Nat} {M : List Nat} (h : RolesAt w b T M) : b < w.heap.size := blk_lt h.blk
theorem RolesAt.put {w : World} {b T : Nat} {M : List Nat} (h : RolesAt w b T M) (n kind : Nat) : RolesAt (w.setCell ⟨b, 1 + n, none⟩ (.int .u8 (kind : Nat))) b T (M.set n kind) := by
  refine ⟨?_, by simp [h.len]⟩
  rw [heap_setCell_same _ _ _ _ _ _ _ h.blk, List.setIfInBounds_toArray]
  simp only [roleCells, rv, List.map_set, Nat.add_comm 1 n, List.set_cons_succ]
/-- May a number not be told as this? -/
def noTellM (M : List Nat) (T n kind : Nat) : Bool := decide (n < 6) || (decide (T ≤ n) || (M.getD n 0 != 0 && (M.getD n 0 != kind || kind == 1)))
set_option maxHeartbeats 1000000 in
set_option maxRecDepth 100000 in
theorem roles_no (w : World) (b T : Nat) (M : List Nat) (n kind : Nat) (h : RolesAt w b T M) (hG : Glob w) (hT : T ≤ 256) (hn : n < 65536) (hk : kind < 256) (hM : ∀ i, M.getD i 0 < 256) (hno : noTellM M T n kind = true) :
    Calls Tryz.prog 151 #[.pointer (some ⟨b, 0, none⟩), .int .i64 (n : Nat), .int .u8 (kind : Nat)] w fun e w' => (∃ x, isIface x ∧ e = .returned x) ∧ w' = w := by
  obtain ⟨t6, v6, g6⟩ := hG.err 6 (by omega)
  obtain ⟨t7, v7, g7⟩ := hG.err 7 (by omega)
  have c0 := h.c0
  have f0 := h.fz
  by_cases h6 : n < 6
  · have d6 : ((n : Nat) : Int) < 6 := by omega
    clear hno
    go_enter Tryz.func151, Tryz.ntmps151
    go_wp2
    go_ret
    exact ⟨⟨_, ⟨_, _, rfl⟩, rfl⟩, rfl⟩
  · have d6 : ¬ ((n : Nat) : Int) < 6 := by omega
    by_cases hTn : T ≤ n
    · have dT : ((T : Nat) : Int) ≤ ((n : Nat) : Int) := by omega
      clear hno
      go_enter Tryz.func151, Tryz.ntmps151
      go_wp2
      go_ret
      exact ⟨⟨_, ⟨_, _, rfl⟩, rfl⟩, rfl⟩
    · have hn256 : n < 256 := by omega
      have cn := h.cell n hn256
      have dT : ¬ ((T : Nat) : Int) ≤ ((n : Nat) : Int) := by omega
      unfold noTellM at hno
      rw [decide_eq_false h6, decide_eq_false hTn, Bool.false_or, Bool.false_or] at hno
      have hm := hM n
      generalize M.getD n 0 = m at *
      have hm0 : m ≠ 0 := by rintro rfl; cases hno
      have dm : (((m : Nat) : Int) != 0) = true := by rw [bne_iff_ne]; omega
      by_cases hmk : m = kind
      · subst hmk
        have h1 : m = 1 := by simpa [hm0] using hno
        subst h1
        clear hno
        go_enter Tryz.func151, Tryz.ntmps151
        go_wp2
        go_ret
        exact ⟨⟨_, ⟨_, _, rfl⟩, rfl⟩, rfl⟩
      · have dk : (((m : Nat) : Int) != ((kind : Nat) : Int)) = true := by rw [bne_iff_ne]; omega
        clear hno
        go_enter Tryz.func151, Tryz.ntmps151
        go_wp2
        go_ret
        exact ⟨⟨_, ⟨_, _, rfl⟩, rfl⟩, rfl⟩
set_option maxHeartbeats 1000000 in
set_option maxRecDepth 100000 in
theorem roles_yes (w : World) (b T : Nat) (M : List Nat) (n kind : Nat) (h : RolesAt w b T M) (hT : T ≤ 256) (hk : kind < 256) (hM : ∀ i, M.getD i 0 < 256) (hno : noTellM M T n kind = false) :
    Calls Tryz.prog 151 #[.pointer (some ⟨b, 0, none⟩), .int .i64 (n : Nat), .int .u8 (kind : Nat)] w fun e w' => e = .returned .nilIface ∧ w' = w.setCell ⟨b, 1 + n, none⟩ (.int .u8 (kind : Nat)) := by
  have c0 := h.c0
  have f0 := h.fz
  unfold noTellM at hno
  rw [Bool.or_eq_false_iff, Bool.or_eq_false_iff] at hno
  obtain ⟨h6, hTn, hno⟩ := hno
  have h6 := of_decide_eq_false h6
  have hTn := of_decide_eq_false hTn
  have hn256 : n < 256 := by omega
  have cn := h.cell n hn256
  have d6 : ¬ ((n : Nat) : Int) < 6 := by omega
  have dT : ¬ ((T : Nat) : Int) ≤ ((n : Nat) : Int) := by omega
  have dn : ((n : Nat) : Int) < 256 := by omega
  have hm := hM n
  generalize M.getD n 0 = m at *
  by_cases hm0 : m = 0
  · subst hm0
    clear hno
    go_enter Tryz.func151, Tryz.ntmps151
    go_wp2
    go_ret
    exact ⟨rfl, rfl⟩
  · have dm : (((m : Nat) : Int) != 0) = true := by rw [bne_iff_ne]; omega
    have e0 : (m != 0) = true := by simpa using hm0
    rw [e0, Bool.true_and, Bool.or_eq_false_iff] at hno
    have hmk : m = kind := by simpa using hno.1
    have h1 : ¬ kind = 1 := by simpa using hno.2
    subst hmk
    have d1 : (((m : Nat) : Int) == 1) = false := by rw [beq_eq_false_iff_ne]; omega
    clear hno
    go_enter Tryz.func151, Tryz.ntmps151
    go_wp2
    go_ret
    exact ⟨rfl, rfl⟩
end Go.Proofs.YtknjjjenklfeoaaGreatDoor
