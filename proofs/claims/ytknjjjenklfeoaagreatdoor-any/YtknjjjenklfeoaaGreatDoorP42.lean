import Derived.Test.YtknjjjenklfeoaaGreatDoorP26
import Derived.Test.YtknjjjenklfeoaaGreatDoorP41
import Derived.Test.YtknjjjenklfeoaaGreatDoorP37
import Derived.Test.YtknjjjenklfeoaaGreatDoorP35
/-
  vellumlaw's lent: a file that is handed in, two clusters behind it.
-/
namespace Go.Proofs.YtknjjjenklfeoaaGreatDoor
open Go.RowKit
attribute [local go_sem ↓] loadVar_clus storeVar_clus zeroValue_clus buildSlice_clus buildSlice_clus2
attribute [local go_sem] run_loadClus run_storeClus run_zeroClus zc_length run_bsClus run_bsClus2
/-- A file, two marked clusters behind it, in a block of its own. -/
structure LentAt (w : World) (g cap : Nat) (L : List Clus) : Prop where
  row : w.ownsRow 0 38 64 (.slice (some ⟨g, 0, none⟩) (L.length + 2) cap) (L.length + 2) (flatC (L ++ [markC 1, markC 2]))
  lens : ∀ c ∈ L, c.length = 64
theorem LentAt.kept {w w' : World} {S : Nat → Prop} {g cap : Nat} {L : List Clus} (h : LentAt w g cap L) (hk : Kept S w w') (hs : ¬ S g) : LentAt w' g cap L := ⟨ownsRow_kept hk h.row (fun k hk' => by injection hk' with hk'; rw [← hk']; exact hs), h.lens⟩
theorem LentAt.below {w w' : World} {g cap : Nat} {L : List Clus} (h : LentAt w g cap L) (hb : Below w.heap.size w w') : LentAt w' g cap L := h.kept (S := fun _ => False) (Kept.of_below hb) id
theorem flatC_two (a b : Clus) : flatC [a, b] = cv a ++ cv b := by simp [flatC]
theorem LentAt.file {w : World} {g cap : Nat} {L : List Clus} (h : LentAt w g cap L) : FRow w (.slice (some ⟨g, 0, none⟩) L.length cap) L :=
  ⟨row_prefix (m := 2) (news := flatC [markC 1, markC 2]) (by rw [← flatC_app]; exact h.row) (flatC_length L h.lens), h.lens⟩

theorem row_cap {w : World} {base g cap n : Nat} {e : TypeId} {size : Nat} {xs : List Value} (h : w.ownsRow base e size (.slice (some ⟨g, 0, none⟩) n cap) n xs) : n ≤ cap := by
  rcases h.2 with ⟨hx, _⟩ | ⟨_, _, _, hx, _, _, hn, _⟩
  · cases hx
  · injection hx with _ _ hx
    rw [hx]
    exact hn
set_option maxHeartbeats 2000000 in
set_option maxRecDepth 100000 in
theorem lent_some (w : World) (fv : Value) (file : List Clus) (hf : FRow w fv file) (h0 : 0 < file.length) (hl : file.length ≤ 1000) :
    Calls Tryz.prog 39 #[fv] w fun e w' => ∃ g cap, e = .returned (.slice (some ⟨g, 0, none⟩) file.length cap) ∧ w.heap.size ≤ g ∧ LentAt w' g cap file ∧ Below w.heap.size w w' := by
  obtain ⟨i0, hi0, hz0, hz1, hz2⟩ := info_parts Tryz.infoClus
  obtain ⟨ga, capa, rfl, hcap⟩ := row_some hf.row h0
  have Hm1 : Hid (∀ W, Calls Tryz.prog 68 #[.int .u8 1] W fun e w' => e = .returned (.agg (cv (markC 1)).toArray) ∧ Below W.heap.size W w') := fun W => lawMarked_any 1 W
  have Hm2 : Hid (∀ W, Calls Tryz.prog 68 #[.int .u8 2] W fun e w' => e = .returned (.agg (cv (markC 2)).toArray) ∧ Below W.heap.size W w') := fun W => lawMarked_any 2 W
  have hm1 := markC_length 1
  have hm2 := markC_length 2
  have Hr := hide hf.row
  have Hls := hide hf.lens
  have hfl := flatC_length file hf.lens
  clear hf
  go_enter Tryz.func39, Tryz.ntmps39
  go_wp2_with (at_builtin; refine wpList_append_lies _ rfl _ _ _ rfl 0 38 i0 _ 64 64 Tryz.underlying28 hi0 hz0 hz1 hz2 (by simp [Value.cells, cv_length, zc_length]) (by omega) (.slice none 0 0) 0 [] rfl (World.ownsRow_nil _ _ _ _) ⟨ga, 0, none⟩ file.length capa (flatC file) rfl hfl ((unhide Hr).cells (g := ga) rfl) (flatC_one file) (by omega) (by unfold maxLen; omega) (by omega) (by omega) w.heap.size rfl ?_; intro g5 cap5 w5 hown5 hgrow hat hlt5)
  have hg5 : w.heap.size ≤ g5 := by
    rcases hat with x | x
    · cases x
    · omega
  have hB5 : Below w.heap.size w w5 := (Below.refl _ w).grown hgrow (Nat.le_refl _) (fun k hk => by cases hk)
  rw [Nat.zero_add, List.nil_append] at hown5
  have HB5 := hide hB5
  have HR5 := hide hown5
  clear hgrow hat hown5 hB5
  refine (unhide Hm1 _).mono ?_
  rintro e w6 ⟨rfl, hb6⟩
  go_wp2_with fail
  refine (unhide Hm2 _).mono ?_
  rintro e w7 ⟨rfl, hb7⟩
  have hb67 := hb6.trans (hb7.mono hb6.size)
  have HB7 := hide ((unhide HB5).trans (hb67.mono (unhide HB5).size))
  have HR7 := hide (ownsRow_kept (Kept.of_below (S := fun _ => False) hb67) (unhide HR5) (fun _ _ => id))
  clear hb6 hb7 hb67 HB5 HR5
  go_wp2_with (at_builtin; refine wpList_append_lies _ rfl _ _ _ rfl 0 38 i0 _ 64 64 Tryz.underlying28 hi0 hz0 hz1 hz2 (by simp [Value.cells, cv_length, zc_length]) (by omega) (.slice (some ⟨g5, 0, none⟩) file.length cap5) file.length (flatC file) rfl ((unhide HR7).alloc _) ⟨w7.heap.size, 0, none⟩ 2 2 (cv (markC 1) ++ cv (markC 2)) rfl (by rw [List.length_append, cv_length, cv_length, hm1, hm2]) (World.news_of_block (cs := (cv (markC 1) ++ cv (markC 2)).toArray) (t := 38) (fr := (0, 0)) (heap_alloc_new w7 _)) (by intro u hu; rcases List.mem_append.1 hu with x | x <;> exact cv_one _ u x) (by omega) (by unfold maxLen; omega) (by omega) (by omega) (w7.heap.size + 1) (by simp) ?_; intro g8 cap8 w8 hown8 hgrow8 hat8 hlt8; have hc8 := row_cap hown8; have hci : ((file.length : Nat) : Int) ≤ ((cap8 : Nat) : Int) := (by omega); have hc0 : ¬ cap8 = 0 := (by omega))
  have hB8 : Below w.heap.size w w8 := ((unhide HB7).alloc (unhide HB7).size (.cells (cv (markC 1) ++ cv (markC 2)).toArray 38)).grown hgrow8 (by have := (unhide HB7).size; simp; omega) (fun k hk => by
    simp only [Value.ownBlock, Option.some.injEq] at hk
    omega)
  have hg8 : w.heap.size ≤ g8 := by
    rcases hat8 with x | x
    · simp only [Value.ownBlock, Option.some.injEq] at x
      omega
    · have := (unhide HB7).size; omega
  have HL : LentAt w8 g8 cap8 file := ⟨by rw [flatC_app, flatC_two]; exact hown8, unhide Hls⟩
  have HB8 := hide hB8
  have HL := hide HL
  clear hgrow8 hat8 hown8 hB8
  go_ret
  exact ⟨g8, cap8, rfl, hg8, unhide HL, unhide HB8⟩
set_option maxHeartbeats 2000000 in
set_option maxRecDepth 100000 in
theorem lent_none (w : World) (a : Option Addr) (capa : Nat) :
    Calls Tryz.prog 39 #[.slice a 0 capa] w fun e w' => ∃ g cap, e = .returned (.slice (some ⟨g, 0, none⟩) 0 cap) ∧ w.heap.size ≤ g ∧ LentAt w' g cap [] ∧ Below w.heap.size w w' := by
  obtain ⟨i0, hi0, hz0, hz1, hz2⟩ := info_parts Tryz.infoClus
  have Hm1 : Hid (∀ W, Calls Tryz.prog 68 #[.int .u8 1] W fun e w' => e = .returned (.agg (cv (markC 1)).toArray) ∧ Below W.heap.size W w') := fun W => lawMarked_any 1 W
  have Hm2 : Hid (∀ W, Calls Tryz.prog 68 #[.int .u8 2] W fun e w' => e = .returned (.agg (cv (markC 2)).toArray) ∧ Below W.heap.size W w') := fun W => lawMarked_any 2 W
  have hm1 := markC_length 1
  have hm2 := markC_length 2
  rcases a with _ | a
  all_goals
    go_enter Tryz.func39, Tryz.ntmps39
    go_wp2_with fail
    try (simp only [Sem.run_pure, Result.andThen_ok]; go_wp2_with fail)
    refine (unhide Hm1 _).mono ?_
    rintro e w6 ⟨rfl, hb6⟩
    go_wp2_with fail
    refine (unhide Hm2 _).mono ?_
    rintro e w7 ⟨rfl, hb7⟩
    have HB7 := hide (hb6.trans (hb7.mono hb6.size))
    clear hb6 hb7
    go_wp2_with (at_builtin; refine wpList_append_lies _ rfl _ _ _ rfl 0 38 i0 _ 64 64 Tryz.underlying28 hi0 hz0 hz1 hz2 (by simp [Value.cells, cv_length, zc_length]) (by omega) (.slice none 0 0) 0 [] rfl (World.ownsRow_nil _ _ _ _) ⟨w7.heap.size, 0, none⟩ 2 2 (cv (markC 1) ++ cv (markC 2)) rfl (by rw [List.length_append, cv_length, cv_length, hm1, hm2]) (World.news_of_block (cs := (cv (markC 1) ++ cv (markC 2)).toArray) (t := 38) (fr := (0, 0)) (heap_alloc_new w7 _)) (by intro u hu; rcases List.mem_append.1 hu with x | x <;> exact cv_one _ u x) (by omega) (by unfold maxLen; omega) (by omega) (by omega) (w7.heap.size + 1) (by simp) ?_; intro g8 cap8 w8 hown8 hgrow8 hat8 hlt8; have hc8 := row_cap hown8; have hci : (0 : Int) ≤ ((cap8 : Nat) : Int) := (by omega); have hc0 : ¬ cap8 = 0 := (by omega))
    have hB8 : Below w.heap.size w w8 := ((unhide HB7).alloc (unhide HB7).size (.cells (cv (markC 1) ++ cv (markC 2)).toArray 38)).grown hgrow8 (by have := (unhide HB7).size; simp; omega) (fun k hk => by cases hk)
    have hg8 : w.heap.size ≤ g8 := by
      rcases hat8 with x | x
      · cases x
      · have := (unhide HB7).size; omega
    have HL : LentAt w8 g8 cap8 [] := ⟨by rw [List.nil_append, flatC_two]; exact hown8, fun c hc => (by cases hc)⟩
    have HB8 := hide hB8
    have HL := hide HL
    clear hgrow8 hat8 hown8 hB8
    go_ret
    exact ⟨g8, cap8, rfl, hg8, unhide HL, unhide HB8⟩
theorem lent_any (w : World) (fv : Value) (file : List Clus) (hf : FRow w fv file) (hl : file.length ≤ 1000) :
    Calls Tryz.prog 39 #[fv] w fun e w' => ∃ g cap, e = .returned (.slice (some ⟨g, 0, none⟩) file.length cap) ∧ w.heap.size ≤ g ∧ LentAt w' g cap file ∧ Below w.heap.size w w' := by
  by_cases h0 : 0 < file.length
  · exact lent_some w fv file hf h0 hl
  · have hn : file = [] := List.eq_nil_of_length_eq_zero (by omega)
    subst hn
    obtain ⟨a, cap, rfl⟩ := row_form hf.row
    exact lent_none w a cap
end Go.Proofs.YtknjjjenklfeoaaGreatDoor

/-
  vellumlaw's back: a file that was handed in is as it was; then it is written over.
-/
namespace Go.Proofs.YtknjjjenklfeoaaGreatDoor
open Go.RowKit
attribute [local go_sem ↓] loadVar_clus storeVar_clus zeroValue_clus equalIn_clus
attribute [local go_sem] run_loadClus run_storeClus run_zeroClus zc_length
def twoM : List Clus := [markC 1, markC 2]
theorem twoM_lens : ∀ c ∈ twoM, c.length = 64 := by
  intro c hc
  simp only [twoM, List.mem_cons, List.not_mem_nil, or_false] at hc
  rcases hc with rfl | rfl
  · exact markC_length 1
  · exact markC_length 2
/-- The lent file, its first k clusters written over. -/
def backTo (L : List Clus) (k : Nat) : List Clus := markTo L 3 k ++ twoM
theorem backTo_length (L : List Clus) (k : Nat) (h : k ≤ L.length) : (backTo L k).length = L.length + 2 := by rw [backTo, List.length_append, markTo_length L 3 k h]; rfl
theorem backTo_lens {L : List Clus} (hl : ∀ c ∈ L, c.length = 64) (k : Nat) : ∀ c ∈ backTo L k, c.length = 64 := by
  intro c hc
  rcases List.mem_append.1 hc with h | h
  · exact markTo_lens hl 3 k c h
  · exact twoM_lens c h
theorem backTo_succ (L : List Clus) (k : Nat) (h : k < L.length) : (backTo L k).set k (markC 3) = backTo L (k + 1) := by
  unfold backTo
  rw [List.set_append_left _ _ (by rw [markTo_length L 3 k (by omega)]; exact h), markTo_succ L 3 k h]
theorem backTo_cl (L : List Clus) (k : Nat) (h : k < L.length) : cl (backTo L k) k = cl L k := by
  unfold cl backTo markTo
  rw [List.getD_eq_getElem?_getD, List.getD_eq_getElem?_getD, List.append_assoc, List.getElem?_append_right (by simp), List.length_replicate, Nat.sub_self, List.getElem?_append_left (by simp; omega), List.getElem?_drop, Nat.add_zero]
theorem backTo_zero (L : List Clus) : backTo L 0 = L ++ twoM := by unfold backTo markTo; rfl
theorem backTo_m1 (L : List Clus) : cl (backTo L 0) L.length = markC 1 := by
  rw [backTo_zero]
  unfold cl
  rw [List.getD_eq_getElem?_getD, List.getElem?_append_right (Nat.le_refl _), Nat.sub_self]; rfl
theorem backTo_m2 (L : List Clus) : cl (backTo L 0) (L.length + 1) = markC 2 := by
  rw [backTo_zero]
  unfold cl
  rw [List.getD_eq_getElem?_getD, List.getElem?_append_right (by omega), show L.length + 1 - L.length = 1 by omega]; rfl

set_option maxHeartbeats 2000000 in
set_option maxRecDepth 100000 in
theorem back_any (w : World) (g cap : Nat) (fv : Value) (file : List Clus) (hL : LentAt w g cap file) (hf : FRow w fv file) (hne : ∀ k, fv.ownBlock = some k → k ≠ g) (hl : file.length ≤ 1000) :
    Calls Tryz.prog 40 #[.slice (some ⟨g, 0, none⟩) file.length cap, fv] w fun e w' => e = .returned (.bool true) ∧ Kept (fun k => k = g) w w' := by
  have hrow : w.ownsRow 0 38 64 (.slice (some ⟨g, 0, none⟩) (backTo file 0).length cap) (backTo file 0).length (flatC (backTo file 0)) := by
    rw [backTo_length _ _ (Nat.zero_le _), backTo_zero]; exact hL.row
  have hlen2 := backTo_length file 0 (Nat.zero_le _)
  have hlens := backTo_lens hf.lens 0
  have hcap := row_cap hL.row
  have hci : ((file.length : Nat) : Int) + 2 ≤ ((cap : Nat) : Int) := by omega
  have hc0 : ¬ cap = 0 := by omega
  have hm1 := markC_length 1
  have hm2 := markC_length 2
  have hm3 := markC_length 3
  have Hm1 : Hid (∀ W, Calls Tryz.prog 68 #[.int .u8 1] W fun e w' => e = .returned (.agg (cv (markC 1)).toArray) ∧ Below W.heap.size W w') := fun W => lawMarked_any 1 W
  have Hm2 : Hid (∀ W, Calls Tryz.prog 68 #[.int .u8 2] W fun e w' => e = .returned (.agg (cv (markC 2)).toArray) ∧ Below W.heap.size W w') := fun W => lawMarked_any 2 W
  have Hm3 : Hid (∀ W, Calls Tryz.prog 68 #[.int .u8 3] W fun e w' => e = .returned (.agg (cv (markC 3)).toArray) ∧ Below W.heap.size W w') := fun W => lawMarked_any 3 W
  have l1 : ∀ d os, HasAt (Go.Sort.grow (redrawn w d) os) g (file.length * 64) 64 := fun d os => row_has (ownsRow_kept (Kept.of_below (S := fun _ => False) (below_regrown w d os)) hrow (fun _ _ => id)) hlens _ (by omega)
  have l2 : ∀ d os, cellsAt (Go.Sort.grow (redrawn w d) os) g (file.length * 64) 64 = cv (markC 1) := fun d os => by
    have := row_cells (ownsRow_kept (Kept.of_below (S := fun _ => False) (below_regrown w d os)) hrow (fun _ _ => id)) hlens file.length (by omega)
    rw [this, backTo_m1]
  have l3 : ∀ d os, HasAt (Go.Sort.grow (redrawn w d) os) g ((file.length + 1) * 64) 64 := fun d os => row_has (ownsRow_kept (Kept.of_below (S := fun _ => False) (below_regrown w d os)) hrow (fun _ _ => id)) hlens _ (by omega)
  have l4 : ∀ d os, cellsAt (Go.Sort.grow (redrawn w d) os) g ((file.length + 1) * 64) 64 = cv (markC 2) := fun d os => by
    have := row_cells (ownsRow_kept (Kept.of_below (S := fun _ => False) (below_regrown w d os)) hrow (fun _ _ => id)) hlens (file.length + 1) (by omega)
    rw [this, backTo_m2]
  have he1 : ∀ w, (eqClus (.agg (cv (markC 1)).toArray) (.agg (cv (markC 1)).toArray)).run Tryz.prog w = .ok true w := fun w => by rw [run_eqClus hm1 hm1, decide_eq_true rfl]
  have he2 : ∀ w, (eqClus (.agg (cv (markC 2)).toArray) (.agg (cv (markC 2)).toArray)).run Tryz.prog w = .ok true w := fun w => by rw [run_eqClus hm2 hm2, decide_eq_true rfl]
  obtain ⟨fa, fcap, hfv⟩ := row_form hf.row
  subst hfv
  have Hrow := hide hrow
  have HF := hide hf
  have Hne := hide hne
  clear hrow hf hne hL hlens
  go_enter Tryz.func40, Tryz.ntmps40
  go_wp2_with fail
  have Hn1 := hide (fun d os => unhide Hm1 (Go.Sort.grow (redrawn w d) os))
  have Hn2 := hide (fun d os => unhide Hm2 (Go.Sort.grow (redrawn w d) os))
  refine wp_region_quiet_below (by kernel_rfl) (by kernel_rfl) ?_
  repeat (go_big_quiet_step (fail))
  go_big_quiet_step (exact Calls.regrown_of (unhide Hn1 _ _))
  repeat (go_big_quiet_step (fail))
  go_big_quiet_step (exact Calls.regrown_of (unhide Hn2 _ _))
  repeat (go_big_quiet_step (fail))
  refine wpQuiet_nil ?_
  intro _ hw'
  obtain ⟨⟨dq, osq⟩, hw''⟩ := hw'
  subst hw''
  have Bq := hide (below_regrown w dq osq)
  have HKq := hide (Kept.of_below (S := fun k => k = g) (unhide Bq))
  have HRq := hide (ownsRow_kept (Kept.of_below (S := fun _ => False) (unhide Bq)) (unhide Hrow) (fun _ _ => id))
  have HFq := hide ((unhide HF).kept (S := fun _ => False) (Kept.of_below (unhide Bq)) (fun _ _ => id))
  clear l1 l2 l3 l4 he1 he2 Hn1 Hn2 Hm1 Hm2 Hrow HF Bq
  generalize Go.Sort.grow (redrawn w dq) osq = w1 at *
  go_wp2
  go_loopw [6, 7] (fun b i wr => ∃ k : Nat, k ≤ file.length ∧ i = .int .i64 k ∧ b = .bool true ∧ Kept (fun k => k = g) w wr ∧ wr.ownsRow 0 38 64 (.slice (some ⟨g, 0, none⟩) (backTo file k).length cap) (backTo file k).length (flatC (backTo file k)) ∧ FRow wr (.slice fa file.length fcap) file) (fun _ i _ => file.length - (intOf i).toNat)
  case atStart => exact ⟨0, by omega, rfl, rfl, unhide HKq, unhide HRq, unhide HFq⟩
  case round =>
    obtain ⟨k, hk, rfl, rfl, hK, hR, hF⟩ := hrel
    clear HKq HRq HFq
    by_cases hlt : k < file.length
    · obtain ⟨g', cap3, e3, _⟩ := row_some hF.row (by omega)
      obtain ⟨rfl, rfl⟩ : fa = some ⟨g', 0, none⟩ ∧ fcap = cap3 := by injection e3 with x1 x2 x3; exact ⟨x1, x3⟩
      have hki : (k : Int) < (file.length : Int) := by omega
      have hbl := backTo_length file k hk
      have hlens := backTo_lens hF.lens k
      have hlo := hK.size
      have l1 : ∀ n, HasAt (wr.drewN n) g (k * 64) 64 := fun n => row_has (ownsRow_kept ((Kept.refl (fun _ => False) wr).drewN n) hR (fun _ _ => id)) hlens k (by omega)
      have l2 : ∀ n, cellsAt (wr.drewN n) g (k * 64) 64 = cv (cl file k) := fun n => by
        have := row_cells (ownsRow_kept ((Kept.refl (fun _ => False) wr).drewN n) hR (fun _ _ => id)) hlens k (by omega)
        rw [this, backTo_cl file k hlt]
      have hFn := fun n => hF.kept ((Kept.refl (fun _ => False) wr).drewN n) (fun _ _ => id)
      have l3 : ∀ n, HasAt (wr.drewN n) g' (k * 64) 64 := fun n => row_has (hFn n).row hF.lens k hlt
      have l4 : ∀ n, cellsAt (wr.drewN n) g' (k * 64) 64 = cv (cl file k) := fun n => row_cells (hFn n).row hF.lens k hlt
      have hcl := cl_length hF.lens hlt
      have he : ∀ w, (eqClus (.agg (cv (cl file k)).toArray) (.agg (cv (cl file k)).toArray)).run Tryz.prog w = .ok true w := fun w => by rw [run_eqClus hcl hcl, decide_eq_true rfl]
      have HK := hide hK
      have HR := hide hR
      have HF := hide hF
      clear hK hR hF hFn e3
      generalize cl file k = c at *
      go_wp2
      go_quiet (fail)
      have HKn := hide ((unhide HK).drewN nq)
      have HRn := hide (ownsRow_kept ((Kept.refl (fun _ => False) wr).drewN nq) (unhide HR) (fun _ _ => id))
      have HFn := hide ((unhide HF).kept ((Kept.refl (fun _ => False) wr).drewN nq) (fun _ _ => id))
      clear l1 l2 l3 l4 he HK HR HF
      generalize wr.drewN nq = wn at *
      go_wp2_with fail
      refine (unhide Hm3 _).mono ?_
      rintro e w2 ⟨rfl, hb2⟩
      have hR2 := ownsRow_kept (Kept.of_below (S := fun _ => False) hb2) (unhide HRn) (fun _ _ => id)
      have th := row_there hR2 k (by omega)
      have hset := row_set hR2 hlens k (by omega) (markC 3) hm3
      rw [backTo_succ file k hlt, show (backTo file k).length = (backTo file (k + 1)).length by rw [hbl, backTo_length file (k + 1) (by omega)]] at hset
      have hF2 := (unhide HFn).kept (S := fun _ => False) (Kept.of_below hb2) (fun _ _ => id)
      have Hset := hide hset
      have HF3 := hide (hF2.kept ((Kept.refl (fun x => x = g) w2).setCells (b := g) (Or.inl rfl) (k * 64) (cv (markC 3))) (fun x hx => unhide Hne x hx))
      have HK3 := hide (((unhide HKn).trans (Kept.of_below hb2)).setCells (b := g) (Or.inl rfl) (k * 64) (cv (markC 3)))
      clear hset hR2 hF2 hb2 HKn HRn HFn
      go_wp2
      go_roundw
      case rel => exact ⟨k + 1, by omega, by go_num, rfl, unhide HK3, unhide Hset, unhide HF3⟩
      case measure => simp [intOf]; omega
    · have HK := hide hK
      clear hK hR hF
      go_wp2
      go_ret
      exact ⟨rfl, unhide HK⟩
end Go.Proofs.YtknjjjenklfeoaaGreatDoor

/-
  Plain: a file that is opened: what the reader says of it; where it says that it is exact, it is.
-/
namespace Go.Proofs.YtknjjjenklfeoaaGreatDoor
section
variable {base : List Clus} {V : VolR} {N0 : Nat} {E : List EntR}
theorem cntTo_pos {p : Nat → Bool} {n : Nat} (hp : p n = true) : ∀ k, n < k → 0 < cntTo p k
  | 0, h => by omega
  | k + 1, h => by
    rw [cntTo]
    by_cases e : n = k
    · subst e; rw [hp, if_pos rfl]; omega
    · have := cntTo_pos hp k (by omega); omega
/-- Check finds nothing: the file is exact. -/
theorem Vol.exact_of (h : Vol base V N0 E) (h1 : (checkR V).lost = 0) (h2 : (checkR V).over = 0) (h3 : (checkR V).unmarked = 0) : ExactS V.C (rsOf N0 E) := by
  obtain ⟨k1, k2⟩ := h.ok.cnts rfl
  have hlen := h.sound.len
  have huse := h.uses
  have h1 : cntTo (lostM (usesOf V) (cntsOf V.C)) 256 = 0 := h1
  have h2 : cntTo (overM (usesOf V) (cntsOf V.C)) 256 = 0 := h2
  have h3 : lackAll V (usesOf V) (firstsOf V) = 0 := h3
  have heq : ∀ n, n < 256 → countOf V.C n = base6 n + useOf V.C (rsOf N0 E) n := by
    intro n hn
    have hc := h.sound.cnt n hn
    have hl : lostM (usesOf V) (cntsOf V.C) n = false := by
      cases e : lostM (usesOf V) (cntsOf V.C) n with
      | false => rfl
      | true => have := cntTo_pos e 256 hn; omega
    have ho : overM (usesOf V) (cntsOf V.C) n = false := by
      cases e : overM (usesOf V) (cntsOf V.C) n with
      | false => rfl
      | true => have := cntTo_pos e 256 hn; omega
    unfold lostM at hl
    unfold overM at ho
    rw [huse n hn, k2 n hn] at hl ho
    rw [Bool.and_eq_false_iff] at hl ho
    rcases Nat.eq_zero_or_pos (base6 n + useOf V.C (rsOf N0 E) n) with hz | hz
    · rcases hl with x | x
      · rw [hz] at x; cases x
      · have := of_decide_eq_false x; omega
    · rcases ho with x | x
      · have := of_decide_eq_false x; omega
      · have := of_decide_eq_false x; omega
  have hno : ∀ r ∈ rsOf N0 E, ∀ s ∈ toldFrom V.C r.N 2 0, lackB (usesOf V) s.number = false := by
    intro r hr s hs
    unfold lackAll lacks at h3
    rw [List.length_eq_zero_iff, List.filter_eq_nil_iff] at h3
    have := h3 s.number (List.mem_flatMap.2 ⟨r.N, by rw [h.firsts]; exact List.mem_map.2 ⟨r, hr, rfl⟩, by rw [told_rawAll, toldFrom_two (h.sound.zero r hr)]; exact List.mem_map.2 ⟨s, hs, rfl⟩⟩)
    simpa using this
  have key : ∀ r ∈ rsOf N0 E, ∀ s ∈ toldFrom V.C r.N 2 0, s.number % 32768 < 256 → countOf V.C (s.number % 32768) = 1 → 32768 ≤ s.number := by
    intro r hr s hs hlt hc
    have := hno r hr s hs
    unfold lackB at this
    rw [huse _ hlt, ← heq _ hlt, hc, decide_eq_true rfl, Bool.true_and] at this
    rcases Nat.lt_or_ge s.number 32768 with x | x
    · rw [decide_eq_false (by omega)] at this; cases this
    · exact x
  refine ⟨heq, fun r hr j hj h0 hc => ?_, fun s hs k hk h0 hc => ?_⟩
  · have := (h.sound.sec _ ⟨r, hr, j, hj, h0, rfl⟩).2
    exact key r hr ⟨r.N, j, nm V.C r.N j⟩ (told_mem1 hj h0 _ (Or.inl rfl)) (by show nm V.C r.N j % 32768 < 256; omega) hc
  · obtain ⟨r, hr, j, hj, h1', rfl⟩ := hs
    have := (h.sound.blk _ ⟨_, ⟨r, hr, j, hj, h1', rfl⟩, k, hk, h0, rfl⟩).2
    exact key r hr ⟨nm V.C r.N j % 32768, k, nm V.C (nm V.C r.N j % 32768) k⟩ (told_mem1 hj h1' _ (Or.inr (spFrom_in h0 32 0 (by omega) (by omega)))) (by show nm V.C (nm V.C r.N j % 32768) k % 32768 < 256; omega) hc
end
/-- What is known of a file that was opened. -/
structure Opened (file : List Clus) (N0 : Nat) (E : List EntR) : Prop where
  head : headGood file = true
  vol : Vol (openV file).C (openV file) N0 E
  bad : (look file).bad = -1
  L : (look file).L = (openV file).C
  roots : (look file).roots = rsOf N0 E
  low : Low 1000 (look file)
  state : checkR (openV file) = stateOf (look file)
  disk : diskOf (look file) = dskOf (openV file).C N0 E
  exact : exactB (look file) = true → ExactS (openV file).C (rsOf N0 E)
theorem opened_of {file : List Clus} (hl : ∀ c ∈ file, c.length = 64) (h : openBad file = -1) : ∃ N0 E, Opened file N0 E := by
  obtain ⟨N0, E, hE, hh, hs, hv⟩ := open_sound hl h
  have hC := hE.openC
  have hs' : SoundL (padTo file (num (cl file 0) 4)) (rsOf N0 E) := by rw [← hC]; exact hs
  obtain ⟨l1, l2, l3, l4, l5⟩ := hE.look hs'
  have hst : checkR (openV file) = stateOf (look file) := hv.state (by rw [l2, hC]) l3 (fun n hn => by rw [l4 n hn, hC])
  refine ⟨N0, E, hh, hv, l1, by rw [l2, hC], l3, l5, hst, by rw [hE.disk hs', hC], fun hx => ?_⟩
  unfold exactB at hx
  rw [← hst] at hx
  simp only [Bool.and_eq_true, beq_iff_eq] at hx
  exact hv.exact_of hx.1 hx.2.1 hx.2.2
end Go.Proofs.YtknjjjenklfeoaaGreatDoor

/-
  Disk.Check.
-/
namespace Go.Proofs.YtknjjjenklfeoaaGreatDoor
open Go.RowKit Go.Shelf
attribute [local go_sem ↓] loadVar_st storeVar_st
attribute [local go_sem] run_loadSt
set_option maxHeartbeats 1000000 in
set_option maxRecDepth 100000 in
theorem diskCheck_any (w : World) (d v : Nat) (Cv Lv : Value) (V : VolR) (h : DskAt w d v Cv Lv V) (h5 : 5 < V.C.length) (hC : V.C.length ≤ 256) (hF : ∀ f ∈ firstsOf V, FirstOK V f) :
    Calls Tryz.prog 22 #[.pointer (some ⟨d, 0, none⟩)] w fun e w' => e = .returned (.agg (stateCells (checkR V)).toArray) ∧ Below w.heap.size w w' := by
  have hb0 : Below w.heap.size w (w.alloc (.cells #[.int .i64 0, .int .i64 0, .int .i64 0, .int .i64 0, .int .i64 0] 51)) := (Below.refl _ _).alloc (Nat.le_refl _) _
  have hx0 : (w.alloc (.cells #[.int .i64 0, .int .i64 0, .int .i64 0, .int .i64 0, .int .i64 0] 51)).heap[w.heap.size]? = some (.cells #[.int .i64 0, .int .i64 0, .int .i64 0, .int .i64 0, .int .i64 0] 51 (0, 0)) := heap_alloc_new _ _
  have h' := h.below hb0
  have Hm := hide (made_any _ d v Cv Lv V h')
  have c0 := h'.c0
  have Hw := hide (volCheck_any _ v Cv Lv V h'.vol h5 hC hF)
  have B0 := hide hb0
  have X0 := hide hx0
  generalize checkR V = st at *
  have hst : ∀ {w : World} {b : Nat}, w.there b 0 5 → (storeSt ⟨b, 0, none⟩ (.agg (stateCells st).toArray)).run Tryz.prog w = .ok () (w.setCells b 0 (stateCells st)) := fun ht => run_storeSt st ht
  clear h hF h' hb0 hx0
  go_enter Tryz.func22, Tryz.ntmps22
  go_wp2_with fail
  generalize w.alloc (.cells #[.int .i64 0, .int .i64 0, .int .i64 0, .int .i64 0, .int .i64 0] 51) = w0 at *
  refine (unhide Hm).mono ?_
  rintro e w1 ⟨rfl, rfl⟩
  go_wp2_with fail
  refine (unhide Hw).mono ?_
  rintro e w2 ⟨rfl, hb⟩
  have hx2 := (hb.block _ (blk_lt (unhide X0))).trans (unhide X0)
  have th : w2.there w.heap.size 0 5 := there_blk hx2 0 5 (by simp)
  have B2 := hide (below_setCells ((unhide B0).trans (hb.mono (unhide B0).size)) (Nat.le_refl _) 0 (stateCells st))
  have X9 := all_store (cs := zs5) hx2 (vs := stateCells st) rfl
  have n3 := hide (blk_has X9 (n := 5) (by rw [state_len]))
  have n4 := hide (blk_cells X9 (n := 5) (by rw [state_len]))
  clear hb hx2 X9 Hw Hm B0 X0
  go_wp2
  refine bodyPost_ret (results_cell rfl ⟨w.heap.size, 0, none⟩ rfl (v := .agg (stateCells st).toArray) (by rw [loadVar_st, run_loadSt (unhide n3), unhide n4])) rfl ?_
  exact ⟨rfl, unhide B2⟩
end Go.Proofs.YtknjjjenklfeoaaGreatDoor

/-
  vellumlaw's opens, where the file is wrong.
-/
namespace Go.Proofs.YtknjjjenklfeoaaGreatDoor
open Go.RowKit

set_option maxHeartbeats 4000000 in
set_option maxRecDepth 100000 in
theorem opens_bad (w : World) (fv : Value) (file : List Clus) (hf : FRow w fv file) (hG : Glob w) (hl : file.length ≤ 1000) (n : Nat) (hbad : openBad file = (n : Int)) :
    Calls Tryz.prog 13 #[fv] w fun e w' => e = .returned (.tuple #[.pointer none, .bool true]) ∧ Below w.heap.size w w' := by
  obtain ⟨fa, fcap, hfv⟩ := row_form hf.row
  have hlt : ∀ k, fv.ownBlock = some k → k < w.heap.size := fun k hk => (hf.row.lt k hk).2
  have hlk : (look file).bad = (n : Int) := by rw [look_openBad hf.lens]; exact hbad
  have HF := hide hf
  have HG := hide hG
  have Hlt := hide hlt
  have Hfv := hide hfv
  subst hfv
  clear hf hG hlt
  go_enter Tryz.func13, Tryz.ntmps13
  go_wp2_with fail
  refine (lent_any w _ file (unhide HF) hl).mono ?_
  rintro e w1 ⟨g, cap, rfl, hg, hL1, b1⟩
  have hgl : g < w1.heap.size := (hL1.row.lt g rfl).2
  have B1 := hide b1
  have L1 := hide hL1
  clear b1 hL1
  go_wp2_with fail
  refine (diskOpen_any w1 _ file (unhide L1).file ((unhide HG).below (unhide B1)) (by omega)).mono ?_
  rintro e w2 ⟨(⟨n', hn', rfl⟩ | ⟨hn', _⟩), b2⟩
  rotate_left
  · rw [hbad] at hn'; omega
  obtain rfl : n' = n := by rw [hbad] at hn'; omega
  have B2 := hide ((unhide B1).trans (b2.mono (unhide B1).size))
  have L2 := hide ((unhide L1).below b2)
  clear b2 L1
  go_wp2_with fail
  refine (back_any w2 g cap _ file (unhide L2) ((unhide HF).kept (S := fun _ => False) (Kept.of_below (unhide B2)) (fun _ _ => id)) (fun k hk => by have := unhide Hlt k hk; omega) hl).mono ?_
  rintro e w3 ⟨rfl, k3⟩
  have hB3 : Below w.heap.size w w3 := by
    have hb := unhide B2
    exact ⟨k3.os.trans hb.os, k3.tape.trans hb.tape, k3.output.trans hb.output, Nat.le_trans hb.size k3.size, fun j hj => by
      rw [k3.block j (Nat.lt_of_lt_of_le hj hb.size) (by omega)]; exact hb.block j hj⟩
  have B3 := hide hB3
  clear k3 hB3 L2 B2 B1
  go_wp2_with fail
  refine (look_any w3 _ file ((unhide HF).kept (S := fun _ => False) (Kept.of_below (unhide B3)) (fun _ _ => id)) hl).mono ?_
  rintro e w4 ⟨rfl, fl, fr, hLk⟩
  have cb := hLk.at'.cBad
  rw [hlk] at cb
  have B4 := hide ((unhide B3).trans (hLk.below.mono (unhide B3).size))
  have d0 : ¬ ((n' : Nat) : Int) < 0 := by omega
  have d1 : (0 : Int) ≤ ((n' : Nat) : Int) := by omega
  clear hLk B3
  generalize w3.heap.size = f at *
  go_wp2
  refine bodyPost_ret (results_tmp2 rfl _ _ _) rfl ?_
  exact ⟨rfl, unhide B4⟩
end Go.Proofs.YtknjjjenklfeoaaGreatDoor

/-
  vellumlaw's opens, where the file is sound: a pair behind it.
-/
namespace Go.Proofs.YtknjjjenklfeoaaGreatDoor
open Go.RowKit

/-- What opens gives. -/
structure OpensTo (w w' : World) (file : List Clus) (p : Nat) (P : PairR) (S : Nat → Prop) : Prop where
  at' : PairAt w' p P S
  V : P.V = openV file
  B : P.B = (openV file).C
  ex : P.ex = exactB (look file)
  D : P.D = diskOf (look file)
  ms : P.ms.length = 2
  logs : ∀ m ∈ P.ms, m.log = 0
  discs : ∀ m ∈ P.ms, m.D = P.D
  new : ∀ k, S k → w.heap.size ≤ k
  below : Below w.heap.size w w'
def LisT (f : Nat) (fl : Value) (w' : World) : Prop := w'.cell? ⟨f, 0, none⟩ = some fl
set_option linter.unusedSimpArgs false in
set_option maxHeartbeats 4000000 in
set_option maxRecDepth 100000 in
theorem opens_good (w : World) (fv : Value) (file : List Clus) (hf : FRow w fv file) (hG : Glob w) (hl : file.length ≤ 1000) (hgood : openBad file = -1) :
    Calls Tryz.prog 13 #[fv] w fun e w' => ∃ p P S, e = .returned (.tuple #[.pointer (some ⟨p, 0, none⟩), .bool true]) ∧ OpensTo w w' file p P S := by
  obtain ⟨fa, fcap, hfv⟩ := row_form hf.row
  have hlt : ∀ k, fv.ownBlock = some k → k < w.heap.size := fun k hk => (hf.row.lt k hk).2
  obtain ⟨N0, E, hO⟩ := opened_of hf.lens hgood
  have hOV := hO.vol
  have h7 := hOV.file.seven
  have h8 := hOV.file.most
  have h6 := hOV.file.six
  have hrl : (look file).roots.length ≤ 5 := by rw [hO.roots]; have := hOV.file.ents.len; simp [rsOf]; omega
  have hr0 : 0 < (look file).roots.length := by rw [hO.roots]; simp [rsOf]
  have hin : ∀ i, i < (look file).roots.length → InFile (look file).L (rootOf (look file) i).N := by
    intro i hi
    unfold rootOf
    rw [hO.L, hO.roots]
    rw [hO.roots] at hi
    apply hOV.sound.inFile
    rw [List.getD_eq_getElem?_getD, List.getElem?_eq_getElem hi]
    exact List.getElem_mem hi
  have hLl : (look file).L.length = (openV file).C.length := by rw [hO.L]
  have hlow : Low 1000000 (look file) := fun n => by have := hO.low n; omega
  have hfo : ∀ f ∈ firstsOf (openV file), FirstOK (openV file) f := fun f hf => by rw [hOV.firsts] at hf; exact hOV.sound.firstOK hf
  have hlk := hO.bad
  have hst := hO.state
  have hDl : (diskOf (look file)).L.length ≤ 4 := by rw [hO.disk]; exact hOV.file.ents.dsk
  have HO := hide hO
  have HF := hide hf
  have HG := hide hG
  have Hlt := hide hlt
  have Hin := hide hin
  have Hlow := hide hlow
  have Hfo := hide hfo
  have HLl := hide hLl
  subst hfv
  clear hf hG hlt hO hOV hin hlow hfo hLl
  go_enter Tryz.func13, Tryz.ntmps13
  go_wp2_with fail
  refine (lent_any w _ file (unhide HF) hl).mono ?_
  rintro e w1 ⟨g, cap, rfl, hg, hL1, b1⟩
  have hgl : g < w1.heap.size := (hL1.row.lt g rfl).2
  have B1 := hide b1
  have L1 := hide hL1
  clear b1 hL1
  go_wp2_with fail
  refine (diskOpen_any w1 _ file (unhide L1).file ((unhide HG).below (unhide B1)) (by omega)).mono ?_
  rintro e w2 ⟨(⟨n', hn', rfl⟩ | ⟨_, d, v, Cv, Lv, rfl, hD2, hfoot⟩), b2⟩
  · rw [hgood] at hn'; omega
  have B2 := hide ((unhide B1).trans (b2.mono (unhide B1).size))
  have L2 := hide ((unhide L1).below b2)
  have D2 := hide hD2
  have hw1 : w.heap.size ≤ w1.heap.size := (unhide B1).size
  have Hfoot := hide hfoot
  clear b2 L1 hD2 hfoot
  go_wp2_with fail
  refine (back_any w2 g cap _ file (unhide L2) ((unhide HF).kept (S := fun _ => False) (Kept.of_below (unhide B2)) (fun _ _ => id)) (fun k hk => by have := unhide Hlt k hk; omega) hl).mono ?_
  rintro e w3 ⟨rfl, k3⟩
  have hB3 : Below w.heap.size w w3 := by
    have hb := unhide B2
    exact ⟨k3.os.trans hb.os, k3.tape.trans hb.tape, k3.output.trans hb.output, Nat.le_trans hb.size k3.size, fun j hj => by
      rw [k3.block j (Nat.lt_of_lt_of_le hj hb.size) (by omega)]; exact hb.block j hj⟩
  have B3 := hide hB3
  have D3 := hide ((unhide D2).kept k3 (fun k hk e => by have := unhide Hfoot k hk; omega))
  clear k3 hB3 L2 B2 B1 D2
  go_wp2_with fail
  refine (look_any w3 _ file ((unhide HF).kept (S := fun _ => False) (Kept.of_below (unhide B3)) (fun _ _ => id)) hl).mono ?_
  rintro e w4 ⟨rfl, fl, fr, hLk⟩
  have cb := hLk.at'.cBad
  rw [hlk] at cb
  have F4 := hide hLk.at'
  have hfr : ∀ g, fl.ownBlock = some g → w3.heap.size ≤ g := hLk.fresh
  have Hfr := hide hfr
  have D4 := hide ((unhide D3).below hLk.below)
  have B4 := hide ((unhide B3).trans (hLk.below.mono (unhide B3).size))
  have hfoot3 : ∀ k, dfoot d v Cv Lv k → k < w3.heap.size := (unhide D3).foot_lt
  have Hf3 := hide hfoot3
  have hw3 : w.heap.size ≤ w3.heap.size := (unhide B3).size
  clear hLk B3 D3 hfr hfoot3
  generalize w3.heap.size = f at *
  go_wp2_with fail
  refine (diskCheck_any w4 d v Cv Lv (openV file) (unhide D4) (by omega) h8 (unhide Hfo)).mono ?_
  rintro e w5 ⟨rfl, b5⟩
  rw [hst]
  have F5 := hide ((unhide F4).below b5)
  have D5 := hide ((unhide D4).below b5)
  have B5 := hide ((unhide B4).trans (b5.mono (unhide B4).size))
  have hw5 : w4.heap.size ≤ w5.heap.size := b5.size
  clear b5 F4 D4 B4 cb
  go_wp2_with fail
  refine (state_any w5 f fl fr (look file) (unhide F5) (by rw [unhide HLl]; exact h8) (by rw [unhide HLl]; omega) hrl (unhide Hin) (unhide Hlow)).mono ?_
  rintro e w6 ⟨rfl, b6⟩
  have F6 := hide ((unhide F5).below b6)
  have D6 := hide ((unhide D5).below b6)
  have B6 := hide ((unhide B5).trans (b6.mono (unhide B5).size))
  clear b6 F5 D5 B5
  unfold stateCells
  go_wp2_with fail
  have hT : LisT f fl w6.drew := (unhide F6).cLv
  have hTb : ∀ W, Below w6.heap.size w6 W → LisT f fl W := fun W hb => ((unhide F6).below hb).cLv
  have HTb := hide hTb
  clear hTb
  refine wp_region_L (LisT f fl) 10 (by kernel_rfl) ?_
  refine wpAnyL_take (i := 0) (v := ?_) rfl (by kernel_rfl) (by kernel_rfl) (by kernel_rfl) (by kernel_rfl) (fun _ _ _ h => h) (Or.inl ⟨by rfl, fun W hW => ?_⟩) hT ?_
  rotate_left 1
  · (unfold LisT at hW; go_simp; with_reducible rfl)
  simp only [Act.put, List.setIfInBounds_toArray, List.set_cons_zero, List.set_cons_succ]
  refine wpAnyL_take (i := 1) (v := ?_) rfl (by kernel_rfl) (by kernel_rfl) (by kernel_rfl) (by kernel_rfl) (fun _ _ _ h => h) (Or.inl ⟨by rfl, fun W hW => ?_⟩) hT ?_
  rotate_left 1
  · (unfold LisT at hW; go_simp; with_reducible rfl)
  simp only [Act.put, List.setIfInBounds_toArray, List.set_cons_zero, List.set_cons_succ]
  refine wpAnyL_take (i := 3) (v := ?_) rfl (by kernel_rfl) (by kernel_rfl) (by kernel_rfl) (by kernel_rfl) (fun _ _ _ h => h) (Or.inl ⟨by rfl, fun W hW => ?_⟩) hT ?_
  rotate_left 1
  · (unfold LisT at hW; go_simp; with_reducible rfl)
  simp only [Act.put, List.setIfInBounds_toArray, List.set_cons_zero, List.set_cons_succ]
  refine wpAnyL_take (i := 4) (v := ?_) rfl (by kernel_rfl) (by kernel_rfl) (by kernel_rfl) (by kernel_rfl) (fun _ _ _ h => h) (Or.inl ⟨by rfl, fun W hW => ?_⟩) hT ?_
  rotate_left 1
  · (unfold LisT at hW; go_simp; with_reducible rfl)
  simp only [Act.put, List.setIfInBounds_toArray, List.set_cons_zero, List.set_cons_succ]
  refine wpAnyL_take (i := 5) (v := ?_) rfl (by kernel_rfl) (by kernel_rfl) (by kernel_rfl) (by kernel_rfl) (fun _ _ _ h => h) (Or.inl ⟨by rfl, fun W hW => ?_⟩) hT ?_
  rotate_left 1
  · (unfold LisT at hW; go_simp; with_reducible rfl)
  simp only [Act.put, List.setIfInBounds_toArray, List.set_cons_zero, List.set_cons_succ]
  refine wpAnyL_take (i := 6) (v := ?_) rfl (by kernel_rfl) (by kernel_rfl) (by kernel_rfl) (by kernel_rfl) (fun _ _ _ h => h) (Or.inl ⟨by rfl, fun W hW => ?_⟩) hT ?_
  rotate_left 1
  · (unfold LisT at hW; go_simp; with_reducible rfl)
  simp only [Act.put, List.setIfInBounds_toArray, List.set_cons_zero, List.set_cons_succ]
  refine wpAnyL_take (i := 7) (v := ?_) rfl (by kernel_rfl) (by kernel_rfl) (by kernel_rfl) (by kernel_rfl) (fun _ _ _ h => h) (Or.inl ⟨by rfl, fun W hW => ?_⟩) hT ?_
  rotate_left 1
  · (unfold LisT at hW; go_simp; with_reducible rfl)
  simp only [Act.put, List.setIfInBounds_toArray, List.set_cons_zero, List.set_cons_succ]
  refine wpAnyL_one (i := 2) (by kernel_rfl) rfl fun K2 hK2 => ?_
  go_simp
  go_at_call 43
  refine (disk_any w6.drew f fl fr (look file) ((unhide F6).below (Below.refl _ w6).drew) (unhide Hin) (by rw [unhide HLl]; exact h8) hr0 (by omega)).mono ?_
  rintro e w7 ⟨dy, Qv, rfl, hdy, hDY, hQv, b7⟩
  have hb7 : Below w6.heap.size w6 w7 := ((Below.refl _ w6).drew).trans b7
  have B7 := hide hb7
  have DY := hide hDY
  have hdy6 : w6.heap.size ≤ dy := hdy
  have HQv : Hid (∀ g, Qv.ownBlock = some g → w6.heap.size ≤ g) := hQv
  clear b7 hDY hQv hdy hb7
  refine hK2 _ _ (Or.inr (unhide HTb _ (unhide B7))) ?_
  try simp only [Act.put, List.setIfInBounds_toArray, List.set_cons_zero, List.set_cons_succ]
  refine wpAnyL_one (i := 8) (by kernel_rfl) rfl fun K8 hK8 => ?_
  go_simp
  go_at_call 44
  refine (exact_any w7 f fl fr (look file) ((unhide F6).below (unhide B7)) (by rw [unhide HLl]; exact h8) (by rw [unhide HLl]; omega) hrl (unhide Hin) (unhide Hlow)).mono ?_
  rintro e w8 ⟨rfl, b8⟩
  have B8 := hide ((unhide B7).trans (b8.mono (unhide B7).size))
  have DY8 := hide ((unhide DY).below b8)
  clear b8 DY
  refine hK8 _ _ (Or.inr (unhide HTb _ (unhide B8))) ?_
  try simp only [Act.put, List.setIfInBounds_toArray, List.set_cons_zero, List.set_cons_succ]
  refine wpAnyL_one (i := 9) (by kernel_rfl) rfl fun K9 hK9 => ?_
  go_simp
  go_at_call 32
  have hap : ∀ g, fl.ownBlock = some g → ¬ foot v Cv Lv g := fun g hg hfo => by
    have h1 := unhide Hfr g hg
    have h2 := unhide Hf3 g (Or.inr hfo)
    omega
  have F8 := (unhide F6).below (unhide B8)
  refine (begun_all w8 d v Cv Lv (openV file) dy Qv fl (diskOf (look file)) (look file).L ((unhide D6).below (unhide B8)) (unhide DY8) ⟨F8.rowL, F8.lens⟩ hap (by omega) (Nat.zero_le _) (exactB (look file))).mono ?_
  rintro e w9 ⟨p, rfl, Mv, m, hm1, hm2, S1, hP9, b9, hS1⟩
  have B9 := hide ((unhide B8).trans (b9.mono (unhide B8).size))
  have P9 := hide hP9
  have HS1 := hide hS1
  have Hm1 := hide hm1
  have Hm2 := hide hm2
  clear b9 hP9 hS1 hap F8 hm1 hm2
  refine hK9 _ _ (Or.inr (unhide HTb _ (unhide B9))) ?_
  try simp only [Act.put, List.setIfInBounds_toArray, List.set_cons_zero, List.set_cons_succ]
  refine wpAnyL_one (i := 10) (by kernel_rfl) rfl fun K10 hK10 => ?_
  go_simp
  refine hK10 _ _ (Or.inr (unhide HTb _ (unhide B9))) ?_
  try simp only [Act.put, List.setIfInBounds_toArray, List.set_cons_zero, List.set_cons_succ]
  refine wpAnyL_done (by kernel_rfl) ?_ _
  clear hT
  have hSt : Stands ⟨d, v, dy, Cv, Lv, Qv, Mv, fl, exactB (look file), openV file, diskOf (look file), (look file).L, [m]⟩ N0 E :=
    ⟨by
      show Vol (look file).L (openV file) N0 E
      rw [(unhide HO).L]
      exact (unhide HO).vol, (unhide HO).disk.symm, (unhide HO).exact⟩
  have Hst := hide (stands_nil w9 p _ S1 N0 E (unhide P9) hSt rfl (by show (look file).L.length ≤ 1000; rw [unhide HLl]; omega) (by simp))
  clear hSt
  go_wp2_with fail
  refine (unhide Hst).mono ?_
  rintro e w10 ⟨rfl, Mv', m', hl', hD', S', hP', hk', hS'⟩
  have hw6 : w.heap.size ≤ w6.heap.size := (unhide B6).size
  have hw8 : w6.heap.size ≤ w8.heap.size := (unhide B8).size
  have hw9 : w6.heap.size ≤ w9.heap.size := (unhide B9).size
  have hS1 : ∀ k, S1 k → w.heap.size ≤ k := fun k hk => by
    rcases unhide HS1 k hk with (x | x | x | x) | x
    · have := unhide Hfoot k x; omega
    · omega
    · have := unhide HQv k x; omega
    · have := unhide Hfr k x; omega
    · omega
  have hBw : Below w.heap.size w w9 := (unhide B6).trans ((unhide B9).mono (unhide B6).size)
  have hfin : OpensTo w w10 file p { (⟨d, v, dy, Cv, Lv, Qv, Mv, fl, exactB (look file), openV file, diskOf (look file), (look file).L, [m]⟩ : PairR) with Mv := Mv', ms := [m] ++ [m'] } S' := by
    refine ⟨hP', rfl, (unhide HO).L, rfl, rfl, rfl, ?_, ?_, fun k hk => ?_, ?_⟩
    · intro q hq
      rcases List.mem_append.1 hq with x | x
      · rw [List.mem_singleton.1 x]; exact unhide Hm1
      · rw [List.mem_singleton.1 x]; exact hl'
    · intro q hq
      rcases List.mem_append.1 hq with x | x
      · rw [List.mem_singleton.1 x]; exact unhide Hm2
      · rw [List.mem_singleton.1 x]; exact hD'
    · rcases hS' k hk with x | x
      · exact hS1 k x
      · omega
    · exact ⟨hk'.os.trans hBw.os, hk'.tape.trans hBw.tape, hk'.output.trans hBw.output, Nat.le_trans hBw.size hk'.size, fun j hj => by
        rw [hk'.block j (Nat.lt_of_lt_of_le hj hBw.size) (fun hx => by have := hS1 j hx; omega)]; exact hBw.block j hj⟩
  have Hfin := hide hfin
  clear hfin hP' hk' hS' hS1 hBw hl' hD'
  go_wp2
  refine bodyPost_ret (results_tmp2 rfl _ _ _) rfl ?_
  exact ⟨p, _, _, rfl, unhide Hfin⟩
end Go.Proofs.YtknjjjenklfeoaaGreatDoor
