import Derived.Test.YtknjjjenklfeoaaGreatDoorP26
import Derived.Test.YtknjjjenklfeoaaGreatDoorP09
import Derived.Test.YtknjjjenklfeoaaGreatDoorP05
import Derived.Lib.ConvBytes
import Derived.Test.YtknjjjenklfeoaaGreatDoorP14
/-
  tellSpot: a place of a table, held against what was told ahead of it.
-/
namespace Go.Proofs.YtknjjjenklfeoaaGreatDoor
open Go.RowKit
attribute [local go_sem] Oper.semAt_some
def spotNo (M : List Nat) (T first t i x : Nat) : Bool := if t = first then (decide (2 ≤ i) || noTellM M T (x % 32768) 2) else noTellM M T (x % 32768) 3
def spotKind (first t : Nat) : Nat := if t = first then 2 else 3
set_option maxHeartbeats 1000000 in
set_option maxRecDepth 100000 in
theorem spot_no (w : World) (b T : Nat) (M : List Nat) (first t i x : Nat) (h : RolesAt w b T M) (hG : Glob w) (hT : T ≤ 256) (hx : x < 65536) (hM : ∀ i, M.getD i 0 < 256) (hno : spotNo M T first t i x = true) :
    Calls Tryz.prog 153 #[.pointer (some ⟨b, 0, none⟩), .agg #[.int .i64 (t : Nat), .int .i64 (i : Nat), .int .u16 (x : Nat)], .int .i64 (first : Nat)] w fun e w' => (∃ x, isIface x ∧ e = .returned x) ∧ Below w.heap.size w w' := by
  have hb : Below w.heap.size w (w.alloc (.cells #[.int .i64 (t : Nat), .int .i64 (i : Nat), .int .u16 (x : Nat)] 219)) := (Below.refl _ _).alloc (Nat.le_refl _) _
  have HB := hide hb
  have h1 : RolesAt (w.alloc (.cells #[.int .i64 (t : Nat), .int .i64 (i : Nat), .int .u16 (x : Nat)] 219)) b T M := h.below hb
  have hG1 := hG.below hb
  clear h hG
  obtain ⟨t8, v8, g8⟩ := hG1.err 8 (by omega)
  have Hc := hide (fun W => cluster_of x hx W)
  have hlt : x % 32768 < 65536 := by omega
  unfold spotNo at hno
  by_cases hf : t = first
  · rw [if_pos hf] at hno
    subst hf
    have df : (((t : Nat) : Int) != ((t : Nat) : Int)) = false := by rw [bne_eq_false_iff_eq]
    by_cases h2 : 2 ≤ i
    · have d2 : (2 : Int) ≤ ((i : Nat) : Int) := by omega
      clear hno Hc h1 hG1 hb
      go_enter Tryz.func153, Tryz.ntmps153
      go_wp2
      go_ret
      exact ⟨⟨_, ⟨_, _, rfl⟩, rfl⟩, unhide HB⟩
    · have d2 : ¬ (2 : Int) ≤ ((i : Nat) : Int) := by omega
      rw [decide_eq_false h2, Bool.false_or] at hno
      have Ht := hide (roles_no _ b T M (x % 32768) 2 h1 hG1 hT hlt (by omega) hM hno)
      clear hno h1 hG1 hb
      generalize x % 32768 = c at *
      go_enter Tryz.func153, Tryz.ntmps153
      go_wp2_with fail
      refine (unhide Hc _).mono ?_
      rintro e w1 ⟨rfl, rfl⟩
      go_wp2_with fail
      refine (unhide Ht).mono ?_
      rintro e w1 ⟨⟨y, hy, rfl⟩, rfl⟩
      go_wp2
      go_ret
      exact ⟨⟨_, hy, rfl⟩, unhide HB⟩
  · rw [if_neg hf] at hno
    have df : (((t : Nat) : Int) != ((first : Nat) : Int)) = true := by rw [bne_iff_ne]; omega
    have Ht := hide (roles_no _ b T M (x % 32768) 3 h1 hG1 hT hlt (by omega) hM hno)
    clear hno h1 hG1 hb
    generalize x % 32768 = c at *
    go_enter Tryz.func153, Tryz.ntmps153
    go_wp2_with fail
    refine (unhide Hc _).mono ?_
    rintro e w1 ⟨rfl, rfl⟩
    go_wp2_with fail
    refine (unhide Ht).mono ?_
    rintro e w1 ⟨⟨y, hy, rfl⟩, rfl⟩
    go_wp2
    go_ret
    exact ⟨⟨_, hy, rfl⟩, unhide HB⟩
set_option maxHeartbeats 1000000 in
set_option maxRecDepth 100000 in
theorem spot_yes (w : World) (b T : Nat) (M : List Nat) (first t i x : Nat) (h : RolesAt w b T M) (hT : T ≤ 256) (hx : x < 65536) (hM : ∀ i, M.getD i 0 < 256) (hno : spotNo M T first t i x = false) :
    Calls Tryz.prog 153 #[.pointer (some ⟨b, 0, none⟩), .agg #[.int .i64 (t : Nat), .int .i64 (i : Nat), .int .u16 (x : Nat)], .int .i64 (first : Nat)] w fun e w' => e = .returned .nilIface ∧ RolesAt w' b T (M.set (x % 32768) (spotKind first t)) ∧ Kept (fun k => k = b) w w' := by
  have hb : Below w.heap.size w (w.alloc (.cells #[.int .i64 (t : Nat), .int .i64 (i : Nat), .int .u16 (x : Nat)] 219)) := (Below.refl _ _).alloc (Nat.le_refl _) _
  have h1 : RolesAt (w.alloc (.cells #[.int .i64 (t : Nat), .int .i64 (i : Nat), .int .u16 (x : Nat)] 219)) b T M := h.below hb
  have HB := hide hb
  have H1 := hide h1
  clear h
  have Hc := hide (fun W => cluster_of x hx W)
  unfold spotNo at hno
  unfold spotKind
  by_cases hf : t = first
  · rw [if_pos hf] at hno ⊢
    subst hf
    have df : (((t : Nat) : Int) != ((t : Nat) : Int)) = false := by rw [bne_eq_false_iff_eq]
    rw [Bool.or_eq_false_iff] at hno
    have h2 := of_decide_eq_false hno.1
    have d2 : ¬ (2 : Int) ≤ ((i : Nat) : Int) := by omega
    have Ht := hide (roles_yes _ b T M (x % 32768) 2 h1 hT (by omega) hM hno.2)
    clear hno h1 hb
    generalize x % 32768 = c at *
    go_enter Tryz.func153, Tryz.ntmps153
    go_wp2_with fail
    refine (unhide Hc _).mono ?_
    rintro e w1 ⟨rfl, rfl⟩
    go_wp2_with fail
    refine (unhide Ht).mono ?_
    rintro e w1 ⟨rfl, rfl⟩
    go_wp2
    go_ret
    exact ⟨rfl, (unhide H1).put _ _, (Kept.of_below (unhide HB)).trans (Kept.only _ _ _ _)⟩
  · rw [if_neg hf] at hno ⊢
    have df : (((t : Nat) : Int) != ((first : Nat) : Int)) = true := by rw [bne_iff_ne]; omega
    have Ht := hide (roles_yes _ b T M (x % 32768) 3 h1 hT (by omega) hM hno)
    clear hno h1 hb
    generalize x % 32768 = c at *
    go_enter Tryz.func153, Tryz.ntmps153
    go_wp2_with fail
    refine (unhide Hc _).mono ?_
    rintro e w1 ⟨rfl, rfl⟩
    go_wp2_with fail
    refine (unhide Ht).mono ?_
    rintro e w1 ⟨rfl, rfl⟩
    go_wp2
    go_ret
    exact ⟨rfl, (unhide H1).put _ _, (Kept.of_below (unhide HB)).trans (Kept.only _ _ _ _)⟩
end Go.Proofs.YtknjjjenklfeoaaGreatDoor

/-
  checkHead: is the head as it must be?
-/
namespace Go.Proofs.YtknjjjenklfeoaaGreatDoor
open Go.RowKit
attribute [local go_sem ↓] loadVar_clus storeVar_clus zeroValue_clus loadVar_tab storeVar_tab zeroValue_tab loadVar_cnt storeVar_cnt zeroValue_cnt loadVar_head storeVar_head zeroValue_head build_head buildSlice_clus loadVar_wr storeVar_wr zeroValue_wr build_wr buildSlice_wr equalIn_clus
attribute [local go_sem] run_loadClus run_storeClus run_zeroClus run_storeClus_new run_loadClus_new zc_length run_loadTab run_storeTab run_zeroTab run_storeTab_new run_loadTab_new zt_length run_loadCnt run_storeCnt run_zeroCnt run_storeCnt_new run_loadCnt_new zk_length run_loadHead run_storeHead run_zeroHead run_storeHead_new run_bHead HasAt_drew cellsAt_drew HasAt_drewN cellsAt_drewN run_bsClus run_loadWr run_zeroWr run_storeWr run_storeWr_new run_bWr0 run_bsWr
attribute [local go_sem] Oper.semAt_some
/-- The head is what the program would write, and the file is as long as it may be. -/
structure HeadP (file : List Clus) : Prop where
  six : 6 ≤ file.length
  same : headBytes (num (cl file 0) 4) (num (cl file 0) 6) = cl file 0
  seven : 7 ≤ num (cl file 0) 4
  most : num (cl file 0) 4 ≤ 256
  le : file.length ≤ num (cl file 0) 4
set_option maxHeartbeats 1000000 in
set_option maxRecDepth 100000 in
theorem checkHead_short (w : World) (fv : Value) (file : List Clus) (hf : FRow w fv file) (hG : Glob w) (h6 : file.length ≤ 5) :
    Calls Tryz.prog 90 #[fv] w fun e w' => (∃ x, isIface x ∧ e = .returned (faultV 0 x)) ∧ Below w.heap.size w w' := by
  obtain ⟨t0, v0, g0⟩ := hG.err 0 (by omega)
  obtain ⟨a, cap, rfl⟩ := row_form hf.row
  have d6 : ((file.length : Nat) : Int) ≤ 5 := by omega
  go_enter Tryz.func90, Tryz.ntmps90
  go_wp2
  go_ret
  exact ⟨⟨_, ⟨_, _, rfl⟩, rfl⟩, Below.refl _ _⟩
set_option maxHeartbeats 2000000 in
set_option maxRecDepth 100000 in
theorem checkHead_form (w : World) (fv : Value) (file : List Clus) (hf : FRow w fv file) (hG : Glob w) (h6 : 6 ≤ file.length) (hm : file.length ≤ 1000000)
    (hne : headBytes (num (cl file 0) 4) (num (cl file 0) 6) ≠ cl file 0) :
    Calls Tryz.prog 90 #[fv] w fun e w' => (∃ x, isIface x ∧ e = .returned (faultV 0 x)) ∧ Below w.heap.size w w' := by
  have d6 : ¬ ((file.length : Nat) : Int) ≤ 5 := by omega
  have hlen0 := cl_length hf.lens (k := 0) (by omega)
  have Hh : Hid (∀ W, _) := fun W => headOf_any W (cl file 0) hlen0
  have hx4 := num_lt (cl file 0) 4
  have hx6 := num_lt (cl file 0) 6
  obtain ⟨g, cap, rfl, hcap⟩ := row_some hf.row (by omega)
  have l1 := row_has hf.row hf.lens 0 (by omega)
  have l2 := row_cells hf.row hf.lens 0 (by omega)
  simp only [Nat.zero_mul] at l1 l2
  have hli : (0 : Int) < (file.length : Int) := by omega
  have HF := hide hf
  have HL := hide (fun W (hb : Below w.heap.size w W) => (⟨row_has (hf.kept (S := fun _ => False) (Kept.of_below hb) (fun _ _ => id)).row hf.lens 0 (by omega), row_cells (hf.kept (S := fun _ => False) (Kept.of_below hb) (fun _ _ => id)).row hf.lens 0 (by omega)⟩ : _ ∧ _))
  simp only [Nat.zero_mul] at HL
  have HG := hide hG
  clear hf hG
  generalize cl file 0 = c at *
  generalize num c 4 = T at *
  generalize num c 6 = N at *
  have Hq := hide hne
  clear hne
  have hbl : (headBytes T N).length = 64 := headBytes_length T N
  go_enter Tryz.func90, Tryz.ntmps90
  go_wp2_with fail
  refine (unhide Hh _).mono ?_
  rintro e w1 ⟨rfl, hb1⟩
  have HB1 := hide (hb1.alloc hb1.size (.cells (hv T N).toArray 128))
  have HX := hide (heap_alloc_new w1 (.cells (hv T N).toArray 128))
  clear hb1 l1 l2 Hh
  go_wp2_with fail
  generalize hW2 : w1.alloc (.cells (hv T N).toArray 128) = w2 at *
  clear hW2
  have hx0 : ∀ d os, (Go.Sort.grow (redrawn w2 d) os).heap[w1.heap.size]? = some (.cells (hv T N).toArray 128 (0, 0)) := fun d os => ((below_regrown w2 d os).block _ (blk_lt (unhide HX))).trans (unhide HX)
  have k1 : ∀ d os, HasAt (Go.Sort.grow (redrawn w2 d) os) w1.heap.size 0 2 := fun d os => blk_has (hx0 d os) (hv_length _ _)
  have k2 : ∀ d os, cellsAt (Go.Sort.grow (redrawn w2 d) os) w1.heap.size 0 2 = hv T N := fun d os => blk_cells (hx0 d os) (hv_length _ _)
  have k3 : ∀ d os, (Go.Sort.grow (redrawn w2 d) os).cell? ⟨w1.heap.size, 0, none⟩ = some (.int .i64 (T : Nat)) := fun d os => by rw [cell_blk (hx0 d os)]; rfl
  have l1 : ∀ d os, HasAt (Go.Sort.grow (redrawn w2 d) os) g 0 64 := fun d os => (unhide HL _ ((unhide HB1).trans ((below_regrown w2 d os).mono (unhide HB1).size))).1
  have l2 : ∀ d os, cellsAt (Go.Sort.grow (redrawn w2 d) os) g 0 64 = cv c := fun d os => (unhide HL _ ((unhide HB1).trans ((below_regrown w2 d os).mono (unhide HB1).size))).2
  have Hn := hide (fun d os => headCluster_any (Go.Sort.grow (redrawn w2 d) os) T N hx4 hx6)
  have he : ∀ w, (eqClus (.agg (cv (headBytes T N)).toArray) (.agg (cv c).toArray)).run Tryz.prog w = .ok false w := fun w => by rw [run_eqClus hbl hlen0, decide_eq_false (unhide Hq)]
  clear hx0
  generalize headBytes T N = hb at *
  refine wp_region_quiet_below (by kernel_rfl) (by kernel_rfl) ?_
  repeat (go_big_quiet_step (exact Calls.regrown_of (unhide Hn _ _)))
  refine wpQuiet_nil ?_
  intro _ hw'
  obtain ⟨⟨dq, osq⟩, hw''⟩ := hw'
  subst hw''
  have HBq := hide ((unhide HB1).trans ((below_regrown w2 dq osq).mono (unhide HB1).size))
  have k4 := k3 dq osq
  obtain ⟨t0, v0, g0⟩ := ((unhide HG).below (unhide HBq)).err 0 (by omega)
  obtain ⟨t1, v1, g1⟩ := ((unhide HG).below (unhide HBq)).err 1 (by omega)
  clear l1 l2 k1 k2 k3 Hn he
  go_wp2
  go_ret
  exact ⟨⟨_, ⟨_, _, rfl⟩, rfl⟩, unhide HBq⟩
set_option maxHeartbeats 2000000 in
set_option maxRecDepth 100000 in
theorem checkHead_low (w : World) (fv : Value) (file : List Clus) (hf : FRow w fv file) (hG : Glob w) (h6 : 6 ≤ file.length) (hm : file.length ≤ 1000000)
    (hsame : headBytes (num (cl file 0) 4) (num (cl file 0) 6) = cl file 0) (hlow : num (cl file 0) 4 ≤ 6) :
    Calls Tryz.prog 90 #[fv] w fun e w' => (∃ x, isIface x ∧ e = .returned (faultV 0 x)) ∧ Below w.heap.size w w' := by
  have d6 : ¬ ((file.length : Nat) : Int) ≤ 5 := by omega
  have hlen0 := cl_length hf.lens (k := 0) (by omega)
  have Hh : Hid (∀ W, _) := fun W => headOf_any W (cl file 0) hlen0
  have hx4 := num_lt (cl file 0) 4
  have hx6 := num_lt (cl file 0) 6
  obtain ⟨g, cap, rfl, hcap⟩ := row_some hf.row (by omega)
  have l1 := row_has hf.row hf.lens 0 (by omega)
  have l2 := row_cells hf.row hf.lens 0 (by omega)
  simp only [Nat.zero_mul] at l1 l2
  have hli : (0 : Int) < (file.length : Int) := by omega
  have HF := hide hf
  have HL := hide (fun W (hb : Below w.heap.size w W) => (⟨row_has (hf.kept (S := fun _ => False) (Kept.of_below hb) (fun _ _ => id)).row hf.lens 0 (by omega), row_cells (hf.kept (S := fun _ => False) (Kept.of_below hb) (fun _ _ => id)).row hf.lens 0 (by omega)⟩ : _ ∧ _))
  simp only [Nat.zero_mul] at HL
  have HG := hide hG
  clear hf hG
  generalize cl file 0 = c at *
  generalize num c 4 = T at *
  generalize num c 6 = N at *
  have dl : decide (((T : Nat) : Int) ≤ 6) = true := decide_eq_true (by omega)
  have Hq := hide hsame
  clear hsame
  have hbl : (headBytes T N).length = 64 := headBytes_length T N
  go_enter Tryz.func90, Tryz.ntmps90
  go_wp2_with fail
  refine (unhide Hh _).mono ?_
  rintro e w1 ⟨rfl, hb1⟩
  have HB1 := hide (hb1.alloc hb1.size (.cells (hv T N).toArray 128))
  have HX := hide (heap_alloc_new w1 (.cells (hv T N).toArray 128))
  clear hb1 l1 l2 Hh
  go_wp2_with fail
  generalize hW2 : w1.alloc (.cells (hv T N).toArray 128) = w2 at *
  clear hW2
  have hx0 : ∀ d os, (Go.Sort.grow (redrawn w2 d) os).heap[w1.heap.size]? = some (.cells (hv T N).toArray 128 (0, 0)) := fun d os => ((below_regrown w2 d os).block _ (blk_lt (unhide HX))).trans (unhide HX)
  have k1 : ∀ d os, HasAt (Go.Sort.grow (redrawn w2 d) os) w1.heap.size 0 2 := fun d os => blk_has (hx0 d os) (hv_length _ _)
  have k2 : ∀ d os, cellsAt (Go.Sort.grow (redrawn w2 d) os) w1.heap.size 0 2 = hv T N := fun d os => blk_cells (hx0 d os) (hv_length _ _)
  have k3 : ∀ d os, (Go.Sort.grow (redrawn w2 d) os).cell? ⟨w1.heap.size, 0, none⟩ = some (.int .i64 (T : Nat)) := fun d os => by rw [cell_blk (hx0 d os)]; rfl
  have l1 : ∀ d os, HasAt (Go.Sort.grow (redrawn w2 d) os) g 0 64 := fun d os => (unhide HL _ ((unhide HB1).trans ((below_regrown w2 d os).mono (unhide HB1).size))).1
  have l2 : ∀ d os, cellsAt (Go.Sort.grow (redrawn w2 d) os) g 0 64 = cv c := fun d os => (unhide HL _ ((unhide HB1).trans ((below_regrown w2 d os).mono (unhide HB1).size))).2
  have Hn := hide (fun d os => headCluster_any (Go.Sort.grow (redrawn w2 d) os) T N hx4 hx6)
  have he : ∀ w, (eqClus (.agg (cv (headBytes T N)).toArray) (.agg (cv c).toArray)).run Tryz.prog w = .ok true w := fun w => by rw [run_eqClus hbl hlen0, decide_eq_true (unhide Hq)]
  clear hx0
  generalize headBytes T N = hb at *
  refine wp_region_quiet_below (by kernel_rfl) (by kernel_rfl) ?_
  repeat (go_big_quiet_step (exact Calls.regrown_of (unhide Hn _ _)))
  refine wpQuiet_nil ?_
  intro _ hw'
  obtain ⟨⟨dq, osq⟩, hw''⟩ := hw'
  subst hw''
  have HBq := hide ((unhide HB1).trans ((below_regrown w2 dq osq).mono (unhide HB1).size))
  have k4 := k3 dq osq
  obtain ⟨t0, v0, g0⟩ := ((unhide HG).below (unhide HBq)).err 0 (by omega)
  obtain ⟨t1, v1, g1⟩ := ((unhide HG).below (unhide HBq)).err 1 (by omega)
  clear l1 l2 k1 k2 k3 Hn he
  go_wp2
  go_ret
  exact ⟨⟨_, ⟨_, _, rfl⟩, rfl⟩, unhide HBq⟩
set_option maxHeartbeats 2000000 in
set_option maxRecDepth 100000 in
theorem checkHead_high (w : World) (fv : Value) (file : List Clus) (hf : FRow w fv file) (hG : Glob w) (h6 : 6 ≤ file.length) (hm : file.length ≤ 1000000)
    (hsame : headBytes (num (cl file 0) 4) (num (cl file 0) 6) = cl file 0) (hhi : 256 < num (cl file 0) 4) :
    Calls Tryz.prog 90 #[fv] w fun e w' => (∃ x, isIface x ∧ e = .returned (faultV 0 x)) ∧ Below w.heap.size w w' := by
  have d6 : ¬ ((file.length : Nat) : Int) ≤ 5 := by omega
  have hlen0 := cl_length hf.lens (k := 0) (by omega)
  have Hh : Hid (∀ W, _) := fun W => headOf_any W (cl file 0) hlen0
  have hx4 := num_lt (cl file 0) 4
  have hx6 := num_lt (cl file 0) 6
  obtain ⟨g, cap, rfl, hcap⟩ := row_some hf.row (by omega)
  have l1 := row_has hf.row hf.lens 0 (by omega)
  have l2 := row_cells hf.row hf.lens 0 (by omega)
  simp only [Nat.zero_mul] at l1 l2
  have hli : (0 : Int) < (file.length : Int) := by omega
  have HF := hide hf
  have HL := hide (fun W (hb : Below w.heap.size w W) => (⟨row_has (hf.kept (S := fun _ => False) (Kept.of_below hb) (fun _ _ => id)).row hf.lens 0 (by omega), row_cells (hf.kept (S := fun _ => False) (Kept.of_below hb) (fun _ _ => id)).row hf.lens 0 (by omega)⟩ : _ ∧ _))
  simp only [Nat.zero_mul] at HL
  have HG := hide hG
  clear hf hG
  generalize cl file 0 = c at *
  generalize num c 4 = T at *
  generalize num c 6 = N at *
  have dl : decide (((T : Nat) : Int) ≤ 6) = false := decide_eq_false (by omega)
  have dh : decide ((256 : Int) < ((T : Nat) : Int)) = true := decide_eq_true (by omega)
  have Hq := hide hsame
  clear hsame
  have hbl : (headBytes T N).length = 64 := headBytes_length T N
  go_enter Tryz.func90, Tryz.ntmps90
  go_wp2_with fail
  refine (unhide Hh _).mono ?_
  rintro e w1 ⟨rfl, hb1⟩
  have HB1 := hide (hb1.alloc hb1.size (.cells (hv T N).toArray 128))
  have HX := hide (heap_alloc_new w1 (.cells (hv T N).toArray 128))
  clear hb1 l1 l2 Hh
  go_wp2_with fail
  generalize hW2 : w1.alloc (.cells (hv T N).toArray 128) = w2 at *
  clear hW2
  have hx0 : ∀ d os, (Go.Sort.grow (redrawn w2 d) os).heap[w1.heap.size]? = some (.cells (hv T N).toArray 128 (0, 0)) := fun d os => ((below_regrown w2 d os).block _ (blk_lt (unhide HX))).trans (unhide HX)
  have k1 : ∀ d os, HasAt (Go.Sort.grow (redrawn w2 d) os) w1.heap.size 0 2 := fun d os => blk_has (hx0 d os) (hv_length _ _)
  have k2 : ∀ d os, cellsAt (Go.Sort.grow (redrawn w2 d) os) w1.heap.size 0 2 = hv T N := fun d os => blk_cells (hx0 d os) (hv_length _ _)
  have k3 : ∀ d os, (Go.Sort.grow (redrawn w2 d) os).cell? ⟨w1.heap.size, 0, none⟩ = some (.int .i64 (T : Nat)) := fun d os => by rw [cell_blk (hx0 d os)]; rfl
  have l1 : ∀ d os, HasAt (Go.Sort.grow (redrawn w2 d) os) g 0 64 := fun d os => (unhide HL _ ((unhide HB1).trans ((below_regrown w2 d os).mono (unhide HB1).size))).1
  have l2 : ∀ d os, cellsAt (Go.Sort.grow (redrawn w2 d) os) g 0 64 = cv c := fun d os => (unhide HL _ ((unhide HB1).trans ((below_regrown w2 d os).mono (unhide HB1).size))).2
  have Hn := hide (fun d os => headCluster_any (Go.Sort.grow (redrawn w2 d) os) T N hx4 hx6)
  have he : ∀ w, (eqClus (.agg (cv (headBytes T N)).toArray) (.agg (cv c).toArray)).run Tryz.prog w = .ok true w := fun w => by rw [run_eqClus hbl hlen0, decide_eq_true (unhide Hq)]
  clear hx0
  generalize headBytes T N = hb at *
  refine wp_region_quiet_below (by kernel_rfl) (by kernel_rfl) ?_
  repeat (go_big_quiet_step (exact Calls.regrown_of (unhide Hn _ _)))
  refine wpQuiet_nil ?_
  intro _ hw'
  obtain ⟨⟨dq, osq⟩, hw''⟩ := hw'
  subst hw''
  have HBq := hide ((unhide HB1).trans ((below_regrown w2 dq osq).mono (unhide HB1).size))
  have k4 := k3 dq osq
  obtain ⟨t0, v0, g0⟩ := ((unhide HG).below (unhide HBq)).err 0 (by omega)
  obtain ⟨t1, v1, g1⟩ := ((unhide HG).below (unhide HBq)).err 1 (by omega)
  clear l1 l2 k1 k2 k3 Hn he
  go_wp2
  go_ret
  exact ⟨⟨_, ⟨_, _, rfl⟩, rfl⟩, unhide HBq⟩
set_option maxHeartbeats 2000000 in
set_option maxRecDepth 100000 in
theorem checkHead_long (w : World) (fv : Value) (file : List Clus) (hf : FRow w fv file) (hG : Glob w) (h6 : 6 ≤ file.length) (hm : file.length ≤ 1000000)
    (hsame : headBytes (num (cl file 0) 4) (num (cl file 0) 6) = cl file 0) (hlow : 7 ≤ num (cl file 0) 4) (hhi : num (cl file 0) 4 ≤ 256) (hle : num (cl file 0) 4 < file.length) :
    Calls Tryz.prog 90 #[fv] w fun e w' => (∃ x, isIface x ∧ e = .returned (faultV 0 x)) ∧ Below w.heap.size w w' := by
  have d6 : ¬ ((file.length : Nat) : Int) ≤ 5 := by omega
  have hlen0 := cl_length hf.lens (k := 0) (by omega)
  have Hh : Hid (∀ W, _) := fun W => headOf_any W (cl file 0) hlen0
  have hx4 := num_lt (cl file 0) 4
  have hx6 := num_lt (cl file 0) 6
  obtain ⟨g, cap, rfl, hcap⟩ := row_some hf.row (by omega)
  have l1 := row_has hf.row hf.lens 0 (by omega)
  have l2 := row_cells hf.row hf.lens 0 (by omega)
  simp only [Nat.zero_mul] at l1 l2
  have hli : (0 : Int) < (file.length : Int) := by omega
  have HF := hide hf
  have HL := hide (fun W (hb : Below w.heap.size w W) => (⟨row_has (hf.kept (S := fun _ => False) (Kept.of_below hb) (fun _ _ => id)).row hf.lens 0 (by omega), row_cells (hf.kept (S := fun _ => False) (Kept.of_below hb) (fun _ _ => id)).row hf.lens 0 (by omega)⟩ : _ ∧ _))
  simp only [Nat.zero_mul] at HL
  have HG := hide hG
  clear hf hG
  generalize cl file 0 = c at *
  generalize num c 4 = T at *
  generalize num c 6 = N at *
  have dl : decide (((T : Nat) : Int) ≤ 6) = false := decide_eq_false (by omega)
  have dh : decide ((256 : Int) < ((T : Nat) : Int)) = false := decide_eq_false (by omega)
  have dn : decide (((T : Nat) : Int) < ((file.length : Nat) : Int)) = true := decide_eq_true (by omega)
  have Hq := hide hsame
  clear hsame
  have hbl : (headBytes T N).length = 64 := headBytes_length T N
  go_enter Tryz.func90, Tryz.ntmps90
  go_wp2_with fail
  refine (unhide Hh _).mono ?_
  rintro e w1 ⟨rfl, hb1⟩
  have HB1 := hide (hb1.alloc hb1.size (.cells (hv T N).toArray 128))
  have HX := hide (heap_alloc_new w1 (.cells (hv T N).toArray 128))
  clear hb1 l1 l2 Hh
  go_wp2_with fail
  generalize hW2 : w1.alloc (.cells (hv T N).toArray 128) = w2 at *
  clear hW2
  have hx0 : ∀ d os, (Go.Sort.grow (redrawn w2 d) os).heap[w1.heap.size]? = some (.cells (hv T N).toArray 128 (0, 0)) := fun d os => ((below_regrown w2 d os).block _ (blk_lt (unhide HX))).trans (unhide HX)
  have k1 : ∀ d os, HasAt (Go.Sort.grow (redrawn w2 d) os) w1.heap.size 0 2 := fun d os => blk_has (hx0 d os) (hv_length _ _)
  have k2 : ∀ d os, cellsAt (Go.Sort.grow (redrawn w2 d) os) w1.heap.size 0 2 = hv T N := fun d os => blk_cells (hx0 d os) (hv_length _ _)
  have k3 : ∀ d os, (Go.Sort.grow (redrawn w2 d) os).cell? ⟨w1.heap.size, 0, none⟩ = some (.int .i64 (T : Nat)) := fun d os => by rw [cell_blk (hx0 d os)]; rfl
  have l1 : ∀ d os, HasAt (Go.Sort.grow (redrawn w2 d) os) g 0 64 := fun d os => (unhide HL _ ((unhide HB1).trans ((below_regrown w2 d os).mono (unhide HB1).size))).1
  have l2 : ∀ d os, cellsAt (Go.Sort.grow (redrawn w2 d) os) g 0 64 = cv c := fun d os => (unhide HL _ ((unhide HB1).trans ((below_regrown w2 d os).mono (unhide HB1).size))).2
  have Hn := hide (fun d os => headCluster_any (Go.Sort.grow (redrawn w2 d) os) T N hx4 hx6)
  have he : ∀ w, (eqClus (.agg (cv (headBytes T N)).toArray) (.agg (cv c).toArray)).run Tryz.prog w = .ok true w := fun w => by rw [run_eqClus hbl hlen0, decide_eq_true (unhide Hq)]
  clear hx0
  generalize headBytes T N = hb at *
  refine wp_region_quiet_below (by kernel_rfl) (by kernel_rfl) ?_
  repeat (go_big_quiet_step (exact Calls.regrown_of (unhide Hn _ _)))
  refine wpQuiet_nil ?_
  intro _ hw'
  obtain ⟨⟨dq, osq⟩, hw''⟩ := hw'
  subst hw''
  have HBq := hide ((unhide HB1).trans ((below_regrown w2 dq osq).mono (unhide HB1).size))
  have k4 := k3 dq osq
  obtain ⟨t0, v0, g0⟩ := ((unhide HG).below (unhide HBq)).err 0 (by omega)
  obtain ⟨t1, v1, g1⟩ := ((unhide HG).below (unhide HBq)).err 1 (by omega)
  clear l1 l2 k1 k2 k3 Hn he
  go_wp2
  go_ret
  exact ⟨⟨_, ⟨_, _, rfl⟩, rfl⟩, unhide HBq⟩
set_option maxHeartbeats 2000000 in
set_option maxRecDepth 100000 in
theorem checkHead_ok (w : World) (fv : Value) (file : List Clus) (hf : FRow w fv file) (hG : Glob w) (h6 : 6 ≤ file.length) (hm : file.length ≤ 1000000)
    (hsame : headBytes (num (cl file 0) 4) (num (cl file 0) 6) = cl file 0) (hlow : 7 ≤ num (cl file 0) 4) (hhi : num (cl file 0) 4 ≤ 256) (hle : file.length ≤ num (cl file 0) 4) :
    Calls Tryz.prog 90 #[fv] w fun e w' => e = .returned .nilIface ∧ Below w.heap.size w w' := by
  have d6 : ¬ ((file.length : Nat) : Int) ≤ 5 := by omega
  have hlen0 := cl_length hf.lens (k := 0) (by omega)
  have Hh : Hid (∀ W, _) := fun W => headOf_any W (cl file 0) hlen0
  have hx4 := num_lt (cl file 0) 4
  have hx6 := num_lt (cl file 0) 6
  obtain ⟨g, cap, rfl, hcap⟩ := row_some hf.row (by omega)
  have l1 := row_has hf.row hf.lens 0 (by omega)
  have l2 := row_cells hf.row hf.lens 0 (by omega)
  simp only [Nat.zero_mul] at l1 l2
  have hli : (0 : Int) < (file.length : Int) := by omega
  have HF := hide hf
  have HL := hide (fun W (hb : Below w.heap.size w W) => (⟨row_has (hf.kept (S := fun _ => False) (Kept.of_below hb) (fun _ _ => id)).row hf.lens 0 (by omega), row_cells (hf.kept (S := fun _ => False) (Kept.of_below hb) (fun _ _ => id)).row hf.lens 0 (by omega)⟩ : _ ∧ _))
  simp only [Nat.zero_mul] at HL
  have HG := hide hG
  clear hf hG
  generalize cl file 0 = c at *
  generalize num c 4 = T at *
  generalize num c 6 = N at *
  have dl : decide (((T : Nat) : Int) ≤ 6) = false := decide_eq_false (by omega)
  have dh : decide ((256 : Int) < ((T : Nat) : Int)) = false := decide_eq_false (by omega)
  have dn : decide (((T : Nat) : Int) < ((file.length : Nat) : Int)) = false := decide_eq_false (by omega)
  have Hq := hide hsame
  clear hsame
  have hbl : (headBytes T N).length = 64 := headBytes_length T N
  go_enter Tryz.func90, Tryz.ntmps90
  go_wp2_with fail
  refine (unhide Hh _).mono ?_
  rintro e w1 ⟨rfl, hb1⟩
  have HB1 := hide (hb1.alloc hb1.size (.cells (hv T N).toArray 128))
  have HX := hide (heap_alloc_new w1 (.cells (hv T N).toArray 128))
  clear hb1 l1 l2 Hh
  go_wp2_with fail
  generalize hW2 : w1.alloc (.cells (hv T N).toArray 128) = w2 at *
  clear hW2
  have hx0 : ∀ d os, (Go.Sort.grow (redrawn w2 d) os).heap[w1.heap.size]? = some (.cells (hv T N).toArray 128 (0, 0)) := fun d os => ((below_regrown w2 d os).block _ (blk_lt (unhide HX))).trans (unhide HX)
  have k1 : ∀ d os, HasAt (Go.Sort.grow (redrawn w2 d) os) w1.heap.size 0 2 := fun d os => blk_has (hx0 d os) (hv_length _ _)
  have k2 : ∀ d os, cellsAt (Go.Sort.grow (redrawn w2 d) os) w1.heap.size 0 2 = hv T N := fun d os => blk_cells (hx0 d os) (hv_length _ _)
  have k3 : ∀ d os, (Go.Sort.grow (redrawn w2 d) os).cell? ⟨w1.heap.size, 0, none⟩ = some (.int .i64 (T : Nat)) := fun d os => by rw [cell_blk (hx0 d os)]; rfl
  have l1 : ∀ d os, HasAt (Go.Sort.grow (redrawn w2 d) os) g 0 64 := fun d os => (unhide HL _ ((unhide HB1).trans ((below_regrown w2 d os).mono (unhide HB1).size))).1
  have l2 : ∀ d os, cellsAt (Go.Sort.grow (redrawn w2 d) os) g 0 64 = cv c := fun d os => (unhide HL _ ((unhide HB1).trans ((below_regrown w2 d os).mono (unhide HB1).size))).2
  have Hn := hide (fun d os => headCluster_any (Go.Sort.grow (redrawn w2 d) os) T N hx4 hx6)
  have he : ∀ w, (eqClus (.agg (cv (headBytes T N)).toArray) (.agg (cv c).toArray)).run Tryz.prog w = .ok true w := fun w => by rw [run_eqClus hbl hlen0, decide_eq_true (unhide Hq)]
  clear hx0
  generalize headBytes T N = hb at *
  refine wp_region_quiet_below (by kernel_rfl) (by kernel_rfl) ?_
  repeat (go_big_quiet_step (exact Calls.regrown_of (unhide Hn _ _)))
  refine wpQuiet_nil ?_
  intro _ hw'
  obtain ⟨⟨dq, osq⟩, hw''⟩ := hw'
  subst hw''
  have HBq := hide ((unhide HB1).trans ((below_regrown w2 dq osq).mono (unhide HB1).size))
  have k4 := k3 dq osq
  obtain ⟨t0, v0, g0⟩ := ((unhide HG).below (unhide HBq)).err 0 (by omega)
  obtain ⟨t1, v1, g1⟩ := ((unhide HG).below (unhide HBq)).err 1 (by omega)
  clear l1 l2 k1 k2 k3 Hn he
  go_wp2
  go_ret
  exact ⟨rfl, unhide HBq⟩
theorem checkHead_bad (w : World) (fv : Value) (file : List Clus) (hf : FRow w fv file) (hG : Glob w) (hm : file.length ≤ 1000000) (hbad : ¬ HeadP file) :
    Calls Tryz.prog 90 #[fv] w fun e w' => (∃ x, isIface x ∧ e = .returned (faultV 0 x)) ∧ Below w.heap.size w w' := by
  by_cases h6 : file.length ≤ 5
  · exact checkHead_short w fv file hf hG h6
  · by_cases h1 : headBytes (num (cl file 0) 4) (num (cl file 0) 6) = cl file 0
    · by_cases h2 : num (cl file 0) 4 ≤ 6
      · exact checkHead_low w fv file hf hG (by omega) hm h1 h2
      · by_cases h3 : 256 < num (cl file 0) 4
        · exact checkHead_high w fv file hf hG (by omega) hm h1 h3
        · by_cases h4 : num (cl file 0) 4 < file.length
          · exact checkHead_long w fv file hf hG (by omega) hm h1 (by omega) (by omega) h4
          · exact absurd ⟨by omega, h1, by omega, by omega, by omega⟩ hbad
    · exact checkHead_form w fv file hf hG (by omega) hm h1
theorem checkHead_good (w : World) (fv : Value) (file : List Clus) (hf : FRow w fv file) (hG : Glob w) (h : HeadP file) :
    Calls Tryz.prog 90 #[fv] w fun e w' => e = .returned .nilIface ∧ Below w.heap.size w w' :=
  checkHead_ok w fv file hf hG h.six (by have := h.le; have := h.most; omega) h.same h.seven h.most h.le
end Go.Proofs.YtknjjjenklfeoaaGreatDoor

/-
  The program's isName.
-/
namespace Go.Proofs.YtknjjjenklfeoaaGreatDoor
open Go.RowKit

set_option maxHeartbeats 1000000 in
set_option maxRecDepth 100000 in
theorem pIsName_any (s : ByteArray) (w : World) (hs : s.size ≤ maxLen) :
    Calls Tryz.prog 82 #[.string s] w fun e w' => e = .returned (.bool (isNameB s.data.toList)) ∧ Below w.heap.size w w' := by
  unfold maxLen at hs
  have hlen : s.data.toList.length = s.size := by rw [Array.length_toList]; rfl
  have Hr : Hid (isNameB s.data.toList = (s.data.toList.all letter && (decide (1 ≤ s.data.toList.length) && decide (s.data.toList.length ≤ 12)))) := rfl
  rw [hlen] at Hr
  have Hlen := hide hlen
  clear hlen
  by_cases h1 : s.size < 1
  · have d1 : decide ((s.size : Int) < 1) = true := decide_eq_true (by omega)
    rw [show decide (1 ≤ s.size) = false from decide_eq_false (by omega), Bool.false_and, Bool.and_false] at Hr
    go_enter Tryz.func82, Tryz.ntmps82
    go_wp2
    go_ret
    exact ⟨by rw [unhide Hr]; rfl, Below.refl _ _⟩
  have d1 : decide ((s.size : Int) < 1) = false := decide_eq_false (by omega)
  rw [show decide (1 ≤ s.size) = true from decide_eq_true (by omega), Bool.true_and] at Hr
  by_cases h12 : 12 < s.size
  · have d2 : decide ((12 : Int) < (s.size : Int)) = true := decide_eq_true (by omega)
    rw [show decide (s.size ≤ 12) = false from decide_eq_false (by omega), Bool.and_false] at Hr
    go_enter Tryz.func82, Tryz.ntmps82
    go_wp2
    go_ret
    exact ⟨by rw [unhide Hr]; rfl, Below.refl _ _⟩
  have d2 : decide ((12 : Int) < (s.size : Int)) = false := decide_eq_false (by omega)
  rw [show decide (s.size ≤ 12) = true from decide_eq_true (by omega), Bool.and_true] at Hr
  have hconv := Lib.run_convert_string_bytes (P := Tryz.prog) w 9 73 5 s Tryz.underlying9 Tryz.underlying73 Tryz.underlying5
  have hB : Hid (Below w.heap.size w (Lib.bytesWorld w 5 s)) := ⟨rfl, rfl, rfl, by rw [Lib.bytesWorld_size]; omega, fun k hk => Lib.bytesWorld_at_old w _ s k hk⟩
  have hC : Hid (∀ j, j < s.size → (Lib.bytesWorld w 5 s).cell? ⟨w.heap.size, j, none⟩ = some (.int .u8 (s.data.toList.getD j 0).toNat)) := fun j hj => Lib.bytesWorld_cell w _ s j hj
  generalize Lib.bytesWorld w 5 s = w1 at hconv hB hC
  generalize grownCap w s.size 0 5 = cap at hconv
  go_enter Tryz.func82, Tryz.ntmps82
  go_wp2
  go_loop [16] (fun i => ∃ k : Nat, k ≤ s.size ∧ i = .int .i64 k ∧ (s.data.toList.take k).all letter = true) (fun i => s.size - (intOf i).toNat)
  case atStart => exact ⟨0, Nat.zero_le _, rfl, by simp⟩
  case round =>
    obtain ⟨k, hk, rfl, ha⟩ := hrel
    have Ha := hide ha
    clear ha
    by_cases hlt : k < s.size
    · have hget : s.data.toList.getD k 0 = s[k] := by
        rw [List.getD_eq_getElem?_getD, List.getElem?_eq_getElem (by rw [unhide Hlen]; exact hlt)]; rfl
      have hcell := unhide hC k hlt
      rw [hget] at hcell
      have hts : s.data.toList.take (k + 1) = s.data.toList.take k ++ [s[k]] := by
        rw [List.take_succ_eq_append_getElem (by rw [unhide Hlen]; exact hlt)]; rfl
      have hb := s[k].toNat_lt
      have hl : letter s[k] = (decide (97 ≤ s[k].toNat) && decide (s[k].toNat ≤ 122)) := rfl
      have hall : letter s[k] = false → isNameB s.data.toList = false := fun hf => by
        have : s.data.toList.all letter = false := by
          rw [List.all_eq_false]
          exact ⟨s[k], by rw [← List.take_append_drop (k + 1) s.data.toList, hts]; simp, by rw [hf]; simp⟩
        rw [unhide Hr, this]
      have hnext : letter s[k] = true → (s.data.toList.take (k + 1)).all letter = true := fun ht => by rw [hts, List.all_append, unhide Ha]; simp [ht]
      have HA := hide hall
      have HN := hide hnext
      have HL := hide hl
      clear hall hnext hl hts hget
      by_cases h97 : s[k].toNat < 97
      · have d3 : decide ((s[k].toNat : Int) < 97) = true := decide_eq_true (by omega)
        have e := hide (unhide HA (by rw [unhide HL, show decide (97 ≤ s[k].toNat) = false from decide_eq_false (by omega)]; rfl))
        go_wp2
        go_ret
        exact ⟨by rw [unhide e]; rfl, unhide hB⟩
      · have d3 : decide ((s[k].toNat : Int) < 97) = false := decide_eq_false (by omega)
        by_cases h122 : 122 < s[k].toNat
        · have d4 : decide ((122 : Int) < (s[k].toNat : Int)) = true := decide_eq_true (by omega)
          have e := hide (unhide HA (by rw [unhide HL, show decide (s[k].toNat ≤ 122) = false from decide_eq_false (by omega)]; simp))
          go_wp2
          go_ret
          exact ⟨by rw [unhide e]; rfl, unhide hB⟩
        · have d4 : decide ((122 : Int) < (s[k].toNat : Int)) = false := decide_eq_false (by omega)
          have e := hide (unhide HN (by rw [unhide HL, show decide (97 ≤ s[k].toNat) = true from decide_eq_true (by omega), show decide (s[k].toNat ≤ 122) = true from decide_eq_true (by omega)]; rfl))
          go_wp2
          go_round
          case rel => exact ⟨k + 1, by omega, by go_num, unhide e⟩
          case measure => simp [intOf]; omega
    · have hks : k = s.size := by omega
      have hall : s.data.toList.all letter = true := by
        have := unhide Ha
        rwa [hks, ← unhide Hlen, List.take_length] at this
      rw [hall] at Hr
      clear hall
      go_wp2
      go_ret
      exact ⟨by rw [unhide Hr]; rfl, unhide hB⟩
end Go.Proofs.YtknjjjenklfeoaaGreatDoor

/-
  The program's Find of a picture's name.
-/
namespace Go.Proofs.YtknjjjenklfeoaaGreatDoor
open Go.RowKit

attribute [local go_sem ↓] loadVar_clus storeVar_clus zeroValue_clus loadVar_tab storeVar_tab zeroValue_tab loadVar_cnt storeVar_cnt zeroValue_cnt loadVar_head storeVar_head zeroValue_head build_head buildSlice_clus loadVar_wr storeVar_wr zeroValue_wr build_wr buildSlice_wr equalIn_clus loadVar_place storeVar_place zeroValue_place build_place loadVar_lst storeVar_lst zeroValue_lst storeVar_ent build_ent
attribute [local go_sem] run_loadClus run_storeClus run_zeroClus run_storeClus_new run_loadClus_new zc_length run_loadTab run_storeTab run_zeroTab run_storeTab_new run_loadTab_new zt_length run_loadCnt run_storeCnt run_zeroCnt run_storeCnt_new run_loadCnt_new zk_length run_loadHead run_storeHead run_zeroHead run_storeHead_new run_bHead HasAt_drew cellsAt_drew HasAt_drewN cellsAt_drewN run_bsClus run_loadWr run_zeroWr run_storeWr run_storeWr_new run_bWr0 run_bsWr run_loadPlace run_storePlace run_zeroPlace run_storePlace_new run_bPlace run_loadLst run_storeLst run_zeroLst run_storeLst_new run_storeEnt run_bEnt
attribute [local go_sem] field_head1 field_head0 Oper.semAt_some
attribute [local go_sem ↓] loadVar_ent zeroValue_ent
attribute [local go_sem] run_loadEnt run_zeroEnt run_storeEnt_new
/-- The place of the entry of that name among those from the k-th on, m of them; -1: there is none. -/
def findFrom (E : List EntR) (s : ByteArray) : Nat → Nat → Int
  | 0, _ => -1
  | m + 1, k => if txt (E.getD k ze).name = s then (k : Int) else findFrom E s m (k + 1)
def findE (E : List EntR) (s : ByteArray) : Int := findFrom E s (lenOf E) 0

set_option maxHeartbeats 1000000 in
set_option maxRecDepth 100000 in
theorem find_any (w : World) (E : List EntR) (hE : E.length = 4) (s : ByteArray) :
    Calls Tryz.prog 84 #[.agg (lv E).toArray, .string s] w fun e w' => e = .returned (.int .i64 (findE E s)) ∧ Below w.heap.size w w' := by
  have L0 := hide (Locs.one w (.cells (lv E).toArray 144))
  have l1 := blk_has (unhide L0).o0 (n := 8) (by rw [lv_length, hE])
  have l2 := blk_cells (unhide L0).o0 (n := 8) (by rw [lv_length, hE])
  have Hn := hide (len_any (w.alloc (.cells (lv E).toArray 144)) E hE)
  have hl4 := lenOf_le E
  have zll : zl.length = 4 := rfl
  have hF : findE E s = findFrom E s (lenOf E) 0 := rfl
  have HF := hide hF
  clear hF
  go_enter Tryz.func84, Tryz.ntmps84
  go_wp2_with fail
  refine (unhide Hn).mono ?_
  rintro e W5 ⟨rfl, hb5⟩
  have L1 := hide ((unhide L0).later hb5)
  clear Hn L0 l1 l2 hb5
  generalize lenOf E = n0 at *
  have hli : (n0 : Int) ≤ 4 := by omega
  go_wp2
  go_loopw [11] (fun i wr => ∃ k : Nat, k ≤ n0 ∧ i = .int .i64 k ∧ Locs w wr [.cells (lv E).toArray 144] ∧ findE E s = findFrom E s (n0 - k) k) (fun i _ => n0 - (intOf i).toNat)
  case atStart => exact ⟨0, by omega, rfl, unhide L1, unhide HF⟩
  case round =>
    obtain ⟨k, hk, rfl, hL, hl⟩ := hrel
    clear L1 HF
    by_cases hlt : k < n0
    · have hki : (k : Int) < (n0 : Int) := by omega
      have hkE : k < E.length := by omega
      have l1 := hasAt_of_range (n := 2) (ent_range hL.o0 k hkE) rfl
      have l2 := cellsAt_of_range (n := 2) (ent_range hL.o0 k hkE) rfl
      have hs : findFrom E s (n0 - k) k = if txt (E.getD k ze).name = s then (k : Int) else findFrom E s (n0 - (k + 1)) (k + 1) := by
        rw [show n0 - k = (n0 - (k + 1)) + 1 by omega, findFrom]
      rw [hs] at hl
      generalize E.getD k ze = p at *
      have hLa := hide (hL.alloc (.cells (ev p).toArray 142))
      have HB := hide (unhide hLa).below
      have c5 : (wr.alloc (.cells (ev p).toArray 142)).cell? ⟨wr.heap.size, 0, none⟩ = some (.string (txt p.name)) := (cell_new wr _ _ _ 0).trans rfl
      clear hL hs
      generalize txt p.name = q at *
      by_cases h0 : q = s
      · rw [if_pos h0] at hl
        have Hl := hide hl
        subst h0
        clear hl
        go_wp2
        go_ret
        exact ⟨by rw [unhide Hl]; rfl, unhide HB⟩
      · rw [if_neg h0] at hl
        have Hl := hide hl
        have d0 : (q.toList == s.toList) = false := beq_eq_false_iff_ne.2 (fun he => h0 (Go.WideShapes.bytes_inj (by rw [← Go.ByteArray.toList_eq, ← Go.ByteArray.toList_eq]; exact he)))
        clear hl
        go_wp2
        go_roundw
        case rel => exact ⟨k + 1, by omega, by go_num, unhide hLa, unhide Hl⟩
        case measure => simp [intOf]; omega
    · have hk4 : k = n0 := by omega
      subst hk4
      rw [Nat.sub_self] at hl
      have HB := hide hL.below
      have Hl := hide hl
      clear hl hL
      go_wp2
      go_ret
      exact ⟨by rw [unhide Hl]; rfl, unhide HB⟩
end Go.Proofs.YtknjjjenklfeoaaGreatDoor

/-
  The program's entry: the place of a picture in the list, by its name.
-/
namespace Go.Proofs.YtknjjjenklfeoaaGreatDoor
open Go.RowKit

/-- What entry answers: a place and how it went. -/
def entR (V : VolR) (s : ByteArray) : Int × Nat :=
  if isNameB s.data.toList = false then (0, 2) else if findE (entsOf (cl V.C 5)) s < 0 then (0, 4) else (findE (entsOf (cl V.C 5)) s, 0)

end Go.Proofs.YtknjjjenklfeoaaGreatDoor

/-
  The program's ReadOf.
-/
namespace Go.Proofs.YtknjjjenklfeoaaGreatDoor
open Go.RowKit

attribute [local go_sem ↓] loadVar_clus storeVar_clus zeroValue_clus loadVar_tab storeVar_tab zeroValue_tab loadVar_cnt storeVar_cnt zeroValue_cnt loadVar_head storeVar_head zeroValue_head build_head buildSlice_clus loadVar_wr storeVar_wr zeroValue_wr build_wr buildSlice_wr equalIn_clus loadVar_place storeVar_place zeroValue_place build_place loadVar_lst storeVar_lst zeroValue_lst storeVar_ent build_ent
attribute [local go_sem] run_loadClus run_storeClus run_zeroClus run_storeClus_new run_loadClus_new zc_length run_loadTab run_storeTab run_zeroTab run_storeTab_new run_loadTab_new zt_length run_loadCnt run_storeCnt run_zeroCnt run_storeCnt_new run_loadCnt_new zk_length run_loadHead run_storeHead run_zeroHead run_storeHead_new run_bHead HasAt_drew cellsAt_drew HasAt_drewN cellsAt_drewN run_bsClus run_loadWr run_zeroWr run_storeWr run_storeWr_new run_bWr0 run_bsWr run_loadPlace run_storePlace run_zeroPlace run_storePlace_new run_bPlace run_loadLst run_storeLst run_zeroLst run_storeLst_new run_storeEnt run_bEnt
attribute [local go_sem] field_head1 field_head0 Oper.semAt_some
attribute [local go_sem ↓] loadVar_ent zeroValue_ent
attribute [local go_sem] run_loadEnt run_zeroEnt run_storeEnt_new
theorem findFrom_some (E : List EntR) (s : ByteArray) : ∀ m k, 0 ≤ findFrom E s m k → ∃ i, k ≤ i ∧ i < k + m ∧ findFrom E s m k = (i : Int)
  | 0, k, h => by simp [findFrom] at h
  | m + 1, k, h => by
    unfold findFrom at h ⊢
    split
    · exact ⟨k, by omega, by omega, rfl⟩
    · rename_i hn
      rw [if_neg hn] at h
      obtain ⟨i, h1, h2, h3⟩ := findFrom_some E s m (k + 1) h
      exact ⟨i, by omega, by omega, h3⟩
end Go.Proofs.YtknjjjenklfeoaaGreatDoor

/-
  The program's pictures: ReadOf.
-/
namespace Go.Proofs.YtknjjjenklfeoaaGreatDoor
open Go.RowKit

attribute [local go_sem ↓] loadVar_clus storeVar_clus zeroValue_clus loadVar_tab storeVar_tab zeroValue_tab loadVar_cnt storeVar_cnt zeroValue_cnt loadVar_head storeVar_head zeroValue_head build_head buildSlice_clus loadVar_wr storeVar_wr zeroValue_wr build_wr buildSlice_wr equalIn_clus loadVar_place storeVar_place zeroValue_place build_place loadVar_lst storeVar_lst zeroValue_lst storeVar_ent build_ent
attribute [local go_sem] run_loadClus run_storeClus run_zeroClus run_storeClus_new run_loadClus_new zc_length run_loadTab run_storeTab run_zeroTab run_storeTab_new run_loadTab_new zt_length run_loadCnt run_storeCnt run_zeroCnt run_storeCnt_new run_loadCnt_new zk_length run_loadHead run_storeHead run_zeroHead run_storeHead_new run_bHead HasAt_drew cellsAt_drew HasAt_drewN cellsAt_drewN run_bsClus run_loadWr run_zeroWr run_storeWr run_storeWr_new run_bWr0 run_bsWr run_loadPlace run_storePlace run_zeroPlace run_storePlace_new run_bPlace run_loadLst run_storeLst run_zeroLst run_storeLst_new run_storeEnt run_bEnt
attribute [local go_sem] field_head1 field_head0 Oper.semAt_some
attribute [local go_sem ↓] loadVar_ent zeroValue_ent
attribute [local go_sem] run_loadEnt run_zeroEnt run_storeEnt_new
theorem lv_part (E : List EntR) : ∀ k, k < E.length → ((lv E).drop (k * 2)).take 2 = ev (E.getD k ze) := by
  induction E with
  | nil => intro k hk; cases hk
  | cons e r ih =>
    intro k hk
    cases k with
    | zero => rfl
    | succ k =>
      have := ih k (by simpa using hk)
      show ((ev e ++ lv r).drop ((k + 1) * 2)).take 2 = _
      rw [List.drop_append, show (ev e).drop ((k + 1) * 2) = [] by rw [List.drop_eq_nil_of_le]; simp [ev]; omega, show (k + 1) * 2 - (ev e).length = k * 2 by simp [ev]; omega, List.nil_append, this]
      rfl
theorem part_ent (E : List EntR) (k : Nat) (hk : k < E.length) (w : World) : (part 142 (lv E).toArray (k * 2)).run Tryz.prog w = .ok (.agg (ev (E.getD k ze)).toArray) w := by
  have ha : (isAgg 142).run Tryz.prog w = .ok true w := by unfold isAgg; rw [Sem.run_bind, run_underlying Tryz.underlying142 w]; rfl
  have hz := run_sizeOf (P := Tryz.prog) (e := 142) (sz := 2) (by kernel_rfl) w
  unfold part
  rw [Sem.run_bind, ha]
  simp only [Result.andThen_ok, if_true]
  rw [Sem.run_bind, hz]
  simp only [Result.andThen_ok]
  have : (lv E).toArray.extract (k * 2) (k * 2 + 2) = (ev (E.getD k ze)).toArray := by
    rw [List.extract_toArray, List.extract_eq_take_drop, show k * 2 + 2 - k * 2 = 2 by omega, lv_part E k hk]
  rw [this]
  rfl
theorem run_index_lst (w : World) (E : List EntR) (hE : E.length = 4) (k : Nat) (hk : k < 4) : (Instr.index 144 (.agg (lv E).toArray) (.int .i64 (k : Int))).run Tryz.prog w = .ok (.agg (ev (E.getD k ze)).toArray) w :=
  run_index_arr w _ _ 4 2 Tryz.underlying144 (by kernel_rfl) _ k hk _ (part_ent E k (by omega) w)
theorem field_ent1 (e : EntR) (w : World) : (Instr.field 142 (.agg (ev e).toArray) 1).run Tryz.prog w = .ok (.int .i64 (e.first : Nat)) w := by
  kernel_rfl
theorem field_ent0 (e : EntR) (w : World) : (Instr.field 142 (.agg (ev e).toArray) 0).run Tryz.prog w = .ok (.string (txt e.name)) w := by
  kernel_rfl
attribute [local go_sem] field_ent0 field_ent1 field_head1 field_head0
end Go.Proofs.YtknjjjenklfeoaaGreatDoor
