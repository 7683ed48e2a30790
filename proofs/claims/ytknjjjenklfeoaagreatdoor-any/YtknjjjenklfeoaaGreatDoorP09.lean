import Derived.Test.YtknjjjenklfeoaaGreatDoorP08
import Derived.Test.YtknjjjenklfeoaaGreatDoorP06
/-
  The program's File and Log: copies.
-/
namespace Go.Proofs.YtknjjjenklfeoaaGreatDoor
open Go.RowKit
attribute [local go_sem ↓] loadVar_clus storeVar_clus zeroValue_clus loadVar_tab storeVar_tab zeroValue_tab loadVar_cnt storeVar_cnt zeroValue_cnt loadVar_head storeVar_head zeroValue_head build_head buildSlice_clus loadVar_wr storeVar_wr zeroValue_wr build_wr buildSlice_wr equalIn_clus
attribute [local go_sem] run_loadClus run_storeClus run_zeroClus run_storeClus_new run_loadClus_new zc_length run_loadTab run_storeTab run_zeroTab run_storeTab_new run_loadTab_new zt_length run_loadCnt run_storeCnt run_zeroCnt run_storeCnt_new run_loadCnt_new zk_length run_loadHead run_storeHead run_zeroHead run_storeHead_new run_bHead HasAt_drew cellsAt_drew HasAt_drewN cellsAt_drewN run_bsClus run_loadWr run_zeroWr run_storeWr run_storeWr_new run_bWr0 run_bsWr
theorem flatW_one (L : List WrR) : ∀ v ∈ flatW L, v.oneCell' = true := by
  intro v hv
  obtain ⟨x, _, hx⟩ := List.mem_flatMap.1 hv
  exact wrCells_one x v hx
theorem row_empty (w : World) (base : Nat) (e : TypeId) (size : Nat) (hb : base ≤ w.heap.size) : (w.alloc (.cells #[] e)).ownsRow base e size (.slice (some ⟨w.heap.size, 0, none⟩) 0 0) 0 [] := by
  refine ⟨by simp, Or.inr ⟨w.heap.size, 0, #[], rfl, hb, heap_alloc_new w _, by omega, ?_⟩⟩
  simp [maxLen]

set_option maxHeartbeats 1000000 in
set_option maxRecDepth 100000 in
theorem cloneC_any (w : World) (g cap : Nat) (C : List Clus) (hC : ∀ c ∈ C, c.length = 64) (hr : w.ownsRow 0 38 64 (.slice (some ⟨g, 0, none⟩) C.length cap) C.length (flatC C)) (h0 : 0 < C.length) (h1 : C.length ≤ 1000) :
    Calls Tryz.prog 135 #[.slice (some ⟨g, 0, none⟩) C.length cap] w fun e w' => ∃ v, e = .returned v ∧ w'.ownsRow w.heap.size 38 64 v C.length (flatC C) ∧ Below w.heap.size w w' := by
  obtain ⟨i0, hi0, hz0, hz1, hz2⟩ := info_parts Tryz.infoClus
  have Hr := hide hr
  have hq := run_eql_slice_nil (P := Tryz.prog) w 28 38 (some ⟨g, 0, none⟩) C.length cap Tryz.underlying28
  clear hr
  go_enter Tryz.func135, Tryz.ntmps135
  go_wp2_with (at_builtin; refine wpList_append_lies _ rfl _ _ _ rfl w.heap.size 38 i0 _ 64 64 Tryz.underlying28 hi0 hz0 hz1 hz2 (by simp [Value.cells, cv_length, zc_length]) (by omega) (.slice (some ⟨w.heap.size, 0, none⟩) 0 0) 0 [] rfl (row_empty w _ _ _ (Nat.le_refl _)) ⟨g, 0, none⟩ C.length cap (flatC C) rfl (flatC_length C hC) (((unhide Hr).alloc _).cells (g := g) rfl) (flatC_one C) (by omega) (by unfold maxLen; omega) (by omega) (by simp) (w.heap.size + 1) (by simp) ?_; intro g5 cap5 w5 hown5 hgrow hat hlt5)
  go_ret
  refine ⟨_, rfl, by simpa using hown5, ((Below.refl _ w).alloc (Nat.le_refl _) _).grown hgrow (by simp) (fun k hk => ?_)⟩
  simp only [Value.ownBlock, Option.some.injEq] at hk
  omega

set_option maxHeartbeats 1000000 in
set_option maxRecDepth 100000 in
theorem cloneW_any (w : World) (g cap : Nat) (L : List WrR) (hL : ∀ x ∈ L, x.data.length = 64) (hr : w.ownsRow 0 104 65 (.slice (some ⟨g, 0, none⟩) L.length cap) L.length (flatW L)) (h0 : 0 < L.length) (h1 : L.length ≤ 1000000000) :
    Calls Tryz.prog 159 #[.slice (some ⟨g, 0, none⟩) L.length cap] w fun e w' => ∃ v, e = .returned v ∧ w'.ownsRow w.heap.size 104 65 v L.length (flatW L) ∧ Below w.heap.size w w' := by
  obtain ⟨i0, hi0, hz0, hz1, hz2⟩ := info_parts Tryz.infoWr
  have Hr := hide hr
  have hq := run_eql_slice_nil (P := Tryz.prog) w 58 104 (some ⟨g, 0, none⟩) L.length cap Tryz.underlying58
  clear hr
  go_enter Tryz.func159, Tryz.ntmps159
  go_wp2_with (at_builtin; refine wpList_append_lies _ rfl _ _ _ rfl w.heap.size 104 i0 _ 65 72 Tryz.underlying58 hi0 hz0 hz1 hz2 (by simp [Value.cells, wrCells, cv_length, zc_length]) (by omega) (.slice (some ⟨w.heap.size, 0, none⟩) 0 0) 0 [] rfl (row_empty w _ _ _ (Nat.le_refl _)) ⟨g, 0, none⟩ L.length cap (flatW L) rfl (flatW_length L hL) (((unhide Hr).alloc _).cells (g := g) rfl) (flatW_one L) (by omega) (by unfold maxLen; omega) (by omega) (by simp) (w.heap.size + 1) (by simp) ?_; intro g5 cap5 w5 hown5 hgrow hat hlt5)
  go_ret
  refine ⟨_, rfl, by simpa using hown5, ((Below.refl _ w).alloc (Nat.le_refl _) _).grown hgrow (by simp) (fun k hk => ?_)⟩
  simp only [Value.ownBlock, Option.some.injEq] at hk
  omega
end Go.Proofs.YtknjjjenklfeoaaGreatDoor

/-
  The reference's disk: IsBlock, Read, Write; and, where it has no pictures, Copied, Same, and Disk of a file.
-/
namespace Go.Proofs.YtknjjjenklfeoaaGreatDoor
open Go.RowKit
attribute [local go_sem ↓] loadVar_clus storeVar_clus zeroValue_clus loadVar_cont storeVar_cont zeroValue_cont build_disk
attribute [local go_sem] run_loadClus run_storeClus run_zeroClus run_storeClus_new run_loadClus_new zc_length run_loadCont run_storeCont run_zeroCont run_bDisk
end Go.Proofs.YtknjjjenklfeoaaGreatDoor

/-
  The program's File and Log: the volume's, the disk's.
-/
namespace Go.Proofs.YtknjjjenklfeoaaGreatDoor
open Go.RowKit
attribute [local go_sem ↓] loadVar_clus storeVar_clus zeroValue_clus loadVar_tab storeVar_tab zeroValue_tab loadVar_cnt storeVar_cnt zeroValue_cnt loadVar_head storeVar_head zeroValue_head build_head buildSlice_clus loadVar_wr storeVar_wr zeroValue_wr build_wr buildSlice_wr equalIn_clus
attribute [local go_sem] run_loadClus run_storeClus run_zeroClus run_storeClus_new run_loadClus_new zc_length run_loadTab run_storeTab run_zeroTab run_storeTab_new run_loadTab_new zt_length run_loadCnt run_storeCnt run_zeroCnt run_storeCnt_new run_loadCnt_new zk_length run_loadHead run_storeHead run_zeroHead run_storeHead_new run_bHead HasAt_drew cellsAt_drew HasAt_drewN cellsAt_drewN run_bsClus run_loadWr run_zeroWr run_storeWr run_storeWr_new run_bWr0 run_bsWr
theorem storeClusters_any (w : World) (v : Nat) (Cv Lv : Value) (V : VolR) (h : VolAt w v Cv Lv V) (h0 : 0 < V.C.length) (h1 : V.C.length ≤ 1000) :
    Calls Tryz.prog 73 #[.pointer (some ⟨v, 0, none⟩)] w fun e w' => ∃ x, e = .returned x ∧ w'.ownsRow w.heap.size 38 64 x V.C.length (flatC V.C) ∧ Below w.heap.size w w' := by
  obtain ⟨g, cap, rfl, _⟩ := row_some h.rowC (by omega)
  have c0 := h.c0
  have Hc := hide (cloneC_any w g cap V.C h.lenC h.rowC h0 h1)
  go_enter Tryz.func73, Tryz.ntmps73
  go_wp2_with fail
  refine (unhide Hc).mono ?_
  rintro e w1 ⟨x, rfl, hr, hb⟩
  go_wp2
  go_ret
  exact ⟨x, rfl, hr, hb⟩
theorem volFile_any (w : World) (v : Nat) (Cv Lv : Value) (V : VolR) (h : VolAt w v Cv Lv V) (h0 : 0 < V.C.length) (h1 : V.C.length ≤ 1000) :
    Calls Tryz.prog 38 #[.pointer (some ⟨v, 0, none⟩)] w fun e w' => ∃ x, e = .returned x ∧ w'.ownsRow w.heap.size 38 64 x V.C.length (flatC V.C) ∧ Below w.heap.size w w' := by
  have Hc := hide (storeClusters_any w v Cv Lv V h h0 h1)
  go_enter Tryz.func38, Tryz.ntmps38
  go_wp2_with fail
  refine (unhide Hc).mono ?_
  rintro e w1 ⟨x, rfl, hr, hb⟩
  go_wp2
  go_ret
  exact ⟨x, rfl, hr, hb⟩
/-- The program's disk lies in block d. -/
structure DskAt (w : World) (d v : Nat) (Cv Lv : Value) (V : VolR) : Prop where
  blk : w.heap[d]? = some (.cells #[.pointer (some ⟨v, 0, none⟩)] 85 (0, 0))
  vol : VolAt w v Cv Lv V
def dfoot (d v : Nat) (Cv Lv : Value) (k : Nat) : Prop := k = d ∨ foot v Cv Lv k
section
variable {w w' : World} {d v : Nat} {Cv Lv : Value} {V : VolR}
theorem DskAt.c0 (h : DskAt w d v Cv Lv V) : w.cell? ⟨d, 0, none⟩ = some (.pointer (some ⟨v, 0, none⟩)) := by rw [cell_blk h.blk]; rfl
theorem DskAt.nfoot (h : DskAt w d v Cv Lv V) : ¬ foot v Cv Lv d := by
  rintro (rfl | hk | hk)
  · have := h.blk; rw [h.vol.blk] at this; cases this
  · exact row_ne h.vol.rowC h.blk (by decide) d hk rfl
  · exact row_ne h.vol.rowL h.blk (by decide) d hk rfl
theorem DskAt.kept {S : Nat → Prop} (h : DskAt w d v Cv Lv V) (hk : Kept S w w') (hs : ∀ k, dfoot d v Cv Lv k → ¬ S k) : DskAt w' d v Cv Lv V :=
  ⟨hk.blk (hs d (Or.inl rfl)) h.blk, h.vol.kept hk (fun k hf => hs k (Or.inr hf))⟩
theorem DskAt.below (h : DskAt w d v Cv Lv V) (hb : Below w.heap.size w w') : DskAt w' d v Cv Lv V := h.kept (S := fun _ => False) (Kept.of_below hb) (fun _ _ => id)
theorem DskAt.step {C1 L1 : Value} {V1 : VolR} (h : DskAt w d v Cv Lv V) (hs : VStep w w' v Cv Lv C1 L1 V1) : DskAt w' d v C1 L1 V1 := ⟨hs.kept.blk h.nfoot h.blk, hs.at'⟩
theorem DskAt.foot_lt (h : DskAt w d v Cv Lv V) : ∀ k, dfoot d v Cv Lv k → k < w.heap.size := by
  rintro k (rfl | hk)
  · exact blk_lt h.blk
  · exact h.vol.foot_lt k hk
end

theorem made_any (w : World) (d v : Nat) (Cv Lv : Value) (V : VolR) (h : DskAt w d v Cv Lv V) :
    Calls Tryz.prog 37 #[.pointer (some ⟨d, 0, none⟩)] w fun e w' => e = .returned (.bool true) ∧ w' = w := by
  have c0 := h.c0
  go_enter Tryz.func37, Tryz.ntmps37
  go_wp2
  go_ret
  exact ⟨rfl, rfl⟩

theorem diskFile_any (w : World) (d v : Nat) (Cv Lv : Value) (V : VolR) (h : DskAt w d v Cv Lv V) (h0 : 0 < V.C.length) (h1 : V.C.length ≤ 1000) :
    Calls Tryz.prog 12 #[.pointer (some ⟨d, 0, none⟩)] w fun e w' => ∃ x, e = .returned x ∧ w'.ownsRow w.heap.size 38 64 x V.C.length (flatC V.C) ∧ Below w.heap.size w w' := by
  have c0 := h.c0
  have Hm := hide (made_any w d v Cv Lv V h)
  have Hc := hide (volFile_any w v Cv Lv V h.vol h0 h1)
  go_enter Tryz.func12, Tryz.ntmps12
  go_wp2_with fail
  refine (unhide Hm).mono ?_
  rintro e w1 ⟨rfl, rfl⟩
  go_wp2_with fail
  refine (unhide Hc).mono ?_
  rintro e w1 ⟨x, rfl, hr, hb⟩
  go_wp2
  go_ret
  exact ⟨x, rfl, hr, hb⟩
end Go.Proofs.YtknjjjenklfeoaaGreatDoor

/-
  The program's readers: head, table, counts.
-/
namespace Go.Proofs.YtknjjjenklfeoaaGreatDoor
open Go.RowKit
attribute [local go_sem ↓] loadVar_clus storeVar_clus zeroValue_clus loadVar_tab storeVar_tab zeroValue_tab loadVar_cnt storeVar_cnt zeroValue_cnt loadVar_head storeVar_head zeroValue_head build_head buildSlice_clus loadVar_wr storeVar_wr zeroValue_wr build_wr buildSlice_wr equalIn_clus
attribute [local go_sem] run_loadClus run_storeClus run_zeroClus run_storeClus_new run_loadClus_new zc_length run_loadTab run_storeTab run_zeroTab run_storeTab_new run_loadTab_new zt_length run_loadCnt run_storeCnt run_zeroCnt run_storeCnt_new run_loadCnt_new zk_length run_loadHead run_storeHead run_zeroHead run_storeHead_new run_bHead HasAt_drew cellsAt_drew HasAt_drewN cellsAt_drewN run_bsClus run_loadWr run_zeroWr run_storeWr run_storeWr_new run_bWr0 run_bsWr
set_option maxHeartbeats 1000000 in
set_option maxRecDepth 100000 in
theorem head_vol (w : World) (v : Nat) (Cv Lv : Value) (V : VolR) (h : VolAt w v Cv Lv V) (h0 : 0 < V.C.length) :
    Calls Tryz.prog 87 #[.pointer (some ⟨v, 0, none⟩)] w fun e w' => e = .returned (.agg (hv (num (cl V.C 0) 4) (num (cl V.C 0) 6)).toArray) ∧ Below w.heap.size w w' := by
  have L0 := Locs.one w (.cells (hv 0 0).toArray 128)
  have Ha := hide (at_any _ v Cv Lv V (h.below L0.below) 0 h0)
  have Hh : Hid (∀ W, _) := fun W => headOf_any W (cl V.C 0) (cl_length h.lenC h0)
  have L0 := hide L0
  clear h
  go_enter Tryz.func87, Tryz.ntmps87
  go_wp2_with fail
  refine (unhide Ha).mono ?_
  rintro e w1 ⟨rfl, hb1⟩
  have L1 := hide ((unhide L0).later hb1)
  clear Ha L0 hb1
  go_wp2_with fail
  refine (unhide Hh w1).mono ?_
  rintro e w2 ⟨rfl, hb2⟩
  have L2 := (unhide L1).later hb2
  have th := there_blk L2.o0 0 2 (by simp [hv_length])
  have hset := L2.setCells 0 rfl 0 (hv (num (cl V.C 0) 4) (num (cl V.C 0) 6))
  rw [Nat.add_zero] at hset
  rw [setList_all _ _ (by simp [hv_length])] at hset
  have l3 := blk_has hset.o0 (n := 2) (hv_length _ _)
  have l4 := blk_cells hset.o0 (n := 2) (hv_length _ _)
  have HB := hide hset.below
  clear hset L2 L1 hb2 Hh
  go_wp2
  refine bodyPost_ret (results_cell Tryz.results87 ⟨w.heap.size, 0, none⟩ rfl ?_) rfl ⟨rfl, unhide HB⟩
  rw [loadVar_head, run_loadHead l3, l4]

set_option maxHeartbeats 1000000 in
set_option maxRecDepth 100000 in
theorem table_vol (w : World) (v : Nat) (Cv Lv : Value) (V : VolR) (h : VolAt w v Cv Lv V) (n : Nat) (hn : n < V.C.length) :
    Calls Tryz.prog 160 #[.pointer (some ⟨v, 0, none⟩), .int .i64 (n : Nat)] w fun e w' => e = .returned (.agg (tv (numsOf (cl V.C n))).toArray) ∧ Below w.heap.size w w' := by
  have L0 := Locs.one w (.cells (tv zt).toArray 169)
  have Ha := hide (at_any _ v Cv Lv V (h.below L0.below) n hn)
  have Hh : Hid (∀ W, _) := fun W => tableOf_any W (cl V.C n) (cl_length h.lenC hn)
  have hnl := numsOf_length (cl V.C n)
  have L0 := hide L0
  clear h
  generalize hcc : cl V.C n = c at *
  go_enter Tryz.func160, Tryz.ntmps160
  go_wp2_with fail
  refine (unhide Ha).mono ?_
  rintro e w1 ⟨rfl, hb1⟩
  have L1 := hide ((unhide L0).later hb1)
  clear Ha L0 hb1
  go_wp2_with fail
  refine (unhide Hh w1).mono ?_
  rintro e w2 ⟨rfl, hb2⟩
  have L2 := (unhide L1).later hb2
  have th := there_blk L2.o0 0 32 (by simp [tv_length, zt_length])
  have hset := L2.setCells 0 rfl 0 (tv (numsOf c))
  rw [Nat.add_zero] at hset
  rw [setList_all _ _ (by simp [tv_length, zt_length, hnl])] at hset
  have l3 := blk_has hset.o0 (n := 32) (by rw [tv_length, hnl])
  have l4 := blk_cells hset.o0 (n := 32) (by rw [tv_length, hnl])
  have HB := hide hset.below
  clear hset L2 L1 hb2 Hh
  go_wp2
  refine bodyPost_ret (results_cell Tryz.results160 ⟨w.heap.size, 0, none⟩ rfl ?_) rfl ⟨rfl, unhide HB⟩
  rw [loadVar_tab, run_loadTab l3, l4]

def cntsTo (C : List Clus) : Nat → List UInt8
  | 0 => zk
  | k + 1 => setPart (cntsTo C k) k (cl C (1 + k))
def cntsOf (C : List Clus) : List UInt8 := cntsTo C 4
theorem cntsTo_length (C : List Clus) (hl : ∀ c ∈ C, c.length = 64) (h5 : 5 ≤ C.length) : ∀ k, k ≤ 4 → (cntsTo C k).length = 256
  | 0, _ => zk_length
  | k + 1, hk => setPart_length _ _ _ (cntsTo_length C hl h5 k (by omega)) (cl_length hl (by omega)) (by omega)
theorem cntsOf_length (C : List Clus) (hl : ∀ c ∈ C, c.length = 64) (h5 : 5 ≤ C.length) : (cntsOf C).length = 256 := cntsTo_length C hl h5 4 (by omega)

set_option maxHeartbeats 1000000 in
set_option maxRecDepth 100000 in
theorem counts_vol (w : World) (v : Nat) (Cv Lv : Value) (V : VolR) (h : VolAt w v Cv Lv V) (h5 : 5 ≤ V.C.length) :
    Calls Tryz.prog 101 #[.pointer (some ⟨v, 0, none⟩)] w fun e w' => e = .returned (.agg (cv (cntsOf V.C)).toArray) ∧ Below w.heap.size w w' := by
  have L0 := hide (Locs.two w (.cells (cv zk).toArray 123) (.cells (cv zk).toArray 123))
  go_enter Tryz.func101, Tryz.ntmps101
  go_wp2
  go_loopw [4, 5] (fun _ i w' => ∃ k : Nat, k ≤ 4 ∧ i = .int .i64 k ∧ Locs w w' [.cells (cv zk).toArray 123, .cells (cv (cntsTo V.C k)).toArray 123]) (fun _ i _ => 4 - (intOf i).toNat)
  case atStart => exact ⟨0, by omega, rfl, unhide L0⟩
  case round =>
    obtain ⟨k, hk, rfl, hL⟩ := hrel
    clear L0
    have hcl := cntsTo_length V.C h.lenC h5 k hk
    by_cases hlt : k < 4
    · have hki : (k : Int) < 4 := by omega
      have Ha := hide (at_any _ v Cv Lv V (h.below hL.below) (1 + k) (by omega))
      have hc64 := cl_length h.lenC (k := 1 + k) (by omega)
      have HL := hide hL
      rw [show ((1 + k : Nat) : Int) = 1 + (k : Int) by omega] at Ha
      clear hL
      go_wp2_with fail
      refine (unhide Ha).mono ?_
      rintro e w1 ⟨rfl, hb1⟩
      have L1 := (unhide HL).later hb1
      have Hs := hide (setPart_any w1 _ (cntsTo V.C k) hcl L1.o1 k hlt _ hc64)
      have L1 := hide L1
      clear Ha HL hb1
      generalize hcc : cl V.C (1 + k) = c at *
      go_wp2_with fail
      refine (unhide Hs).mono ?_
      rintro e w2 ⟨rfl, hb2, hk2⟩
      have L2 := hide ((unhide L1).put 1 _ hk2 hb2)
      clear Hs L1 hb2 hk2
      go_wp2
      go_roundw
      case rel =>
        refine ⟨k + 1, by omega, by go_num, ?_⟩
        rw [cntsTo, hcc]
        exact unhide L2
      case measure => simp [intOf]; omega
    · have hk4 : k = 4 := by omega
      subst hk4
      have l1 := blk_has hL.o1 (n := 256) (by rw [cv_length, hcl])
      have l2 := blk_cells hL.o1 (n := 256) (by rw [cv_length, hcl])
      have th := there_blk hL.o0 0 256 (by simp only [List.size_toArray, cv_length, zk_length]; omega)
      have hset := hL.setCells 0 rfl 0 (cv (cntsTo V.C 4))
      rw [Nat.add_zero] at hset
      rw [setList_all _ _ (by rw [List.size_toArray, cv_length, cv_length, zk_length, hcl])] at hset
      have o1 := hset.o0
      have l3 := blk_has o1 (n := 256) (by rw [cv_length, hcl])
      have l4 := blk_cells o1 (n := 256) (by rw [cv_length, hcl])
      have HB := hide hset.below
      clear hL hset o1
      go_wp2
      refine bodyPost_ret (results_cell Tryz.results101 ⟨w.heap.size, 0, none⟩ rfl ?_) rfl ⟨rfl, unhide HB⟩
      rw [loadVar_cnt, run_loadCnt l3, l4]; rfl

def findR (C : List Clus) (first b : Nat) : PlaceR :=
  { first := first, inFirst := b / 32, inSecond := b % 32, second := num (cl C first) (2 * (b / 32)),
    block := if num (cl C first) (2 * (b / 32)) = 0 then 0 else num (cl C (num (cl C first) (2 * (b / 32)) % 32768)) (2 * (b % 32)),
    tab := if num (cl C first) (2 * (b / 32)) = 0 then zt else numsOf (cl C (num (cl C first) (2 * (b / 32)) % 32768)) }
end Go.Proofs.YtknjjjenklfeoaaGreatDoor

/-
  The program's readers: find.
-/
namespace Go.Proofs.YtknjjjenklfeoaaGreatDoor
open Go.RowKit
attribute [local go_sem ↓] loadVar_clus storeVar_clus zeroValue_clus loadVar_tab storeVar_tab zeroValue_tab loadVar_cnt storeVar_cnt zeroValue_cnt loadVar_head storeVar_head zeroValue_head build_head buildSlice_clus loadVar_wr storeVar_wr zeroValue_wr build_wr buildSlice_wr equalIn_clus loadVar_place storeVar_place zeroValue_place build_place
attribute [local go_sem] run_loadClus run_storeClus run_zeroClus run_storeClus_new run_loadClus_new zc_length run_loadTab run_storeTab run_zeroTab run_storeTab_new run_loadTab_new zt_length run_loadCnt run_storeCnt run_zeroCnt run_storeCnt_new run_loadCnt_new zk_length run_loadHead run_storeHead run_zeroHead run_storeHead_new run_bHead HasAt_drew cellsAt_drew HasAt_drewN cellsAt_drewN run_bsClus run_loadWr run_zeroWr run_storeWr run_storeWr_new run_bWr0 run_bsWr run_loadPlace run_storePlace run_zeroPlace run_storePlace_new run_bPlace
end Go.Proofs.YtknjjjenklfeoaaGreatDoor

/-
  The program's Read: the volume's, the disk's.
-/
namespace Go.Proofs.YtknjjjenklfeoaaGreatDoor
open Go.RowKit
attribute [local go_sem ↓] loadVar_clus storeVar_clus zeroValue_clus loadVar_tab storeVar_tab zeroValue_tab loadVar_cnt storeVar_cnt zeroValue_cnt loadVar_head storeVar_head zeroValue_head build_head buildSlice_clus loadVar_wr storeVar_wr zeroValue_wr build_wr buildSlice_wr equalIn_clus loadVar_place storeVar_place zeroValue_place build_place
attribute [local go_sem] run_loadClus run_storeClus run_zeroClus run_storeClus_new run_loadClus_new zc_length run_loadTab run_storeTab run_zeroTab run_storeTab_new run_loadTab_new zt_length run_loadCnt run_storeCnt run_zeroCnt run_storeCnt_new run_loadCnt_new zk_length run_loadHead run_storeHead run_zeroHead run_storeHead_new run_bHead HasAt_drew cellsAt_drew HasAt_drewN cellsAt_drewN run_bsClus run_loadWr run_zeroWr run_storeWr run_storeWr_new run_bWr0 run_bsWr run_loadPlace run_storePlace run_zeroPlace run_storePlace_new run_bPlace
theorem field_head1 (a b : Nat) (w : World) : (Instr.field 128 (.agg (hv a b).toArray) 1).run Tryz.prog w = .ok (.int .i64 (b : Nat)) w := by
  kernel_rfl
theorem field_head0 (a b : Nat) (w : World) : (Instr.field 128 (.agg (hv a b).toArray) 0).run Tryz.prog w = .ok (.int .i64 (a : Nat)) w := by
  kernel_rfl
attribute [local go_sem] field_head1 field_head0
end Go.Proofs.YtknjjjenklfeoaaGreatDoor

/-
  The program's writers of parts: the counts, the head, a number of a table.
-/
namespace Go.Proofs.YtknjjjenklfeoaaGreatDoor
open Go.RowKit
attribute [local go_sem ↓] loadVar_clus storeVar_clus zeroValue_clus loadVar_tab storeVar_tab zeroValue_tab loadVar_cnt storeVar_cnt zeroValue_cnt loadVar_head storeVar_head zeroValue_head build_head buildSlice_clus loadVar_wr storeVar_wr zeroValue_wr build_wr buildSlice_wr equalIn_clus loadVar_place storeVar_place zeroValue_place build_place
attribute [local go_sem] run_loadClus run_storeClus run_zeroClus run_storeClus_new run_loadClus_new zc_length run_loadTab run_storeTab run_zeroTab run_storeTab_new run_loadTab_new zt_length run_loadCnt run_storeCnt run_zeroCnt run_storeCnt_new run_loadCnt_new zk_length run_loadHead run_storeHead run_zeroHead run_storeHead_new run_bHead HasAt_drew cellsAt_drew HasAt_drewN cellsAt_drewN run_bsClus run_loadWr run_zeroWr run_storeWr run_storeWr_new run_bWr0 run_bsWr run_loadPlace run_storePlace run_zeroPlace run_storePlace_new run_bPlace
theorem putV_lenC (V : VolR) (n : Nat) (d : Clus) : (putV V n d).C.length = max V.C.length (n + 1) := by
  unfold putV
  split
  · rename_i h; have := h.1; omega
  · simp only [putW, List.length_set, growTo_length]
theorem putV_lenL (V : VolR) (n : Nat) (d : Clus) : (putV V n d).L.length ≤ V.L.length + 2 := by
  unfold putV
  split
  · omega
  · have := completeV_lenL V
    simp only [putW, List.length_append, List.length_singleton]; omega
def putCnt (V : VolR) (k : List UInt8) : Nat → VolR
  | 0 => V
  | p + 1 => putV (putCnt V k p) (1 + p) (partOf k p)
theorem putCnt_lenC (V : VolR) (k : List UInt8) (p : Nat) : (putCnt V k p).C.length ≤ max V.C.length (p + 1) := by
  induction p with
  | zero => simp only [putCnt]; omega
  | succ p ih => simp only [putCnt, putV_lenC]; omega
theorem putCnt_lenL (V : VolR) (k : List UInt8) (p : Nat) : (putCnt V k p).L.length ≤ V.L.length + 2 * p := by
  induction p with
  | zero => simp only [putCnt]; omega
  | succ p ih => have := putV_lenL (putCnt V k p) (1 + p) (partOf k p); simp only [putCnt]; omega

set_option maxHeartbeats 1000000 in
set_option maxRecDepth 100000 in
theorem putCounts_any (w : World) (v : Nat) (Cv Lv : Value) (V : VolR) (h : VolAt w v Cv Lv V) (k : List UInt8) (hk : k.length = 256) (hC : V.C.length ≤ 1000) (hL : V.L.length ≤ 900000000) :
    Calls Tryz.prog 69 #[.pointer (some ⟨v, 0, none⟩), .agg (cv k).toArray] w fun e w' => e = .returned (.tuple #[]) ∧ ∃ Cv' Lv', VStep w w' v Cv Lv Cv' Lv' (putCnt V k 4) := by
  have E0 := hide ((Env.start h).lay (.cells (cv k).toArray 123))
  clear h
  go_enter Tryz.func69, Tryz.ntmps69
  go_wp2
  go_loopw [4, 5] (fun _ i w' => ∃ (p : Nat) (C1 L1 : Value), p ≤ 4 ∧ i = .int .i64 p ∧ Env w w' v Cv Lv C1 L1 (putCnt V k p) [(w.heap.size, .cells (cv k).toArray 123)]) (fun _ i _ => 4 - (intOf i).toNat)
  case atStart => exact ⟨0, Cv, Lv, by omega, rfl, unhide E0⟩
  case round =>
    obtain ⟨p, C1, L1, hp, rfl, hE⟩ := hrel
    clear E0
    by_cases hlt : p < 4
    · have hpi : (p : Int) < 4 := by omega
      have l1 := blk_has hE.drew.o0 (n := 256) (by rw [cv_length, hk])
      have l2 := blk_cells hE.drew.o0 (n := 256) (by rw [cv_length, hk])
      have hlC := putCnt_lenC V k p
      have hlL := putCnt_lenL V k p
      have hpl := partOf_length k p hk hlt
      have Hp := hide (part_any wr.drew k hk p hlt)
      have hw1 : IntKind.i64.wrap (1 + (p : Int)) = 1 + (p : Int) := IntWalk.i64_in _ (by omega)
      have HE := hide hE
      have Hpu : Hid (∀ W C1 L1, VolAt W v C1 L1 (putCnt V k p) → _) := fun W C1 L1 hW => put_any W v C1 L1 (putCnt V k p) hW (1 + p) (by omega) (partOf k p) hpl (by omega) (by omega)
      rw [show ((1 + p : Nat) : Int) = 1 + (p : Int) by omega] at Hpu
      clear hE
      generalize hcc : partOf k p = c at *
      go_wp2
      go_region_law (first
        | (go_simp
           go_at_call 132
           refine (unhide Hp).mono ?_
           rintro e w1 ⟨rfl, hb1⟩
           have E1 := hide ((unhide HE).drew.later hb1))
        | (go_simp
           go_at_call 70
           refine (unhide Hpu _ _ _ (unhide E1).at').mono ?_
           rintro e w2 ⟨rfl, C2, L2, hS⟩
           have E2 := hide ((unhide E1).does hS)
           clear hS))
      all_goals
        go_wp2
        go_roundw
        case rel =>
          refine ⟨p + 1, C2, L2, by omega, by go_num, ?_⟩
          rw [putCnt, hcc]
          exact unhide E2
        case measure => simp [intOf]; omega
    · have hp4 : p = 4 := by omega
      subst hp4
      have HS := hide hE.step
      clear hE
      go_wp2
      go_end0
      exact ⟨rfl, C1, L1, unhide HS⟩

set_option maxHeartbeats 1000000 in
set_option maxRecDepth 100000 in
theorem putHead_any (w : World) (v : Nat) (Cv Lv : Value) (V : VolR) (h : VolAt w v Cv Lv V) (a b : Nat) (ha : a < 65536) (hb : b < 65536) (hC : V.C.length ≤ 1000) (hL : V.L.length ≤ 900000000) :
    Calls Tryz.prog 72 #[.pointer (some ⟨v, 0, none⟩), .agg (hv a b).toArray] w fun e w' => e = .returned (.tuple #[]) ∧ ∃ Cv' Lv', VStep w w' v Cv Lv Cv' Lv' (putV V 0 (headBytes a b)) := by
  have E0 := (Env.start h).lay (.cells (hv a b).toArray 128)
  have l1 := blk_has E0.drew.o0 (n := 2) (hv_length _ _)
  have l2 := blk_cells E0.drew.o0 (n := 2) (hv_length _ _)
  have hbl := headBytes_length a b
  have Hp := hide (headCluster_any (w.alloc (.cells (hv a b).toArray 128)).drew a b ha hb)
  have Hpu : Hid (∀ W C1 L1, VolAt W v C1 L1 V → _) := fun W C1 L1 hW => put_any W v C1 L1 V hW 0 (by omega) (headBytes a b) hbl (by omega) (by omega)
  have HE := hide E0
  clear E0 h
  generalize headBytes a b = c at *
  go_enter Tryz.func72, Tryz.ntmps72
  go_wp2
  go_region_law (first
    | (go_simp
       go_at_call 134
       refine (unhide Hp).mono ?_
       rintro e w1 ⟨rfl, hb1⟩
       have E1 := hide ((unhide HE).drew.later hb1))
    | (go_simp
       go_at_call 70
       refine (unhide Hpu _ _ _ (unhide E1).at').mono ?_
       rintro e w2 ⟨rfl, C2, L2, hS⟩
       have E2 := hide ((unhide E1).does hS).step
       clear hS))
  all_goals
    go_end0
    exact ⟨rfl, C2, L2, unhide E2⟩

theorem numsOf_lt (c : Clus) (i : Nat) : (numsOf c).getD i 0 < 65536 := by
  by_cases hi : i < 32
  · rw [numsOf_get _ _ hi]; exact num_lt _ _
  · rw [List.getD_eq_getElem?_getD, List.getElem?_eq_none (by rw [numsOf_length]; omega)]; decide
end Go.Proofs.YtknjjjenklfeoaaGreatDoor

/-
  The program's lowestFree.
-/
namespace Go.Proofs.YtknjjjenklfeoaaGreatDoor
open Go.RowKit
attribute [local go_sem ↓] loadVar_clus storeVar_clus zeroValue_clus loadVar_tab storeVar_tab zeroValue_tab loadVar_cnt storeVar_cnt zeroValue_cnt loadVar_head storeVar_head zeroValue_head build_head buildSlice_clus loadVar_wr storeVar_wr zeroValue_wr build_wr buildSlice_wr equalIn_clus loadVar_place storeVar_place zeroValue_place build_place
attribute [local go_sem] run_loadClus run_storeClus run_zeroClus run_storeClus_new run_loadClus_new zc_length run_loadTab run_storeTab run_zeroTab run_storeTab_new run_loadTab_new zt_length run_loadCnt run_storeCnt run_zeroCnt run_storeCnt_new run_loadCnt_new zk_length run_loadHead run_storeHead run_zeroHead run_storeHead_new run_bHead HasAt_drew cellsAt_drew HasAt_drewN cellsAt_drewN run_bsClus run_loadWr run_zeroWr run_storeWr run_storeWr_new run_bWr0 run_bsWr run_loadPlace run_storePlace run_zeroPlace run_storePlace_new run_bPlace
def lowTo (c : List UInt8) (want : Nat) : Nat → List Nat
  | 0 => []
  | k + 1 => if (lowTo c want k).length = want then lowTo c want k else if byteAt c k = 0 then lowTo c want k ++ [k] else lowTo c want k
def lowFree (c : List UInt8) (want : Nat) : List Nat := lowTo c want 256
theorem lowTo_le (c : List UInt8) (want k : Nat) : (lowTo c want k).length ≤ want ∧ (lowTo c want k).length ≤ k := by
  induction k with
  | zero => simp [lowTo]
  | succ k ih =>
    rw [lowTo]
    split
    · omega
    · split
      · simp; omega
      · omega
end Go.Proofs.YtknjjjenklfeoaaGreatDoor

/-
  The program's lengthen, claim.
-/
namespace Go.Proofs.YtknjjjenklfeoaaGreatDoor
open Go.RowKit
attribute [local go_sem ↓] loadVar_clus storeVar_clus zeroValue_clus loadVar_tab storeVar_tab zeroValue_tab loadVar_cnt storeVar_cnt zeroValue_cnt loadVar_head storeVar_head zeroValue_head build_head buildSlice_clus loadVar_wr storeVar_wr zeroValue_wr build_wr buildSlice_wr equalIn_clus loadVar_place storeVar_place zeroValue_place build_place
attribute [local go_sem] run_loadClus run_storeClus run_zeroClus run_storeClus_new run_loadClus_new zc_length run_loadTab run_storeTab run_zeroTab run_storeTab_new run_loadTab_new zt_length run_loadCnt run_storeCnt run_zeroCnt run_storeCnt_new run_loadCnt_new zk_length run_loadHead run_storeHead run_zeroHead run_storeHead_new run_bHead HasAt_drew cellsAt_drew HasAt_drewN cellsAt_drewN run_bsClus run_loadWr run_zeroWr run_storeWr run_storeWr_new run_bWr0 run_bsWr run_loadPlace run_storePlace run_zeroPlace run_storePlace_new run_bPlace
attribute [local go_sem] field_head1 field_head0
def lastOf (F : List Nat) : Nat := F.getD (F.length - 1) 0
def lengthenV (V : VolR) (F : List Nat) : VolR := if num (cl V.C 0) 4 ≤ lastOf F then flushV (putV V 0 (headBytes (lastOf F + 1) (num (cl V.C 0) 6))) else V
theorem flushV_C (V : VolR) : (flushV V).C = V.C := by unfold flushV; split <;> rfl
theorem flushV_lenL (V : VolR) : (flushV V).L.length ≤ V.L.length + 1 := by unfold flushV; split <;> simp
def ones (k : List UInt8) (F : List Nat) : List UInt8 := F.foldl (fun k n => k.set n 1) k
theorem ones_length (k : List UInt8) (F : List Nat) : (ones k F).length = k.length := by
  unfold ones
  induction F generalizing k with
  | nil => rfl
  | cons a r ih => simp only [List.foldl_cons]; rw [ih]; simp
theorem ones_snoc (k : List UInt8) (F : List Nat) (n : Nat) : ones k (F ++ [n]) = (ones k F).set n 1 := by simp [ones]
theorem lengthenV_lenC (V : VolR) (F : List Nat) (h : 0 < V.C.length) : (lengthenV V F).C.length = V.C.length := by
  unfold lengthenV
  split
  · rw [flushV_C, putV_lenC]; omega
  · rfl
end Go.Proofs.YtknjjjenklfeoaaGreatDoor

/-
  The program's New: the volume's, the disk's.
-/
namespace Go.Proofs.YtknjjjenklfeoaaGreatDoor
open Go.RowKit
attribute [local go_sem ↓] loadVar_clus storeVar_clus zeroValue_clus loadVar_tab storeVar_tab zeroValue_tab loadVar_cnt storeVar_cnt zeroValue_cnt loadVar_head storeVar_head zeroValue_head build_head buildSlice_clus loadVar_wr storeVar_wr zeroValue_wr build_wr buildSlice_wr equalIn_clus loadVar_place storeVar_place zeroValue_place build_place
attribute [local go_sem] run_loadClus run_storeClus run_zeroClus run_storeClus_new run_loadClus_new zc_length run_loadTab run_storeTab run_zeroTab run_storeTab_new run_loadTab_new zt_length run_loadCnt run_storeCnt run_zeroCnt run_storeCnt_new run_loadCnt_new zk_length run_loadHead run_storeHead run_zeroHead run_storeHead_new run_bHead HasAt_drew cellsAt_drew HasAt_drewN cellsAt_drewN run_bsClus run_loadWr run_zeroWr run_storeWr run_storeWr_new run_bWr0 run_bsWr run_loadPlace run_storePlace run_zeroPlace run_storePlace_new run_bPlace
attribute [local go_sem] field_head1 field_head0
def vol0 : VolR := ⟨[], [], false, false⟩
def seven : List Nat := [0, 1, 2, 3, 4, 5, 6]
def newV1 : VolR := putCnt vol0 (ones zk seven) 4
def newV2 : VolR := putV newV1 5 zc
def newV3 : VolR := putV newV2 6 zc
def newV4 : VolR := flushV newV3
def newV5 : VolR := putV newV4 0 (headBytes 7 6)
def newV : VolR := flushV newV5
theorem newV_lens : newV1.C.length ≤ 10 ∧ newV2.C.length ≤ 10 ∧ newV3.C.length ≤ 10 ∧ newV4.C.length ≤ 10 ∧ newV5.C.length ≤ 10 ∧ newV1.L.length ≤ 40 ∧ newV2.L.length ≤ 40 ∧ newV3.L.length ≤ 40 ∧ newV4.L.length ≤ 40 ∧ newV5.L.length ≤ 40 := by
  have a1 := putCnt_lenC vol0 (ones zk seven) 4
  have b1 := putCnt_lenL vol0 (ones zk seven) 4
  have c0 : vol0.C.length = 0 := rfl
  have d0 : vol0.L.length = 0 := rfl
  have e1 : newV1.C.length ≤ 5 := by unfold newV1; omega
  have f1 : newV1.L.length ≤ 8 := by unfold newV1; omega
  have e2 : newV2.C.length = max newV1.C.length 6 := putV_lenC _ _ _
  have f2 : newV2.L.length ≤ newV1.L.length + 2 := putV_lenL _ _ _
  have e3 : newV3.C.length = max newV2.C.length 7 := putV_lenC _ _ _
  have f3 : newV3.L.length ≤ newV2.L.length + 2 := putV_lenL _ _ _
  have e4 : newV4.C.length = newV3.C.length := by unfold newV4; rw [flushV_C]
  have f4 : newV4.L.length ≤ newV3.L.length + 1 := flushV_lenL _
  have e5 : newV5.C.length = max newV4.C.length 1 := putV_lenC _ _ _
  have f5 : newV5.L.length ≤ newV4.L.length + 2 := putV_lenL _ _ _
  omega
theorem seven_take : ∀ k, k < 7 → seven.take (k + 1) = seven.take k ++ [k] := by decide
theorem vol0_at (w : World) : VolAt (w.alloc (.cells #[.slice none 0 0, .slice none 0 0, .bool false, .bool false] 121)) w.heap.size (.slice none 0 0) (.slice none 0 0) vol0 :=
  ⟨heap_alloc_new w _, World.ownsRow_nil _ _ _ _, World.ownsRow_nil _ _ _ _, (by intro c hc; cases hc), (by intro c hc; cases hc), (by intro h; cases h)⟩

set_option maxHeartbeats 1000000 in
set_option maxRecDepth 100000 in
theorem volNew_any (w : World) : Calls Tryz.prog 36 #[] w fun e w' => ∃ Cv Lv, e = .returned (.pointer (some ⟨w.heap.size, 0, none⟩)) ∧ VStep (w.alloc (.cells #[.slice none 0 0, .slice none 0 0, .bool false, .bool false] 121)) w' w.heap.size (.slice none 0 0) (.slice none 0 0) Cv Lv newV := by
  have E0 := (Env.start (vol0_at w)).lay (.cells (cv zk).toArray 123)
  have hls := newV_lens
  have hbh : ∀ W, (bHead #[(0, .int .i64 7), (1, .int .i64 6)]).run Tryz.prog W = .ok (.agg (hv 7 6).toArray) W := fun W => run_bHead 7 6 W
  have E0 := hide E0
  go_enter Tryz.func36, Tryz.ntmps36
  go_wp2
  rw [World.size_alloc] at E0
  generalize (w.alloc (.cells #[.slice none 0 0, .slice none 0 0, .bool false, .bool false] 121)).alloc (.cells (cv zk).toArray 123) = W at E0 ⊢
  generalize hw0 : w.alloc (.cells #[.slice none 0 0, .slice none 0 0, .bool false, .bool false] 121) = w0 at *
  go_loopw [3, 6] (fun _ i w' => ∃ k : Nat, k ≤ 7 ∧ i = .int .i64 k ∧ Env w0 w' w.heap.size (.slice none 0 0) (.slice none 0 0) (.slice none 0 0) (.slice none 0 0) vol0 [(w.heap.size + 1, .cells (cv (ones zk (seven.take k))).toArray 123)]) (fun _ i _ => 7 - (intOf i).toNat)
  case atStart => exact ⟨0, by omega, rfl, unhide E0⟩
  case round =>
    obtain ⟨k, hk, rfl, hE⟩ := hrel
    clear E0
    have hol : (ones zk (seven.take k)).length = 256 := by rw [ones_length]; exact zk_length
    by_cases hlt : k < 7
    · have hki : (k : Int) < 7 := by omega
      have c1 : wr.cell? ⟨w.heap.size + 1, k, none⟩ = some (.int .u8 (byteAt (ones zk (seven.take k)) k : Nat)) := by
        rw [cell_blk hE.o0, List.getElem?_toArray, cv_get _ _ (by omega)]
      have f1 := frozen_blk hE.o0
      have E3 := hE.put (by simp) (Kept.only _ (w.heap.size + 1) k (.int .u8 1)) (heap_setCell_same _ _ _ _ _ _ _ hE.o0)
      have hset : (cv (ones zk (seven.take k))).toArray.setIfInBounds k (.int .u8 1) = (cv (ones zk (seven.take (k + 1)))).toArray := by
        rw [seven_take k hlt, ones_snoc, List.setIfInBounds_toArray]
        congr 1
        have := cv_setB (ones zk (seven.take k)) k 1 (by omega)
        exact this.symm
      rw [hset] at E3
      have HE := hide E3
      clear E3 hE hset
      go_wp2
      go_roundw
      case rel => exact ⟨k + 1, by omega, by go_num, unhide HE⟩
      case measure => simp [intOf]; omega
    · have hk7 : k = 7 := by omega
      subst hk7
      have hE' : Env w0 wr w.heap.size (.slice none 0 0) (.slice none 0 0) (.slice none 0 0) (.slice none 0 0) vol0 [(w.heap.size + 1, .cells (cv (ones zk seven)).toArray 123)] := hE
      have hol' : (ones zk seven).length = 256 := hol
      have l1 := blk_has hE'.o0 (n := 256) (by rw [cv_length, hol'])
      have l2 := blk_cells hE'.o0 (n := 256) (by rw [cv_length, hol'])
      have Hp := hide (putCounts_any wr _ _ _ vol0 hE'.at' (ones zk seven) hol' (by decide) (by decide))
      have HE := hide hE'
      clear hE hE' hol
      have HV1 : Hid (newV1 = putCnt vol0 (ones zk seven) 4) := rfl
      generalize ones zk seven = k7 at *
      go_wp2_with fail
      refine (unhide Hp).mono ?_
      rintro e w1 ⟨rfl, C1, L1, hS1⟩
      rw [← unhide HV1] at hS1
      have E1 := hide ((unhide HE).does hS1)
      clear hS1 HE Hp l1 l2
      go_wp2_with fail
      refine (put_any _ _ _ _ _ (unhide E1).at' 5 (by omega) zc zc_length (by omega) (by omega)).mono ?_
      rintro e w2 ⟨rfl, C2, L2, hS2⟩
      have E2 : Hid (Env _ _ _ _ _ _ _ newV2 _) := hide ((unhide E1).does hS2)
      clear hS2 E1
      go_wp2_with fail
      refine (put_any _ _ _ _ _ (unhide E2).at' 6 (by omega) zc zc_length (by omega) (by omega)).mono ?_
      rintro e w3 ⟨rfl, C3, L3, hS3⟩
      have E3 : Hid (Env _ _ _ _ _ _ _ newV3 _) := hide ((unhide E2).does hS3)
      clear hS3 E2
      go_wp2_with fail
      refine (flush_any _ _ _ _ _ (unhide E3).at' (by omega)).mono ?_
      rintro e w4 ⟨rfl, C4, L4, hS4⟩
      have E4 : Hid (Env _ _ _ _ _ _ _ newV4 _) := hide ((unhide E3).does hS4)
      clear hS4 E3
      go_wp2_with fail
      refine (putHead_any _ _ _ _ _ (unhide E4).at' 7 6 (by omega) (by omega) (by omega) (by omega)).mono ?_
      rintro e w5 ⟨rfl, C5, L5, hS5⟩
      have E5 : Hid (Env _ _ _ _ _ _ _ newV5 _) := hide ((unhide E4).does hS5)
      clear hS5 E4
      go_wp2_with fail
      refine (flush_any _ _ _ _ _ (unhide E5).at' (by omega)).mono ?_
      rintro e w6 ⟨rfl, C6, L6, hS6⟩
      have E6 : Hid (VStep _ _ _ _ _ _ _ newV) := hide ((unhide E5).does hS6).step
      clear hS6 E5
      go_wp2
      go_ret
      exact ⟨C6, L6, rfl, by rw [hw0]; exact unhide E6⟩

theorem new_below {w w' : World} {Cv Lv : Value} {V : VolR} {o : Obj} (h : VStep (w.alloc o) w' w.heap.size (.slice none 0 0) (.slice none 0 0) Cv Lv V) : Below w.heap.size w w' ∧ ∀ k, foot w.heap.size Cv Lv k → w.heap.size ≤ k := by
  refine ⟨⟨h.kept.os, h.kept.tape, h.kept.output, by have := h.kept.size; simp at this; omega, fun k hk => ?_⟩, fun k hk => ?_⟩
  · rw [h.kept.block k (by simp; omega) (by rintro (e | e | e); omega; cases e; cases e)]
    exact Below.heap_alloc _ _ _ hk
  · rcases h.new k hk with (e | e | e) | e
    · omega
    · cases e
    · cases e
    · simp at e; omega

set_option maxHeartbeats 1000000 in
theorem diskNew_any (w : World) : Calls Tryz.prog 11 #[] w fun e w' => ∃ d v Cv Lv, e = .returned (.pointer (some ⟨d, 0, none⟩)) ∧ DskAt w' d v Cv Lv newV ∧ Below w.heap.size w w' ∧ ∀ k, dfoot d v Cv Lv k → w.heap.size ≤ k := by
  have Hn := hide (volNew_any w)
  go_enter Tryz.func11, Tryz.ntmps11
  go_wp2_with fail
  refine (unhide Hn).mono ?_
  rintro e w1 ⟨Cv, Lv, rfl, hS⟩
  obtain ⟨hB, hF⟩ := new_below hS
  have HS := hide hS.at'
  have HB := hide hB
  have HF := hide hF
  clear hS hB hF
  go_wp2
  go_ret
  refine ⟨w1.heap.size, w.heap.size, Cv, Lv, rfl, ⟨heap_alloc_new _ _, (unhide HS).alloc _⟩, (unhide HB).alloc (unhide HB).size _, fun k hk => ?_⟩
  rcases hk with e | e
  · have := (unhide HB).size; omega
  · exact unhide HF k e
end Go.Proofs.YtknjjjenklfeoaaGreatDoor
