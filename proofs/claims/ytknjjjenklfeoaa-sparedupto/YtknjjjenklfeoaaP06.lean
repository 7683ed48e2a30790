import Derived.Test.YtknjjjenklfeoaaP05
import Derived.RangeFuncNested
import Derived.RangeFuncBound
import Derived.RangeFuncCalls
import Derived.RangeFuncLeaves
import Derived.Shelf.Abstract
import Derived.Shelf.RegionOpen
import Derived.WalkKit
import Derived.OwnWalkIn
import Derived.TacticsInMore
import Derived.LoopNIn
import Derived.LoopIn
/-
  The program's lengthen, claim.
-/
namespace Go.Proofs.Ytknjjjenklfeoaa
open Go.RowKit
attribute [local go_sem ↓] loadVar_clus storeVar_clus zeroValue_clus loadVar_tab storeVar_tab zeroValue_tab loadVar_cnt storeVar_cnt zeroValue_cnt loadVar_head storeVar_head zeroValue_head build_head buildSlice_clus loadVar_wr storeVar_wr zeroValue_wr build_wr buildSlice_wr equalIn_clus loadVar_place storeVar_place zeroValue_place build_place
attribute [local go_sem] run_loadClus run_storeClus run_zeroClus run_storeClus_new run_loadClus_new zc_length run_loadTab run_storeTab run_zeroTab run_storeTab_new run_loadTab_new zt_length run_loadCnt run_storeCnt run_zeroCnt run_storeCnt_new run_loadCnt_new zk_length run_loadHead run_storeHead run_zeroHead run_storeHead_new run_bHead HasAt_drew cellsAt_drew HasAt_drewN cellsAt_drewN run_bsClus run_loadWr run_zeroWr run_storeWr run_storeWr_new run_bWr0 run_bsWr run_loadPlace run_storePlace run_zeroPlace run_storePlace_new run_bPlace
attribute [local go_sem] field_head1 field_head0
def lastOf (F : List Nat) : Nat := F.getD (F.length - 1) 0
def lengthenV (V : VolR) (F : List Nat) : VolR := if num (cl V.C 0) 4 ≤ lastOf F then flushV (putV V 0 (headBytes (lastOf F + 1) (num (cl V.C 0) 6))) else V
theorem flushV_C (V : VolR) : (flushV V).C = V.C := by unfold flushV; split <;> rfl
theorem flushV_lenL (V : VolR) : (flushV V).L.length ≤ V.L.length + 1 := by unfold flushV; split <;> simp
/-- A slice of numbers lies in no block of a volume. -/
theorem ints_ne {w : World} {v : Nat} {Cv Lv x : Value} {V : VolR} (h : VolAt w v Cv Lv V) {base n : Nat} {xs : List Value} (hr : w.ownsRow base 3 1 x n xs) : ∀ g, x.ownBlock = some g → ¬ foot v Cv Lv g := by
  intro g hg
  rcases hr.2 with ⟨rfl, _⟩ | ⟨g', cap, cur, rfl, _, hh, _⟩
  · cases hg
  · simp only [Value.ownBlock, Option.some.injEq] at hg
    subst hg
    rintro (e | e | e)
    · subst e; rw [h.blk] at hh; cases hh
    · exact row_ne h.rowC hh (by decide) _ e rfl
    · exact row_ne h.rowL hh (by decide) _ e rfl
theorem ints_kept {w w' : World} {v : Nat} {Cv Lv C1 L1 x : Value} {V V1 : VolR} (h : VolAt w v Cv Lv V) {base n : Nat} {xs : List Value} (hr : w.ownsRow base 3 1 x n xs) (hs : VStep w w' v Cv Lv C1 L1 V1) : w'.ownsRow base 3 1 x n xs :=
  ownsRow_kept hs.kept hr (ints_ne h hr)

set_option maxHeartbeats 1000000 in
set_option maxRecDepth 100000 in
theorem lengthen_any (w : World) (v : Nat) (Cv Lv : Value) (V : VolR) (h : VolAt w v Cv Lv V) (F : List Nat) (hF : 0 < F.length) (hF2 : F.length ≤ 100) (hl : lastOf F < 256) (x : Value) (hx : w.ownsRow 0 3 1 x F.length (iv F)) (h5 : 5 ≤ V.C.length) (hC : V.C.length ≤ 1000) (hL : V.L.length ≤ 900000000) :
    Calls Try.prog 58 #[.pointer (some ⟨v, 0, none⟩), x] w fun e w' => e = .returned (.tuple #[]) ∧ ∃ Cv' Lv', VStep w w' v Cv Lv Cv' Lv' (lengthenV V F) := by
  obtain ⟨g, cap, rfl, _⟩ := row_some hx hF
  have Hh := hide (head_vol w v Cv Lv V h (by omega))
  have hn4 := num_lt (cl V.C 0) 4
  have hn6 := num_lt (cl V.C 0) 6
  have HV : Hid (lengthenV V F = if num (cl V.C 0) 4 ≤ lastOf F then flushV (putV V 0 (headBytes (lastOf F + 1) (num (cl V.C 0) 6))) else V) := rfl
  have hcx : w.cell? ⟨g, F.length - 1, none⟩ = some (.int .i64 (lastOf F : Nat)) := by
    have := hx.cellAt (F.length - 1) (by omega)
    rw [this]
    unfold iv lastOf
    rw [List.getElem?_map, List.getD_eq_getElem?_getD, List.getElem?_eq_getElem (by omega)]
    rfl
  have hgl := (hx.lt g rfl).2
  have Hpu : Hid (∀ a b W C1 L1, a < 65536 → b < 65536 → VolAt W v C1 L1 V → _) := fun a b W C1 L1 ha hb hW => putHead_any W v C1 L1 V hW a b ha hb hC hL
  have Hfl : Hid (∀ c W C1 L1, VolAt W v C1 L1 (putV V 0 c) → _) := fun c W C1 L1 hW => flush_any W v C1 L1 (putV V 0 c) hW (by have := putV_lenL V 0 c; omega)
  have H := hide h
  have Hx := hide hx
  clear h hx
  generalize num (cl V.C 0) 4 = a at *
  generalize num (cl V.C 0) 6 = b at *
  generalize lastOf F = last at *
  have hlen : (((F.length : Nat) : Int) - 1) = ((F.length - 1 : Nat) : Int) := by omega
  generalize F.length - 1 = m at *
  go_enter Try.func58, Try.ntmps58
  go_wp2_with fail
  refine (unhide Hh).mono ?_
  rintro e w1 ⟨rfl, hb1⟩
  have E1 := ((Env.start (unhide H)).later hb1).lay (.cells (hv a b).toArray 64)
  have c0 : (w1.alloc (.cells (hv a b).toArray 64)).cell? ⟨w1.heap.size, 0, none⟩ = some (.int .i64 (a : Nat)) := (cell_new w1 _ _ _ 0).trans rfl
  have c1 : (w1.alloc (.cells (hv a b).toArray 64)).cell? ⟨g, m, none⟩ = some (.int .i64 (last : Nat)) := by
    rw [World.cell?_alloc_lt _ _ _ (Nat.lt_of_lt_of_le hgl hb1.size)]
    exact (hb1.cell (p := ⟨g, m, none⟩) hgl).trans hcx
  have f1 := frozen_blk E1.o0
  by_cases hle : a ≤ last
  · rw [if_pos hle] at HV
    have dl : decide ((a : Int) ≤ (last : Int)) = true := by simpa using hle
    have hset : (hv a b).toArray.setIfInBounds 0 (.int .i64 ((last : Int) + 1)) = (hv (last + 1) b).toArray := by simp [hv]
    have E2 := E1.put (by simp) (Kept.only _ w1.heap.size 0 (.int .i64 ((last : Int) + 1))) (heap_setCell_same _ _ _ _ _ _ _ E1.o0)
    rw [hset] at E2
    generalize hW2 : World.setCell _ ⟨w1.heap.size, 0, none⟩ (.int .i64 ((last : Int) + 1)) = W2 at E2
    have l1 := blk_has E2.o0 (n := 2) (hv_length _ _)
    have l2 := blk_cells E2.o0 (n := 2) (hv_length _ _)
    have E2 := hide E2
    clear E1 hset
    go_wp2_with fail
    refine (unhide Hpu (last + 1) b W2 _ _ (by omega) hn6 (unhide E2).at').mono ?_
    rintro e w3 ⟨rfl, C3, L3, hS3⟩
    have E3 := hide ((unhide E2).does hS3)
    clear hS3 E2 l1 l2
    go_wp2_with fail
    refine (unhide Hfl _ _ _ _ (unhide E3).at').mono ?_
    rintro e w4 ⟨rfl, C4, L4, hS4⟩
    have E4 := hide ((unhide E3).does hS4).step
    go_wp2
    go_end0
    exact ⟨rfl, C4, L4, by rw [unhide HV]; exact unhide E4⟩
  · rw [if_neg hle] at HV
    have dl : decide ((a : Int) ≤ (last : Int)) = false := by simp; omega
    have E2 := hide E1.step
    clear E1
    go_wp2
    go_end0
    exact ⟨rfl, Cv, Lv, by rw [unhide HV]; exact unhide E2⟩

def ones (k : List UInt8) (F : List Nat) : List UInt8 := F.foldl (fun k n => k.set n 1) k
theorem ones_length (k : List UInt8) (F : List Nat) : (ones k F).length = k.length := by
  unfold ones
  induction F generalizing k with
  | nil => rfl
  | cons a r ih => simp only [List.foldl_cons]; rw [ih]; simp
theorem ones_snoc (k : List UInt8) (F : List Nat) (n : Nat) : ones k (F ++ [n]) = (ones k F).set n 1 := by simp [ones]
def claimV (V : VolR) (F : List Nat) : VolR := putCnt (lengthenV V F) (ones (cntsOf (lengthenV V F).C) F) 4
theorem lengthenV_lenC (V : VolR) (F : List Nat) (h : 0 < V.C.length) : (lengthenV V F).C.length = V.C.length := by
  unfold lengthenV
  split
  · rw [flushV_C, putV_lenC]; omega
  · rfl
theorem lengthenV_lenL (V : VolR) (F : List Nat) : (lengthenV V F).L.length ≤ V.L.length + 3 := by
  unfold lengthenV
  split
  · have h1 := flushV_lenL (putV V 0 (headBytes (lastOf F + 1) (num (cl V.C 0) 6)))
    have h2 := putV_lenL V 0 (headBytes (lastOf F + 1) (num (cl V.C 0) 6))
    omega
  · omega

set_option maxHeartbeats 1000000 in
set_option maxRecDepth 100000 in
theorem claim_any (w : World) (v : Nat) (Cv Lv : Value) (V : VolR) (h : VolAt w v Cv Lv V) (F : List Nat) (hF : 0 < F.length) (hF2 : F.length ≤ 100) (hl : lastOf F < 256) (hFl : ∀ n ∈ F, n < 256) (x : Value) (hx : w.ownsRow 0 3 1 x F.length (iv F)) (h5 : 5 ≤ V.C.length) (hC : V.C.length ≤ 1000) (hL : V.L.length ≤ 800000000) :
    Calls Try.prog 74 #[.pointer (some ⟨v, 0, none⟩), x] w fun e w' => e = .returned (.tuple #[]) ∧ ∃ Cv' Lv', VStep w w' v Cv Lv Cv' Lv' (claimV V F) := by
  obtain ⟨g, cap, rfl, _⟩ := row_some hx hF
  have Hl := hide (lengthen_any w v Cv Lv V h F hF hF2 hl _ hx h5 hC (by omega))
  have hlC := lengthenV_lenC V F (by omega)
  have hlL := lengthenV_lenL V F
  have HV : Hid (claimV V F = putCnt (lengthenV V F) (ones (cntsOf (lengthenV V F).C) F) 4) := rfl
  have H := hide h
  have Hx := hide hx
  clear h hx
  generalize lengthenV V F = V1 at *
  go_enter Try.func74, Try.ntmps74
  go_wp2_with fail
  refine (unhide Hl).mono ?_
  rintro e w1 ⟨rfl, C1, L1, hS1⟩
  have hx1 := ints_kept (unhide H) (unhide Hx) hS1
  have Hc := hide (counts_vol w1 v C1 L1 V1 hS1.at' (by omega))
  have hkl := cntsOf_length V1.C hS1.at'.lenC (by omega)
  have E1 := hide ((Env.start (unhide H)).does hS1)
  have Hx1 := hide hx1
  clear hS1 Hl Hx hx1
  generalize cntsOf V1.C = k at *
  go_wp2_with fail
  refine (unhide Hc).mono ?_
  rintro e w2 ⟨rfl, hb2⟩
  have E2 := hide (((unhide E1).later hb2).lay (.cells (cv k).toArray 86))
  have Hx2 : Hid ((w2.alloc (.cells (cv k).toArray 86)).ownsRow 0 3 1 (.slice (some ⟨g, 0, none⟩) F.length cap) F.length (iv F)) := (ownsRow_kept (S := fun _ => False) (Kept.of_below hb2) (unhide Hx1) (fun _ _ => id)).alloc _
  clear E1 Hx1 Hc hb2
  go_wp2
  generalize hW2 : w2.alloc (.cells (cv k).toArray 86) = W2 at *
  generalize w2.heap.size = bk at *
  go_loopw [6, 14] (fun _ i w' => ∃ m : Nat, m ≤ F.length ∧ i = .int .i64 m ∧ Env w w' v Cv Lv C1 L1 V1 [(bk, .cells (cv (ones k (F.take m))).toArray 86)] ∧ w'.ownsRow 0 3 1 (.slice (some ⟨g, 0, none⟩) F.length cap) F.length (iv F)) (fun _ i _ => F.length - (intOf i).toNat)
  case atStart => exact ⟨0, by omega, rfl, unhide E2, unhide Hx2⟩
  case round =>
    obtain ⟨m, hm, rfl, hE, hx⟩ := hrel
    clear E2 Hx2
    have hol : (ones k (F.take m)).length = 256 := by rw [ones_length]; exact hkl
    by_cases hlt : m < F.length
    · have hmi : (m : Int) < (F.length : Int) := by omega
      have hcx : wr.cell? ⟨g, m, none⟩ = some (.int .i64 ((F.getD m 0 : Nat) : Int)) := by
        have := hx.cellAt m (by omega)
        rw [this]
        unfold iv
        rw [List.getElem?_map, List.getD_eq_getElem?_getD, List.getElem?_eq_getElem hlt]
        rfl
      have hn : F.getD m 0 < 256 := by
        rw [List.getD_eq_getElem?_getD, List.getElem?_eq_getElem hlt]; exact hFl _ (List.getElem_mem hlt)
      have Ht : Hid (ones k (F.take (m + 1)) = (ones k (F.take m)).set (F.getD m 0) 1) := by
        show _ = _
        rw [← ones_snoc, List.take_succ_eq_append_getElem hlt, List.getD_eq_getElem?_getD, List.getElem?_eq_getElem hlt]; rfl
      generalize F.getD m 0 = n at *
      have c1 : wr.cell? ⟨bk, n, none⟩ = some (.int .u8 (byteAt (ones k (F.take m)) n : Nat)) := by
        rw [cell_blk hE.o0, List.getElem?_toArray, cv_get _ _ (by omega)]
      have f1 := frozen_blk hE.o0
      have hni : (n : Int) < 256 := by omega
      have hgne : ∀ g', (Value.slice (some ⟨g, 0, none⟩) F.length cap).ownBlock = some g' → ¬ (g' = bk) := row_ne hx hE.o0 (by decide)
      have E3 := hE.put (by simp) (Kept.only _ bk n (.int .u8 1)) (heap_setCell_same _ _ _ _ _ _ _ hE.o0)
      have hset : (cv (ones k (F.take m))).toArray.setIfInBounds n (.int .u8 1) = (cv (ones k (F.take (m + 1)))).toArray := by
        rw [unhide Ht, List.setIfInBounds_toArray]
        congr 1
        have := cv_setB (ones k (F.take m)) n 1 (by omega)
        exact this.symm
      rw [hset] at E3
      have HX := hide (ownsRow_kept (Kept.only wr bk n (.int .u8 1)) hx hgne)
      have HE := hide E3
      clear E3 hE hx hset Ht
      go_wp2
      go_roundw
      case rel => exact ⟨m + 1, by omega, by go_num, unhide HE, unhide HX⟩
      case measure => simp [intOf]; omega
    · have hmF : m = F.length := by omega
      subst hmF
      rw [List.take_length] at hE hol
      have l1 := blk_has hE.o0 (n := 256) (by rw [cv_length, hol])
      have l2 := blk_cells hE.o0 (n := 256) (by rw [cv_length, hol])
      have Hp := hide (putCounts_any wr v C1 L1 V1 hE.at' (ones k F) hol (by omega) (by omega))
      have HE := hide hE
      clear hE hx
      generalize ones k F = k' at *
      go_wp2_with fail
      refine (unhide Hp).mono ?_
      rintro e w4 ⟨rfl, C4, L4, hS4⟩
      have E4 := hide ((unhide HE).does hS4).step
      go_wp2
      go_end0
      exact ⟨rfl, C4, L4, by rw [unhide HV]; exact unhide E4⟩
end Go.Proofs.Ytknjjjenklfeoaa

/-
  The program's New: the volume's, the disk's.
-/
namespace Go.Proofs.Ytknjjjenklfeoaa
open Go.RowKit
attribute [local go_sem ↓] loadVar_clus storeVar_clus zeroValue_clus loadVar_tab storeVar_tab zeroValue_tab loadVar_cnt storeVar_cnt zeroValue_cnt loadVar_head storeVar_head zeroValue_head build_head buildSlice_clus loadVar_wr storeVar_wr zeroValue_wr build_wr buildSlice_wr equalIn_clus loadVar_place storeVar_place zeroValue_place build_place
attribute [local go_sem] run_loadClus run_storeClus run_zeroClus run_storeClus_new run_loadClus_new zc_length run_loadTab run_storeTab run_zeroTab run_storeTab_new run_loadTab_new zt_length run_loadCnt run_storeCnt run_zeroCnt run_storeCnt_new run_loadCnt_new zk_length run_loadHead run_storeHead run_zeroHead run_storeHead_new run_bHead HasAt_drew cellsAt_drew HasAt_drewN cellsAt_drewN run_bsClus run_loadWr run_zeroWr run_storeWr run_storeWr_new run_bWr0 run_bsWr run_loadPlace run_storePlace run_zeroPlace run_storePlace_new run_bPlace
attribute [local go_sem] field_head1 field_head0
def vol0 : VolR := ⟨[], [], false, false⟩
def seven : List Nat := [0, 1, 2, 3, 4, 5, 6]
def newV1 : VolR := putCnt vol0 (ones zk seven) 4
def newV2 : VolR := putV newV1 5 zc
def newV3 : VolR := putV newV2 6 zc
def newV4 : VolR := flushV newV3
def newV5 : VolR := putV newV4 0 (headBytes 7 6)
def newV : VolR := flushV newV5
theorem newV_lens : newV1.C.length ≤ 10 ∧ newV2.C.length ≤ 10 ∧ newV3.C.length ≤ 10 ∧ newV4.C.length ≤ 10 ∧ newV5.C.length ≤ 10 ∧ newV1.L.length ≤ 40 ∧ newV2.L.length ≤ 40 ∧ newV3.L.length ≤ 40 ∧ newV4.L.length ≤ 40 ∧ newV5.L.length ≤ 40 := by
  have a1 := putCnt_lenC vol0 (ones zk seven) 4
  have b1 := putCnt_lenL vol0 (ones zk seven) 4
  have c0 : vol0.C.length = 0 := rfl
  have d0 : vol0.L.length = 0 := rfl
  have e1 : newV1.C.length ≤ 5 := by unfold newV1; omega
  have f1 : newV1.L.length ≤ 8 := by unfold newV1; omega
  have e2 : newV2.C.length = max newV1.C.length 6 := putV_lenC _ _ _
  have f2 : newV2.L.length ≤ newV1.L.length + 2 := putV_lenL _ _ _
  have e3 : newV3.C.length = max newV2.C.length 7 := putV_lenC _ _ _
  have f3 : newV3.L.length ≤ newV2.L.length + 2 := putV_lenL _ _ _
  have e4 : newV4.C.length = newV3.C.length := by unfold newV4; rw [flushV_C]
  have f4 : newV4.L.length ≤ newV3.L.length + 1 := flushV_lenL _
  have e5 : newV5.C.length = max newV4.C.length 1 := putV_lenC _ _ _
  have f5 : newV5.L.length ≤ newV4.L.length + 2 := putV_lenL _ _ _
  omega
theorem seven_take : ∀ k, k < 7 → seven.take (k + 1) = seven.take k ++ [k] := by decide
theorem vol0_at (w : World) : VolAt (w.alloc (.cells #[.slice none 0 0, .slice none 0 0, .bool false, .bool false] 73)) w.heap.size (.slice none 0 0) (.slice none 0 0) vol0 :=
  ⟨heap_alloc_new w _, World.ownsRow_nil _ _ _ _, World.ownsRow_nil _ _ _ _, (by intro c hc; cases hc), (by intro c hc; cases hc), (by intro h; cases h)⟩

set_option maxHeartbeats 1000000 in
set_option maxRecDepth 100000 in
theorem volNew_any (w : World) : Calls Try.prog 24 #[] w fun e w' => ∃ Cv Lv, e = .returned (.pointer (some ⟨w.heap.size, 0, none⟩)) ∧ VStep (w.alloc (.cells #[.slice none 0 0, .slice none 0 0, .bool false, .bool false] 73)) w' w.heap.size (.slice none 0 0) (.slice none 0 0) Cv Lv newV := by
  have E0 := (Env.start (vol0_at w)).lay (.cells (cv zk).toArray 86)
  have hls := newV_lens
  have hbh : ∀ W, (bHead #[(0, .int .i64 7), (1, .int .i64 6)]).run Try.prog W = .ok (.agg (hv 7 6).toArray) W := fun W => run_bHead 7 6 W
  have E0 := hide E0
  go_enter Try.func24, Try.ntmps24
  go_wp2
  rw [World.size_alloc] at E0
  generalize (w.alloc (.cells #[.slice none 0 0, .slice none 0 0, .bool false, .bool false] 73)).alloc (.cells (cv zk).toArray 86) = W at E0 ⊢
  generalize hw0 : w.alloc (.cells #[.slice none 0 0, .slice none 0 0, .bool false, .bool false] 73) = w0 at *
  go_loopw [3, 6] (fun _ i w' => ∃ k : Nat, k ≤ 7 ∧ i = .int .i64 k ∧ Env w0 w' w.heap.size (.slice none 0 0) (.slice none 0 0) (.slice none 0 0) (.slice none 0 0) vol0 [(w.heap.size + 1, .cells (cv (ones zk (seven.take k))).toArray 86)]) (fun _ i _ => 7 - (intOf i).toNat)
  case atStart => exact ⟨0, by omega, rfl, unhide E0⟩
  case round =>
    obtain ⟨k, hk, rfl, hE⟩ := hrel
    clear E0
    have hol : (ones zk (seven.take k)).length = 256 := by rw [ones_length]; exact zk_length
    by_cases hlt : k < 7
    · have hki : (k : Int) < 7 := by omega
      have c1 : wr.cell? ⟨w.heap.size + 1, k, none⟩ = some (.int .u8 (byteAt (ones zk (seven.take k)) k : Nat)) := by
        rw [cell_blk hE.o0, List.getElem?_toArray, cv_get _ _ (by omega)]
      have f1 := frozen_blk hE.o0
      have E3 := hE.put (by simp) (Kept.only _ (w.heap.size + 1) k (.int .u8 1)) (heap_setCell_same _ _ _ _ _ _ _ hE.o0)
      have hset : (cv (ones zk (seven.take k))).toArray.setIfInBounds k (.int .u8 1) = (cv (ones zk (seven.take (k + 1)))).toArray := by
        rw [seven_take k hlt, ones_snoc, List.setIfInBounds_toArray]
        congr 1
        have := cv_setB (ones zk (seven.take k)) k 1 (by omega)
        exact this.symm
      rw [hset] at E3
      have HE := hide E3
      clear E3 hE hset
      go_wp2
      go_roundw
      case rel => exact ⟨k + 1, by omega, by go_num, unhide HE⟩
      case measure => simp [intOf]; omega
    · have hk7 : k = 7 := by omega
      subst hk7
      have hE' : Env w0 wr w.heap.size (.slice none 0 0) (.slice none 0 0) (.slice none 0 0) (.slice none 0 0) vol0 [(w.heap.size + 1, .cells (cv (ones zk seven)).toArray 86)] := hE
      have hol' : (ones zk seven).length = 256 := hol
      have l1 := blk_has hE'.o0 (n := 256) (by rw [cv_length, hol'])
      have l2 := blk_cells hE'.o0 (n := 256) (by rw [cv_length, hol'])
      have Hp := hide (putCounts_any wr _ _ _ vol0 hE'.at' (ones zk seven) hol' (by decide) (by decide))
      have HE := hide hE'
      clear hE hE' hol
      have HV1 : Hid (newV1 = putCnt vol0 (ones zk seven) 4) := rfl
      generalize ones zk seven = k7 at *
      go_wp2_with fail
      refine (unhide Hp).mono ?_
      rintro e w1 ⟨rfl, C1, L1, hS1⟩
      rw [← unhide HV1] at hS1
      have E1 := hide ((unhide HE).does hS1)
      clear hS1 HE Hp l1 l2
      go_wp2_with fail
      refine (put_any _ _ _ _ _ (unhide E1).at' 5 (by omega) zc zc_length (by omega) (by omega)).mono ?_
      rintro e w2 ⟨rfl, C2, L2, hS2⟩
      have E2 : Hid (Env _ _ _ _ _ _ _ newV2 _) := hide ((unhide E1).does hS2)
      clear hS2 E1
      go_wp2_with fail
      refine (put_any _ _ _ _ _ (unhide E2).at' 6 (by omega) zc zc_length (by omega) (by omega)).mono ?_
      rintro e w3 ⟨rfl, C3, L3, hS3⟩
      have E3 : Hid (Env _ _ _ _ _ _ _ newV3 _) := hide ((unhide E2).does hS3)
      clear hS3 E2
      go_wp2_with fail
      refine (flush_any _ _ _ _ _ (unhide E3).at' (by omega)).mono ?_
      rintro e w4 ⟨rfl, C4, L4, hS4⟩
      have E4 : Hid (Env _ _ _ _ _ _ _ newV4 _) := hide ((unhide E3).does hS4)
      clear hS4 E3
      go_wp2_with fail
      refine (putHead_any _ _ _ _ _ (unhide E4).at' 7 6 (by omega) (by omega) (by omega) (by omega)).mono ?_
      rintro e w5 ⟨rfl, C5, L5, hS5⟩
      have E5 : Hid (Env _ _ _ _ _ _ _ newV5 _) := hide ((unhide E4).does hS5)
      clear hS5 E4
      go_wp2_with fail
      refine (flush_any _ _ _ _ _ (unhide E5).at' (by omega)).mono ?_
      rintro e w6 ⟨rfl, C6, L6, hS6⟩
      have E6 : Hid (VStep _ _ _ _ _ _ _ newV) := hide ((unhide E5).does hS6).step
      clear hS6 E5
      go_wp2
      go_ret
      exact ⟨C6, L6, rfl, by rw [hw0]; exact unhide E6⟩

theorem new_below {w w' : World} {Cv Lv : Value} {V : VolR} {o : Obj} (h : VStep (w.alloc o) w' w.heap.size (.slice none 0 0) (.slice none 0 0) Cv Lv V) : Below w.heap.size w w' ∧ ∀ k, foot w.heap.size Cv Lv k → w.heap.size ≤ k := by
  refine ⟨⟨h.kept.os, h.kept.tape, h.kept.output, by have := h.kept.size; simp at this; omega, fun k hk => ?_⟩, fun k hk => ?_⟩
  · rw [h.kept.block k (by simp; omega) (by rintro (e | e | e); omega; cases e; cases e)]
    exact Below.heap_alloc _ _ _ hk
  · rcases h.new k hk with (e | e | e) | e
    · omega
    · cases e
    · cases e
    · simp at e; omega

set_option maxHeartbeats 1000000 in
theorem diskNew_any (w : World) : Calls Try.prog 13 #[] w fun e w' => ∃ d v Cv Lv, e = .returned (.pointer (some ⟨d, 0, none⟩)) ∧ DskAt w' d v Cv Lv newV ∧ Below w.heap.size w w' ∧ ∀ k, dfoot d v Cv Lv k → w.heap.size ≤ k := by
  have Hn := hide (volNew_any w)
  go_enter Try.func13, Try.ntmps13
  go_wp2_with fail
  refine (unhide Hn).mono ?_
  rintro e w1 ⟨Cv, Lv, rfl, hS⟩
  obtain ⟨hB, hF⟩ := new_below hS
  have HS := hide hS.at'
  have HB := hide hB
  have HF := hide hF
  clear hS hB hF
  go_wp2
  go_ret
  refine ⟨w1.heap.size, w.heap.size, Cv, Lv, rfl, ⟨heap_alloc_new _ _, (unhide HS).alloc _⟩, (unhide HB).alloc (unhide HB).size _, fun k hk => ?_⟩
  rcases hk with e | e
  · have := (unhide HB).size; omega
  · exact unhide HF k e
end Go.Proofs.Ytknjjjenklfeoaa

/-
  The program's iterators: the numbers of one table.
-/
namespace Go.Proofs.Ytknjjjenklfeoaa
open Go.RowKit Go.Shelf
attribute [local go_sem ↓] loadVar_clus storeVar_clus zeroValue_clus loadVar_tab storeVar_tab zeroValue_tab loadVar_cnt storeVar_cnt zeroValue_cnt loadVar_head storeVar_head zeroValue_head build_head buildSlice_clus loadVar_wr storeVar_wr zeroValue_wr build_wr buildSlice_wr equalIn_clus loadVar_place storeVar_place zeroValue_place build_place
attribute [local go_sem] run_loadClus run_storeClus run_zeroClus run_storeClus_new run_loadClus_new zc_length run_loadTab run_storeTab run_zeroTab run_storeTab_new run_loadTab_new zt_length run_loadCnt run_storeCnt run_zeroCnt run_storeCnt_new run_loadCnt_new zk_length run_loadHead run_storeHead run_zeroHead run_storeHead_new run_bHead HasAt_drew cellsAt_drew HasAt_drewN cellsAt_drewN run_bsClus run_loadWr run_zeroWr run_storeWr run_storeWr_new run_bWr0 run_bsWr run_loadPlace run_storePlace run_zeroPlace run_storePlace_new run_bPlace
attribute [local go_sem] field_head1 field_head0 Oper.semAt_some
/-- A number that may stand in a table. -/
def OKN (Pc : Nat → Prop) (n : Nat) : Prop := n < 65536 ∧ (n ≠ 0 → Pc (n % 32768))
/-- A place in a table where a number stands. -/
structure SpotR (Pc : Nat → Prop) where
  table : Nat
  index : Nat
  number : Nat
  hi : index < 32
  hn : number < 65536
  h0 : number ≠ 0
  hc : Pc (number % 32768)
def spotVal {Pc : Nat → Prop} (s : SpotR Pc) : Value := .agg #[.int .i64 ((s.table : Nat) : Int), .int .i64 ((s.index : Nat) : Int), .int .u16 ((s.number : Nat) : Int)]
/-- The spots of a table, up to the k-th number. -/
def spotsTo {Pc : Nat → Prop} (t : Nat) (T : List Nat) (hT : ∀ i, OKN Pc (T.getD i 0)) : (k : Nat) → k ≤ 32 → List (SpotR Pc)
  | 0, _ => []
  | k + 1, hk => spotsTo t T hT k (by omega) ++ if h : T.getD k 0 ≠ 0 then [⟨t, k, T.getD k 0, by omega, (hT k).1, h, (hT k).2 h⟩] else []
theorem spotsTo_zero {Pc : Nat → Prop} (t : Nat) (T : List Nat) (hT : ∀ i, OKN Pc (T.getD i 0)) (k : Nat) (hk : k + 1 ≤ 32) (h : T.getD k 0 = 0) : spotsTo t T hT (k + 1) hk = spotsTo t T hT k (by omega) := by
  rw [spotsTo, dif_neg (by simpa using h), List.append_nil]
theorem spotsTo_some {Pc : Nat → Prop} (t : Nat) (T : List Nat) (hT : ∀ i, OKN Pc (T.getD i 0)) (k : Nat) (hk : k + 1 ≤ 32) (h : T.getD k 0 ≠ 0) : spotsTo t T hT (k + 1) hk = spotsTo t T hT k (by omega) ++ [⟨t, k, T.getD k 0, by omega, (hT k).1, h, (hT k).2 h⟩] := by
  rw [spotsTo, dif_pos h]
theorem spotsTo_length {Pc : Nat → Prop} (t : Nat) (T : List Nat) (hT : ∀ i, OKN Pc (T.getD i 0)) : ∀ k hk, (spotsTo t T hT k hk).length ≤ k
  | 0, _ => by simp [spotsTo]
  | k + 1, hk => by
    have := spotsTo_length t T hT k (by omega)
    rw [spotsTo]
    split <;> simp <;> omega

theorem spotsTo_prefix {Pc : Nat → Prop} (t : Nat) (T : List Nat) (hT : ∀ i, OKN Pc (T.getD i 0)) (k : Nat) (hk : k ≤ 32) : spotsTo t T hT k hk <+: spotsTo t T hT 32 (Nat.le_refl _) := by
  have : ∀ j (hj : k + j ≤ 32), spotsTo t T hT k hk <+: spotsTo t T hT (k + j) hj := by
    intro j
    induction j with
    | zero => intro _; exact List.prefix_refl _
    | succ j ih => intro hj; exact (ih (by omega)).trans (by show _ <+: spotsTo t T hT ((k + j) + 1) hj; rw [spotsTo]; exact List.prefix_append _ _)
  have h := this (32 - k) (by omega)
  have e : k + (32 - k) = 32 := by omega
  simpa [e] using h

set_option maxHeartbeats 2000000 in
set_option maxRecDepth 100000 in
theorem numbers1_in {Pc : Nat → Prop} (n : Nat) (hn : 3 ≤ n) (l bv bt v table : Nat) (V : VolR) (J Jx : List (SpotR Pc) → World → Prop) (P : World → Prop)
    (hT : ∀ i, OKN Pc ((numsOf (cl V.C table)).getD i 0))
    (hY : ∀ pre x W, J pre W → pre.length < 32 → YieldAt Fence.wide (n - 1) Try.prog l #[spotVal x] W fun e W' =>
      (e = .returned (.bool true) ∧ J (pre ++ [x]) W' ∧ (P W → P W')) ∨ (e = .returned (.bool false) ∧ Jx (pre ++ [x]) W'))
    (hPc : ∀ W, P W → W.cell? ⟨bt, 0, none⟩ = some (.int .i64 (table : Nat))) (hPb : ∀ W W', P W → Below W.heap.size W W' → P W')
    (W : World) (hJ : AbidesFrom W.heap.size J) (hP : P W) (hbv : W.cell? ⟨bv, 0, none⟩ = some (.pointer (some ⟨v, 0, none⟩))) (Cv Lv : Value) (hV : VolAt W v Cv Lv V) (ht : table < V.C.length) (h0 : J [] W) :
    CallsIn Fence.wide n Try.prog 90 #[.func (.yield l) #[] #[], .pointer (some ⟨bv, 0, none⟩), .pointer (some ⟨bt, 0, none⟩)] W fun e W' => (∃ v, e = .returned v) ∧
      ((∃ ys, ys = spotsTo table (numsOf (cl V.C table)) hT 32 (Nat.le_refl _) ∧ J ys W') ∨ (∃ pre, pre <+: spotsTo table (numsOf (cl V.C table)) hT 32 (Nat.le_refl _) ∧ Jx pre W')) := by
  have c1 := hPc W hP
  have Ht := hide (table_vol W v Cv Lv V hV table ht)
  have hTl := numsOf_length (cl V.C table)
  generalize numsOf (cl V.C table) = T at *
  refine callsIn_of_wp Try.func90 rfl trivial ?_ rfl
  simp only [Try.ntmps90, List.size_toArray, List.length_cons, List.length_nil, Nat.reduceAdd, Nat.reduceSub, Array.replicate_succ, Array.replicate_zero, List.push_toArray, List.append_toArray, List.nil_append, List.cons_append]
  gi_wp2_with fail
  refine ⟨trivial, fun _ => by omega, (callsIn_wide.2 (unhide Ht)).mono ?_⟩
  rintro e W1 ⟨rfl, hb1⟩
  have HP1 := hide (hPb W W1 hP hb1)
  have HJ1 := hide (hJ [] W W1 none h0 ⟨hb1.os, hb1.tape, hb1.output, hb1.size, fun k hk _ => hb1.block k hk⟩ (fun r e => by cases e))
  clear hP h0 c1 Ht hb1 hbv hV hJ
  gi_wp2
  gi_loopw [4, 5, 9] (fun _ _ i wr => ∃ (k : Nat) (hk : k ≤ 32), i = .int .i64 k ∧ P wr ∧ J (spotsTo table T hT k hk) wr) (fun _ _ i _ => 32 - (intOf i).toNat)
  case atStart => exact ⟨0, by omega, rfl, unhide HP1, unhide HJ1⟩
  case round =>
    obtain ⟨k, hk, rfl, hPk, hJk⟩ := hrel
    clear HP1 HJ1
    have c1 := hPc wr hPk
    by_cases hlt : k < 32
    · have hki : (k : Int) < 32 := by omega
      have hix := run_index_tab wr T hTl k hlt
      have hlen := spotsTo_length table T hT k hk
      by_cases h0 : T.getD k 0 = 0
      · have Hs := hide (spotsTo_zero table T hT k hlt h0)
        rw [h0] at hix
        gi_wp2
        refine ⟨fun _ h => (by cases h), ?_⟩
        gi_wp2
        go_roundw
        case rel => exact ⟨k + 1, by omega, by go_num, hPk, by rw [unhide Hs]; exact hJk⟩
        case measure => simp [intOf]; omega
      · obtain ⟨x, hs1, hs2, hs3, hs4⟩ : ∃ x : SpotR Pc, x.table = table ∧ x.index = k ∧ x.number = T.getD k 0 ∧ spotsTo table T hT (k + 1) hlt = spotsTo table T hT k hk ++ [x] := ⟨⟨table, k, T.getD k 0, hlt, (hT k).1, h0, (hT k).2 h0⟩, rfl, rfl, rfl, spotsTo_some table T hT k hlt h0⟩
        have Hs := hide hs4
        obtain ⟨fn, tmps, assign, body, hy, hR⟩ := hY _ x wr hJk (by omega)
        rw [spotVal, hs1, hs2, hs3] at hy
        have hnl := (hT k).1
        have d0 : ((((T.getD k 0 : Nat)) : Int) != 0) = true := by rw [bne_iff_ne]; omega
        clear hs4 hs1 hs2 hs3
        generalize T.getD k 0 = nn at *
        gi_wp2
        refine ⟨fun _ => by omega, hR.mono ?_⟩
        rintro e W3 (⟨rfl, hJ3, hP3⟩ | ⟨rfl, hJx3⟩)
        · have HP3 := hide (hP3 hPk)
          clear hP3 c1 hPk
          gi_wp2
          go_roundw
          case rel => exact ⟨k + 1, by omega, by go_num, unhide HP3, by rw [unhide Hs]; exact hJ3⟩
          case measure => simp [intOf]; omega
        · gi_wp2
          refine bodyPost_ret (results_none rfl _ _ _) rfl ?_
          exact ⟨⟨_, rfl⟩, .inr ⟨_, by rw [← unhide Hs]; exact spotsTo_prefix table T hT _ hlt, hJx3⟩⟩
    · have hk32 : k = 32 := by omega
      subst hk32
      gi_wp2
      go_end0
      exact ⟨⟨_, rfl⟩, .inl ⟨_, rfl, hJk⟩⟩
end Go.Proofs.Ytknjjjenklfeoaa

/-
  What the rounds of a loop over one of the program's iterators keep.
-/
namespace Go.Proofs.Ytknjjjenklfeoaa
open Go.RowKit Go.Shelf
attribute [local go_sem ↓] loadVar_clus storeVar_clus zeroValue_clus loadVar_tab storeVar_tab zeroValue_tab loadVar_cnt storeVar_cnt zeroValue_cnt loadVar_head storeVar_head zeroValue_head build_head buildSlice_clus loadVar_wr storeVar_wr zeroValue_wr build_wr buildSlice_wr equalIn_clus loadVar_place storeVar_place zeroValue_place build_place
attribute [local go_sem] run_loadClus run_storeClus run_zeroClus run_storeClus_new run_loadClus_new zc_length run_loadTab run_storeTab run_zeroTab run_storeTab_new run_loadTab_new zt_length run_loadCnt run_storeCnt run_zeroCnt run_storeCnt_new run_loadCnt_new zk_length run_loadHead run_storeHead run_zeroHead run_storeHead_new run_bHead HasAt_drew cellsAt_drew HasAt_drewN cellsAt_drewN run_bsClus run_loadWr run_zeroWr run_storeWr run_storeWr_new run_bWr0 run_bsWr run_loadPlace run_storePlace run_zeroPlace run_storePlace_new run_bPlace
attribute [local go_sem] field_head1 field_head0 Oper.semAt_some
theorem cv_inj {a b : List UInt8} (h : cv a = cv b) : a = b := by
  unfold cv at h
  refine List.map_inj_right (fun x y hxy => ?_) |>.1 h
  injection hxy with _ h2
  exact UInt8.toNat_inj.1 (by omega)
theorem flatC_inj : ∀ {A B : List Clus}, (∀ c ∈ A, c.length = 64) → (∀ c ∈ B, c.length = 64) → flatC A = flatC B → A = B
  | [], [], _, _, _ => rfl
  | [], b :: r, _, hB, h => by
    have h1 := hB b (by simp)
    have := congrArg List.length h
    simp [flatC, cv_length, h1] at this
    omega
  | a :: r, [], hA, _, h => by
    have h1 := hA a (by simp)
    have := congrArg List.length h
    simp [flatC, cv_length, h1] at this
  | a :: r, b :: q, hA, hB, h => by
    have h1 := hA a (by simp)
    have h2 := hB b (by simp)
    simp only [flatC, List.flatMap_cons] at h
    have h3 := List.append_inj h (by rw [cv_length, cv_length, h1, h2])
    rw [cv_inj h3.1, flatC_inj (fun c hc => hA c (by simp [hc])) (fun c hc => hB c (by simp [hc])) h3.2]
theorem flatW_inj : ∀ {A B : List WrR}, (∀ c ∈ A, c.data.length = 64) → (∀ c ∈ B, c.data.length = 64) → flatW A = flatW B → A = B
  | [], [], _, _, _ => rfl
  | [], b :: r, _, _, h => by
    have := congrArg List.length h
    simp [flatW, wrCells] at this
  | a :: r, [], _, _, h => by
    have := congrArg List.length h
    simp [flatW, wrCells] at this
  | a :: r, b :: q, hA, hB, h => by
    have h1 := hA a (by simp)
    have h2 := hB b (by simp)
    simp only [flatW, List.flatMap_cons] at h
    have h3 := List.append_inj h (by rw [wrCells_length h1, wrCells_length h2])
    have h4 := h3.1
    simp only [wrCells, List.cons.injEq] at h4
    have h5 : a = b := by
      obtain ⟨ac, ad⟩ := a
      obtain ⟨bc, bd⟩ := b
      have e1 := h4.1
      injection e1 with _ e1
      have e2 := cv_inj h4.2
      dsimp only at e1 e2
      rw [e1, e2]
    rw [h5, flatW_inj (fun c hc => hA c (by simp [hc])) (fun c hc => hB c (by simp [hc])) h3.2]
theorem row_unique {w : World} {b1 b2 : Nat} {e : TypeId} {size : Nat} {v : Value} {n1 n2 : Nat} {xs ys : List Value} (h1 : w.ownsRow b1 e size v n1 xs) (h2 : w.ownsRow b2 e size v n2 ys) : n1 = n2 ∧ xs = ys := by
  obtain ⟨a1, c1, e1⟩ := row_form h1
  obtain ⟨a2, c2, e2⟩ := row_form h2
  rw [e1] at e2
  injection e2 with e3 e4 e5
  subst e4
  refine ⟨rfl, ?_⟩
  rcases h1.2 with ⟨f1, f2⟩ | ⟨g, cap, cur, rfl, _, hh, _, _, _, ht⟩
  · have := h1.1; have h22 := h2.1
    rw [f2, Nat.zero_mul] at this h22
    rw [List.length_eq_zero_iff.1 this, List.length_eq_zero_iff.1 h22]
  · rcases h2.2 with ⟨f1, f2⟩ | ⟨g', cap', cur', e', _, hh', _, _, _, ht'⟩
    · cases f1
    · injection e' with x1 _ _
      injection x1 with x1
      injection x1 with x1 _ _
      subst x1
      rw [hh] at hh'
      simp only [Option.some.injEq, Obj.cells.injEq] at hh'
      rw [← ht, ← ht', hh'.1]
theorem VolAt.unique {w : World} {v : Nat} {C1 L1 C2 L2 : Value} {V1 V2 : VolR} (h : VolAt w v C1 L1 V1) (k : VolAt w v C2 L2 V2) : C1 = C2 ∧ L1 = L2 ∧ V1 = V2 := by
  have hb := h.blk
  rw [k.blk] at hb
  simp only [volCells, Option.some.injEq, Obj.cells.injEq, Array.mk.injEq, List.cons.injEq, Value.bool.injEq, and_true] at hb
  obtain ⟨e1, e2, e3⟩ := hb
  subst e1
  subst e2
  have a1 := flatC_inj h.lenC k.lenC (row_unique h.rowC k.rowC).2
  have a2 := flatW_inj h.lenL k.lenL (row_unique h.rowL k.rowL).2
  obtain ⟨c, l, o, s⟩ := V1
  obtain ⟨c', l', o', s'⟩ := V2
  dsimp only at a1 a2 e3
  obtain ⟨e3, e4⟩ := e3
  subst a1
  subst a2
  subst e3
  subst e4
  exact ⟨rfl, rfl, rfl⟩

/-- A round keeps what is the program's own: the volume but for R, all cells but the volume's and those of X, and what is no cells and of Y. -/
def KeepV (X Y : Nat → Prop) (v : Nat) (R : VolR → VolR → Prop) (A B : World) : Prop :=
  A.heap.size ≤ B.heap.size ∧ (∀ k o, A.heap[k]? = some o → o.isCells = false → Y k → B.heap[k]? = some o) ∧ ∀ C1 L1 V1, VolAt A v C1 L1 V1 → ∃ C2 L2 V2, VolAt B v C2 L2 V2 ∧ R V1 V2 ∧
    (∀ k o, A.heap[k]? = some o → o.isCells = true → ¬ X k → ¬ foot v C1 L1 k → B.heap[k]? = some o) ∧ (∀ k, k < A.heap.size → foot v C2 L2 k → foot v C1 L1 k)
theorem VolAt.cells {w : World} {v : Nat} {C1 L1 : Value} {V1 : VolR} (hV : VolAt w v C1 L1 V1) {k : Nat} (hf : foot v C1 L1 k) : ∃ o, w.heap[k]? = some o ∧ o.isCells = true := by
  rcases hf with rfl | e | e
  · exact ⟨_, hV.blk, rfl⟩
  · rcases hV.rowC.2 with ⟨rfl, _⟩ | ⟨g', cap, cur, rfl, _, hh, _⟩
    · cases e
    · simp only [Value.ownBlock, Option.some.injEq] at e; subst e; exact ⟨_, hh, rfl⟩
  · rcases hV.rowL.2 with ⟨rfl, _⟩ | ⟨g', cap, cur, rfl, _, hh, _⟩
    · cases e
    · simp only [Value.ownBlock, Option.some.injEq] at e; subst e; exact ⟨_, hh, rfl⟩
theorem VolAt.notCells {w : World} {v : Nat} {C1 L1 : Value} {V1 : VolR} (hV : VolAt w v C1 L1 V1) {k : Nat} {o : Obj} (ho : w.heap[k]? = some o) (hc : o.isCells = false) : ¬ foot v C1 L1 k := by
  intro hf
  obtain ⟨q, hq, hqc⟩ := hV.cells hf
  rw [ho] at hq
  injection hq with hq
  subst hq
  rw [hc] at hqc
  cases hqc
section
variable {X Y : Nat → Prop} {v : Nat} {R : VolR → VolR → Prop}
theorem KeepV.trans (hR : ∀ a b c, R a b → R b c → R a c) {A B C : World} (h : KeepV X Y v R A B) (k : KeepV X Y v R B C) : KeepV X Y v R A C := by
  refine ⟨Nat.le_trans h.1 k.1, fun i o hi hc hy => k.2.1 i o (h.2.1 i o hi hc hy) hc hy, fun C1 L1 V1 hV => ?_⟩
  obtain ⟨C2, L2, V2, hV2, r2, o2, f2⟩ := h.2.2 C1 L1 V1 hV
  obtain ⟨C3, L3, V3, hV3, r3, o3, f3⟩ := k.2.2 C2 L2 V2 hV2
  exact ⟨C3, L3, V3, hV3, hR _ _ _ r2 r3, fun i o hi hc hx hf => o3 i o (o2 i o hi hc hx hf) hc hx (fun hf2 => hf (f2 i (blk_lt hi) hf2)), fun i hi hf => f2 i hi (f3 i (Nat.lt_of_lt_of_le hi h.1) hf)⟩
theorem KeepV.turn (hR : ∀ a, R a a) (W : World) (l : Nat) (o o' : Obj) (hl : W.heap[l]? = some o) (ho : o.isCells = false) (hy : ¬ Y l) : KeepV X Y v R W (W.putObj l o') := by
  have hg := grownBy_putObj' W l o'
  have hk : Kept (fun k => k = l) W (W.putObj l o') := ⟨hg.os, hg.tape, hg.output, hg.size, fun k hk hs => hg.block k hk (fun e => hs (by injection e))⟩
  refine ⟨hk.size, fun k q hq _ hyk => hk.blk (by rintro rfl; exact hy hyk) hq, fun C1 L1 V1 hV => ?_⟩
  have hn : ∀ k q, W.heap[k]? = some q → q.isCells = true → ¬ (k = l) := by
    rintro k q hq hc rfl
    rw [hl] at hq
    injection hq with hq
    subst hq
    rw [ho] at hc
    cases hc
  have hf : ∀ k, foot v C1 L1 k → ¬ (k = l) := by
    intro k hf
    obtain ⟨q, hq, hqc⟩ := hV.cells hf
    exact hn k q hq hqc
  exact ⟨C1, L1, V1, hV.kept hk hf, hR _, fun k q hq hc _ _ => hk.blk (hn k q hq hc) hq, fun _ _ hf => hf⟩
/-- A step on the volume, and what the body wrote of its own. -/
theorem KeepV.of {A B : World} {C1 L1 C2 L2 : Value} {V1 V2 : VolR} (h : VolAt A v C1 L1 V1) (hB : VolAt B v C2 L2 V2) (hs : A.heap.size ≤ B.heap.size) (r : R V1 V2)
    (y : ∀ k o, A.heap[k]? = some o → o.isCells = false → Y k → B.heap[k]? = some o)
    (o : ∀ k o, A.heap[k]? = some o → o.isCells = true → ¬ X k → ¬ foot v C1 L1 k → B.heap[k]? = some o) (f : ∀ k, k < A.heap.size → foot v C2 L2 k → foot v C1 L1 k) : KeepV X Y v R A B := by
  refine ⟨hs, y, fun C1' L1' V1' hV => ?_⟩
  obtain ⟨rfl, rfl, rfl⟩ := h.unique hV
  exact ⟨C2, L2, V2, hB, r, o, f⟩
theorem KeepV.step {A B : World} {C1 L1 C2 L2 : Value} {V1 V2 : VolR} (h : VolAt A v C1 L1 V1) (hs : VStep A B v C1 L1 C2 L2 V2) (r : R V1 V2) : KeepV X Y v R A B :=
  KeepV.of h hs.at' hs.kept.size r (fun _ _ ho hc _ => hs.kept.blk (h.notCells ho hc) ho) (fun _ _ ho _ _ hf => hs.kept.blk hf ho) (fun k hk hf => (hs.new k hf).elim id (by omega))
theorem KeepV.own {A B : World} {C1 L1 : Value} {V1 : VolR} (h : VolAt A v C1 L1 V1) {S : Nat → Prop} (hk : Kept S A B) (hS : ∀ k, S k → X k ∧ ¬ foot v C1 L1 k ∧ ∃ o, A.heap[k]? = some o ∧ o.isCells = true) (r : R V1 V1) : KeepV X Y v R A B :=
  KeepV.of h (h.kept hk (fun k hf hs => (hS k hs).2.1 hf)) hk.size r (fun k o ho hc _ => hk.blk (fun hs => by
    obtain ⟨q, hq, hqc⟩ := (hS k hs).2.2
    rw [ho] at hq
    injection hq with hq
    subst hq
    rw [hc] at hqc
    cases hqc) ho) (fun k _ ho _ hx _ => hk.blk (fun hs => hx (hS k hs).1) ho) (fun _ _ hf => hf)
theorem KeepV.below (hR : ∀ a, R a a) {A B : World} (h : Below A.heap.size A B) : KeepV X Y v R A B :=
  ⟨h.size, fun k _ ho _ _ => (h.block k (blk_lt ho)).trans ho, fun C1 L1 V1 hV => ⟨C1, L1, V1, hV.below h, hR _, fun k _ ho _ _ _ => (h.block k (blk_lt ho)).trans ho, fun _ _ hf => hf⟩⟩
theorem KeepV.weak {Y' : Nat → Prop} {A B : World} (h : KeepV X Y v R A B) (hy : ∀ k, Y' k → Y k) : KeepV X Y' v R A B := ⟨h.1, fun k o ho hc hy' => h.2.1 k o ho hc (hy k hy'), h.2.2⟩
/-- A box of an iterator's own, beside the volume as it is now. -/
structure Beside (X : Nat → Prop) (v b : Nat) (o : Obj) (P : VolR → Prop) (W : World) : Prop where
  vol : ∃ C1 L1 V1, VolAt W v C1 L1 V1 ∧ P V1 ∧ ¬ foot v C1 L1 b
  box : W.heap[b]? = some o
  cells : o.isCells = true
  free : ¬ X b
theorem Beside.keep {b : Nat} {o : Obj} {P : VolR → Prop} (hP : ∀ a b, P a → R a b → P b) {A B : World} (h : Beside X v b o P A) (k : KeepV X Y v R A B) : Beside X v b o P B := by
  obtain ⟨C1, L1, V1, hV, hp, hf⟩ := h.vol
  obtain ⟨C2, L2, V2, hV2, r, o2, f2⟩ := k.2.2 C1 L1 V1 hV
  exact ⟨⟨C2, L2, V2, hV2, hP _ _ hp r, fun hf2 => hf (f2 b (blk_lt h.box) hf2)⟩, o2 b o h.box h.cells h.free hf, h.cells, h.free⟩
theorem Beside.below {b : Nat} {o : Obj} {P : VolR → Prop} {A B : World} (h : Beside X v b o P A) (k : Below A.heap.size A B) : Beside X v b o P B := by
  obtain ⟨C1, L1, V1, hV, hp, hf⟩ := h.vol
  exact ⟨⟨C1, L1, V1, hV.below k, hp, hf⟩, (k.block b (blk_lt h.box)).trans h.box, h.cells, h.free⟩
theorem Beside.turned {b : Nat} {o : Obj} {P : VolR → Prop} {W W' : World} {row : Option Nat} (h : Beside X v b o P W) (hg : W.grownBy W' row) (hr : ∀ r, row = some r → ∃ o : Obj, W.heap[r]? = some o ∧ o.isCells = false) : Beside X v b o P W' := by
  obtain ⟨C1, L1, V1, hV, hp, hf⟩ := h.vol
  have hk : Kept (fun k => row = some k) W W' := ⟨hg.os, hg.tape, hg.output, hg.size, fun k hk hs => hg.block k hk (fun e => hs e.symm)⟩
  have hn : ∀ k q, W.heap[k]? = some q → q.isCells = true → ¬ (row = some k) := by
    intro k q hq hc e
    obtain ⟨q', hq', hc'⟩ := hr k e
    rw [hq] at hq'
    injection hq' with hq'
    subst hq'
    rw [hc] at hc'
    cases hc'
  refine ⟨⟨C1, L1, V1, hV.kept hk (fun k hf' => ?_), hp, hf⟩, hk.blk (hn b o h.box h.cells) h.box, h.cells, h.free⟩
  obtain ⟨q, hq, hqc⟩ := hV.cells hf'
  exact hn k q hq hqc
end
end Go.Proofs.Ytknjjjenklfeoaa
