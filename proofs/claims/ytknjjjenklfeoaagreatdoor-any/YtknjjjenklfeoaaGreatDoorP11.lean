import Derived.Test.YtknjjjenklfeoaaGreatDoorP10
import Derived.RangeFuncNested
import Derived.RangeFuncBound
import Derived.RangeFuncCalls
import Derived.RangeFuncLeaves
import Derived.Shelf.Abstract
import Derived.Shelf.RegionOpen
import Derived.WalkKit
import Derived.OwnWalkIn
import Derived.TacticsInMore
import Derived.LoopNIn
import Derived.LoopIn
/-
  The program's renumber: plain lemmas, and one round's inner loop.
-/
namespace Go.Proofs.YtknjjjenklfeoaaGreatDoor
open Go.RowKit Go.Shelf
attribute [local go_sem ↓] loadVar_clus storeVar_clus zeroValue_clus loadVar_tab storeVar_tab zeroValue_tab loadVar_cnt storeVar_cnt zeroValue_cnt loadVar_head storeVar_head zeroValue_head build_head buildSlice_clus loadVar_wr storeVar_wr zeroValue_wr build_wr buildSlice_wr equalIn_clus loadVar_place storeVar_place zeroValue_place build_place
attribute [local go_sem] run_loadClus run_storeClus run_zeroClus run_storeClus_new run_loadClus_new zc_length run_loadTab run_storeTab run_zeroTab run_storeTab_new run_loadTab_new zt_length run_loadCnt run_storeCnt run_zeroCnt run_storeCnt_new run_loadCnt_new zk_length run_loadHead run_storeHead run_zeroHead run_storeHead_new run_bHead HasAt_drew cellsAt_drew HasAt_drewN cellsAt_drewN run_bsClus run_loadWr run_zeroWr run_storeWr run_storeWr_new run_bWr0 run_bsWr run_loadPlace run_storePlace run_zeroPlace run_storePlace_new run_bPlace
attribute [local go_sem] field_head1 field_head0 Oper.semAt_some
theorem byteAt_set (c : List UInt8) (i : Nat) (b : UInt8) (j : Nat) (hi : i < c.length) : byteAt (c.set i b) j = if i = j then b.toNat else byteAt c j := by
  unfold byteAt
  rw [List.getD_eq_getElem?_getD, List.getElem?_set]
  by_cases h : i = j
  · rw [if_pos h, if_pos h, if_pos hi]; rfl
  · rw [if_neg h, if_neg h, List.getD_eq_getElem?_getD]
theorem toNat_ofNat (n : Nat) (h : n < 256) : (UInt8.ofNat n).toNat = n := by rw [UInt8.toNat_ofNat']; omega
theorem num_put_same (c : Clus) (k n : Nat) (hk : k + 1 < c.length) (hn : n < 65536) : num (putNum c k n) k = n := by
  unfold num putNum
  have e1 : k + 1 < (c.set k (UInt8.ofNat (n / 256))).length := by rw [List.length_set]; exact hk
  have e2 : k < c.length := by omega
  rw [byteAt_set _ _ _ _ e1, byteAt_set _ _ _ _ e1, byteAt_set _ _ _ _ e2, if_neg (by omega), if_pos rfl, if_pos rfl, toNat_ofNat _ (by omega), toNat_ofNat _ (by omega)]
  omega
theorem num_put_other (c : Clus) (k n j : Nat) (hk : k + 1 < c.length) (hj : j + 1 < k ∨ k + 1 < j) : num (putNum c k n) j = num c j := by
  unfold num putNum
  have e1 : k + 1 < (c.set k (UInt8.ofNat (n / 256))).length := by rw [List.length_set]; exact hk
  have e2 : k < c.length := by omega
  rw [byteAt_set _ _ _ _ e1, byteAt_set _ _ _ _ e1, byteAt_set _ _ _ _ e2, byteAt_set _ _ _ _ e2, if_neg (by omega), if_neg (by omega), if_neg (by omega), if_neg (by omega)]
theorem num_bytesTo (T : List Nat) (hT : ∀ i, T.getD i 0 < 65536) : ∀ k, k ≤ 32 → ∀ i, i < k → num (bytesTo T k) (2 * i) = T.getD i 0
  | 0, _, i, hi => by omega
  | k + 1, hk, i, hi => by
    rw [bytesTo]
    by_cases h : i = k
    · subst h
      exact num_put_same _ _ _ (by rw [bytesTo_length]; omega) (hT i)
    · rw [num_put_other _ _ _ _ (by rw [bytesTo_length]; omega) (by omega)]
      exact num_bytesTo T hT k (by omega) i (by omega)
theorem num_bytesOf (T : List Nat) (hT : ∀ i, T.getD i 0 < 65536) (i : Nat) (hi : i < 32) : num (bytesOf T) (2 * i) = T.getD i 0 := num_bytesTo T hT 32 (Nat.le_refl _) i hi

/-- Each number of a table is changed, noughts are not. -/
def chgT (ch : Nat → Nat) (T : List Nat) : List Nat := T.map fun n => if n = 0 then 0 else ch n
theorem chgT_length (ch : Nat → Nat) (T : List Nat) : (chgT ch T).length = T.length := by simp [chgT]
theorem chgT_get (ch : Nat → Nat) (T : List Nat) (i : Nat) : (chgT ch T).getD i 0 = if T.getD i 0 = 0 then 0 else ch (T.getD i 0) := by
  unfold chgT
  rw [List.getD_eq_getElem?_getD, List.getD_eq_getElem?_getD, List.getElem?_map]
  cases h : T[i]? with
  | none => simp
  | some x => simp
def renumTab (ch : Nat → Nat) (V : VolR) (t : Nat) : VolR := putV V t (bytesOf (chgT ch (numsOf (cl V.C t))))
def renumV (ch : Nat → Nat) (V : VolR) (ts : List Nat) : VolR := ts.foldl (renumTab ch) V
theorem list_ext_getD {A B : List Nat} (h : A.length = B.length) (hg : ∀ i, i < A.length → A.getD i 0 = B.getD i 0) : A = B := by
  refine List.ext_getElem h fun i h1 h2 => ?_
  have := hg i h1
  rwa [List.getD_eq_getElem?_getD, List.getD_eq_getElem?_getD, List.getElem?_eq_getElem h1, List.getElem?_eq_getElem h2] at this
end Go.Proofs.YtknjjjenklfeoaaGreatDoor
