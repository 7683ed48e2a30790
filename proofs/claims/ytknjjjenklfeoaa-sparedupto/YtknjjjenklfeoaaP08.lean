import Derived.Test.YtknjjjenklfeoaaP07
import Derived.RangeFuncNested
import Derived.RangeFuncBound
import Derived.RangeFuncCalls
import Derived.RangeFuncLeaves
import Derived.Shelf.Abstract
import Derived.Shelf.RegionOpen
import Derived.WalkKit
import Derived.OwnWalkIn
import Derived.TacticsInMore
import Derived.LoopNIn
import Derived.LoopIn
/-
  The program's renumber: plain lemmas, and one round's inner loop.
-/
namespace Go.Proofs.Ytknjjjenklfeoaa
open Go.RowKit Go.Shelf
attribute [local go_sem ↓] loadVar_clus storeVar_clus zeroValue_clus loadVar_tab storeVar_tab zeroValue_tab loadVar_cnt storeVar_cnt zeroValue_cnt loadVar_head storeVar_head zeroValue_head build_head buildSlice_clus loadVar_wr storeVar_wr zeroValue_wr build_wr buildSlice_wr equalIn_clus loadVar_place storeVar_place zeroValue_place build_place
attribute [local go_sem] run_loadClus run_storeClus run_zeroClus run_storeClus_new run_loadClus_new zc_length run_loadTab run_storeTab run_zeroTab run_storeTab_new run_loadTab_new zt_length run_loadCnt run_storeCnt run_zeroCnt run_storeCnt_new run_loadCnt_new zk_length run_loadHead run_storeHead run_zeroHead run_storeHead_new run_bHead HasAt_drew cellsAt_drew HasAt_drewN cellsAt_drewN run_bsClus run_loadWr run_zeroWr run_storeWr run_storeWr_new run_bWr0 run_bsWr run_loadPlace run_storePlace run_zeroPlace run_storePlace_new run_bPlace
attribute [local go_sem] field_head1 field_head0 Oper.semAt_some
theorem byteAt_set (c : List UInt8) (i : Nat) (b : UInt8) (j : Nat) (hi : i < c.length) : byteAt (c.set i b) j = if i = j then b.toNat else byteAt c j := by
  unfold byteAt
  rw [List.getD_eq_getElem?_getD, List.getElem?_set]
  by_cases h : i = j
  · rw [if_pos h, if_pos h, if_pos hi]; rfl
  · rw [if_neg h, if_neg h, List.getD_eq_getElem?_getD]
theorem toNat_ofNat (n : Nat) (h : n < 256) : (UInt8.ofNat n).toNat = n := by rw [UInt8.toNat_ofNat']; omega
theorem num_put_same (c : Clus) (k n : Nat) (hk : k + 1 < c.length) (hn : n < 65536) : num (putNum c k n) k = n := by
  unfold num putNum
  have e1 : k + 1 < (c.set k (UInt8.ofNat (n / 256))).length := by rw [List.length_set]; exact hk
  have e2 : k < c.length := by omega
  rw [byteAt_set _ _ _ _ e1, byteAt_set _ _ _ _ e1, byteAt_set _ _ _ _ e2, if_neg (by omega), if_pos rfl, if_pos rfl, toNat_ofNat _ (by omega), toNat_ofNat _ (by omega)]
  omega
theorem num_put_other (c : Clus) (k n j : Nat) (hk : k + 1 < c.length) (hj : j + 1 < k ∨ k + 1 < j) : num (putNum c k n) j = num c j := by
  unfold num putNum
  have e1 : k + 1 < (c.set k (UInt8.ofNat (n / 256))).length := by rw [List.length_set]; exact hk
  have e2 : k < c.length := by omega
  rw [byteAt_set _ _ _ _ e1, byteAt_set _ _ _ _ e1, byteAt_set _ _ _ _ e2, byteAt_set _ _ _ _ e2, if_neg (by omega), if_neg (by omega), if_neg (by omega), if_neg (by omega)]
theorem num_bytesTo (T : List Nat) (hT : ∀ i, T.getD i 0 < 65536) : ∀ k, k ≤ 32 → ∀ i, i < k → num (bytesTo T k) (2 * i) = T.getD i 0
  | 0, _, i, hi => by omega
  | k + 1, hk, i, hi => by
    rw [bytesTo]
    by_cases h : i = k
    · subst h
      exact num_put_same _ _ _ (by rw [bytesTo_length]; omega) (hT i)
    · rw [num_put_other _ _ _ _ (by rw [bytesTo_length]; omega) (by omega)]
      exact num_bytesTo T hT k (by omega) i (by omega)
theorem num_bytesOf (T : List Nat) (hT : ∀ i, T.getD i 0 < 65536) (i : Nat) (hi : i < 32) : num (bytesOf T) (2 * i) = T.getD i 0 := num_bytesTo T hT 32 (Nat.le_refl _) i hi

/-- Each number of a table is changed, noughts are not. -/
def chgT (ch : Nat → Nat) (T : List Nat) : List Nat := T.map fun n => if n = 0 then 0 else ch n
theorem chgT_length (ch : Nat → Nat) (T : List Nat) : (chgT ch T).length = T.length := by simp [chgT]
theorem chgT_get (ch : Nat → Nat) (T : List Nat) (i : Nat) : (chgT ch T).getD i 0 = if T.getD i 0 = 0 then 0 else ch (T.getD i 0) := by
  unfold chgT
  rw [List.getD_eq_getElem?_getD, List.getD_eq_getElem?_getD, List.getElem?_map]
  cases h : T[i]? with
  | none => simp
  | some x => simp
def renumTab (ch : Nat → Nat) (V : VolR) (t : Nat) : VolR := putV V t (bytesOf (chgT ch (numsOf (cl V.C t))))
def renumV (ch : Nat → Nat) (V : VolR) (ts : List Nat) : VolR := ts.foldl (renumTab ch) V
theorem renumV_snoc (ch : Nat → Nat) (V : VolR) (ts : List Nat) (t : Nat) : renumV ch V (ts ++ [t]) = renumTab ch (renumV ch V ts) t := by simp [renumV]

/-- A change of numbers that is one of marks alone. -/
def Marks (ch : Nat → Nat) : Prop := ∀ n, n < 65536 → n ≠ 0 → 6 ≤ n % 32768 → ch n < 65536 ∧ ch n % 32768 = n % 32768
theorem cl_set (C : List Clus) (k : Nat) (c : Clus) (hk : k < C.length) (t : Nat) : cl (C.set k c) t = if k = t then c else cl C t := by
  unfold cl
  rw [List.getD_eq_getElem?_getD, List.getElem?_set]
  by_cases h : k = t
  · rw [if_pos h, if_pos h, if_pos hk]; rfl
  · rw [if_neg h, if_neg h, List.getD_eq_getElem?_getD]
theorem putV_cl (V : VolR) (n : Nat) (d : Clus) (hn : n < V.C.length) (t : Nat) : cl (putV V n d).C t = if n = t then d else cl V.C t := by
  unfold putV
  split
  · rename_i h
    by_cases e : n = t
    · subst e; rw [if_pos rfl]; exact h.2
    · rw [if_neg e]
  · have : growTo V.C (n + 1) = V.C := by unfold growTo; rw [show n + 1 - V.C.length = 0 by omega]; simp
    show cl ((growTo V.C (n + 1)).set n d) t = _
    rw [this]
    exact cl_set V.C n d hn t
theorem chgT_lt {ch : Nat → Nat} (hch : Marks ch) {Pc : Nat → Prop} (h6 : ∀ c, Pc c → 6 ≤ c) {T : List Nat} (hT : ∀ i, OKN Pc (T.getD i 0)) : ∀ i, (chgT ch T).getD i 0 < 65536 := by
  intro i
  rw [chgT_get]
  split
  · decide
  · rename_i h
    exact (hch _ (hT i).1 h (h6 _ ((hT i).2 h))).1
theorem renumTab_same {ch : Nat → Nat} (hch : Marks ch) {V : VolR} {t : Nat} (h6 : 6 ≤ t) (ht : t < V.C.length) {Pc : Nat → Prop} (hP6 : ∀ c, Pc c → 6 ≤ c) (hT : NumsOK Pc V.C t) : SameNum V (renumTab ch V t) := by
  have hlt := chgT_lt hch hP6 hT
  refine ⟨by unfold renumTab; rw [putV_lenC]; omega, fun k hk => ?_, fun k i hi => ?_, fun k i hi => ?_⟩
  · unfold renumTab; rw [putV_cl V t _ ht, if_neg (by omega)]
  · unfold renumTab
    rw [putV_cl V t _ ht]
    by_cases e : t = k
    · subst e
      rw [if_pos rfl, num_bytesOf _ hlt i hi, chgT_get, numsOf_get _ _ hi]
      split
      · rename_i h; simp [h]
      · rename_i h
        have h1 := hT i
        rw [numsOf_get _ _ hi] at h1
        have h2 := hch _ h1.1 h (hP6 _ (h1.2 h))
        refine ⟨fun e => ?_, fun e => absurd e h⟩
        rw [e] at h2
        have := hP6 _ (h1.2 h)
        omega
    · rw [if_neg e]
  · unfold renumTab
    rw [putV_cl V t _ ht]
    by_cases e : t = k
    · subst e
      rw [if_pos rfl, num_bytesOf _ hlt i hi, chgT_get, numsOf_get _ _ hi]
      split
      · rename_i h; rw [h]
      · rename_i h
        have h1 := hT i
        rw [numsOf_get _ _ hi] at h1
        exact (hch _ h1.1 h (hP6 _ (h1.2 h))).2
    · rw [if_neg e]
theorem renumTab_lenL (ch : Nat → Nat) (V : VolR) (t : Nat) : (renumTab ch V t).L.length ≤ V.L.length + 2 := putV_lenL _ _ _

def applySpots {Pc : Nat → Prop} (ch : Nat → Nat) (T : List Nat) (ss : List (SpotR Pc)) : List Nat := ss.foldl (fun T s => T.set s.index (ch s.number)) T
theorem applySpots_snoc {Pc : Nat → Prop} (ch : Nat → Nat) (T : List Nat) (ss : List (SpotR Pc)) (s : SpotR Pc) : applySpots ch T (ss ++ [s]) = (applySpots ch T ss).set s.index (ch s.number) := by simp [applySpots]
theorem applySpots_length {Pc : Nat → Prop} (ch : Nat → Nat) (T : List Nat) (ss : List (SpotR Pc)) : (applySpots ch T ss).length = T.length := by
  unfold applySpots
  induction ss generalizing T with
  | nil => rfl
  | cons a r ih => simp only [List.foldl_cons]; rw [ih]; simp
theorem getD_set (T : List Nat) (k n i : Nat) (hk : k < T.length) : (T.set k n).getD i 0 = if k = i then n else T.getD i 0 := by
  rw [List.getD_eq_getElem?_getD, List.getElem?_set]
  by_cases h : k = i
  · rw [if_pos h, if_pos h, if_pos hk]; rfl
  · rw [if_neg h, if_neg h, List.getD_eq_getElem?_getD]
theorem applySpots_get {Pc : Nat → Prop} (ch : Nat → Nat) (t : Nat) (T : List Nat) (hT : ∀ i, OKN Pc (T.getD i 0)) (hl : T.length = 32) : ∀ k hk i, (applySpots ch T (spotsTo t T hT k hk)).getD i 0 = if i < k then (chgT ch T).getD i 0 else T.getD i 0
  | 0, _, i => by simp [spotsTo, applySpots]
  | k + 1, hk, i => by
    have ih := applySpots_get ch t T hT hl k (by omega)
    by_cases h0 : T.getD k 0 = 0
    · rw [spotsTo_zero t T hT k hk h0, ih i]
      by_cases e : i = k
      · subst e; rw [if_neg (by omega), if_pos (by omega), chgT_get, if_pos h0, h0]
      · by_cases h : i < k
        · rw [if_pos h, if_pos (by omega)]
        · rw [if_neg h, if_neg (by omega)]
    · rw [spotsTo_some t T hT k hk h0, applySpots_snoc, getD_set _ _ _ _ (by rw [applySpots_length]; dsimp only; omega), ih i]
      dsimp only
      by_cases e : k = i
      · subst e; rw [if_pos rfl, if_pos (by omega), chgT_get, if_neg h0]
      · rw [if_neg e]
        by_cases h : i < k
        · rw [if_pos h, if_pos (by omega)]
        · rw [if_neg h, if_neg (by omega)]
theorem list_ext_getD {A B : List Nat} (h : A.length = B.length) (hg : ∀ i, i < A.length → A.getD i 0 = B.getD i 0) : A = B := by
  refine List.ext_getElem h fun i h1 h2 => ?_
  have := hg i h1
  rwa [List.getD_eq_getElem?_getD, List.getD_eq_getElem?_getD, List.getElem?_eq_getElem h1, List.getElem?_eq_getElem h2] at this
theorem applySpots_all {Pc : Nat → Prop} (ch : Nat → Nat) (t : Nat) (T : List Nat) (hT : ∀ i, OKN Pc (T.getD i 0)) (hl : T.length = 32) : applySpots ch T (spotsTo t T hT 32 (Nat.le_refl _)) = chgT ch T := by
  refine list_ext_getD (by rw [applySpots_length, chgT_length]) fun i hi => ?_
  rw [applySpots_length, hl] at hi
  rw [applySpots_get ch t T hT hl, if_pos hi]
end Go.Proofs.Ytknjjjenklfeoaa
