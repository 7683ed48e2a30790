import Derived.Test.YtknjjjenklfeoaaP31
import Derived.Test.YtknjjjenklfeoaaP24
/-
  vellumlaw's stands: of a disk without pictures that is as it should be it says so, and notes one mark more.
-/
namespace Go.Proofs.Ytknjjjenklfeoaa
open Go.RowKit
attribute [local go_sem ↓] loadVar_clus loadVar_wr build_wr equalIn_wr
attribute [local go_sem] run_loadClus run_loadWr run_bWr0 zc_length
/-- All that a pair must be, between two steps. -/
structure Stands (P : PairR) (N0 : Nat) (E : List EntR) : Prop where
  vol : Vol P.B P.V N0 E
  disk : dskOf P.V.C N0 E = P.D
  exact : P.ex = true → ExactS P.V.C (rsOf N0 E)
theorem EntsOK.dsk {L : List Clus} {N0 : Nat} {E : List EntR} (h : EntsOK E) : (dskOf L N0 E).L.length ≤ 4 := by
  unfold dskOf
  simp only [List.length_map]
  exact h.len
theorem Stands.last {P : PairR} {N0 : Nat} {E : List EntR} (h : Stands P N0 E) : P.V.L = [] ∨ (0 < P.V.L.length ∧ wrAt P.V.L (P.V.L.length - 1) = flushW) := by
  rcases h.vol.log.tail h.vol.firm with e | ⟨l, e⟩
  · exact Or.inl e
  · right
    refine ⟨by rw [e]; simp, ?_⟩
    unfold wrAt
    rw [e, List.getD_eq_getElem?_getD, List.length_append, List.length_singleton, Nat.add_sub_cancel, List.getElem?_append_right (Nat.le_refl _), Nat.sub_self]
    rfl

end Go.Proofs.Ytknjjjenklfeoaa
