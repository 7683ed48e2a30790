import Derived.Test.YtknjjjenklfeoaaGreatDoorP24
/-
  vellumlaw's stands: of a disk without pictures that is as it should be it says so, and notes one mark more.
-/
namespace Go.Proofs.YtknjjjenklfeoaaGreatDoor
open Go.RowKit
attribute [local go_sem ↓] loadVar_clus loadVar_wr build_wr equalIn_wr
attribute [local go_sem] run_loadClus run_loadWr run_bWr0 zc_length
def bsMark (parts : Array (Nat × Value)) : Sem Value := Instr.buildSlice 105 1 parts
theorem buildSlice_mark (parts : Array (Nat × Value)) : Instr.buildSlice 105 1 parts = bsMark parts := rfl
theorem run_bsMark {w : World} {n : Int} {d : Nat} : (bsMark #[(0, .agg #[.int .i64 n, .pointer (some ⟨d, 0, none⟩)])]).run Tryz.prog w = .ok (.slice (some ⟨w.heap.size, 0, none⟩) 1 1) (w.alloc (.cells #[.int .i64 n, .pointer (some ⟨d, 0, none⟩)] 109)) :=
  run_buildSlice_one w 105 109 2 (.agg #[.int .i64 0, .pointer none]) (.agg #[.int .i64 n, .pointer (some ⟨d, 0, none⟩)]) Tryz.underlying105 (by kernel_rfl) (by omega) (by omega) (by rfl)
theorem Tryz.infoMark : (Tryz.prog.info? 109).map (fun i => (i.zero, i.size, i.bytes)) = some (some (.agg #[.int .i64 0, .pointer none]), 2, 16) := by kernel_rfl
attribute [local go_sem ↓] buildSlice_mark
attribute [local go_sem] run_bsMark
def MarkT (p : Nat) (Mv : Value) (y : Nat) (w' : World) : Prop := w'.cell? ⟨p, 4, none⟩ = some Mv ∧ w'.cell? ⟨p, 1, none⟩ = some (.pointer (some ⟨y, 0, none⟩))
/-- All that a pair must be, between two steps. -/
structure Stands (P : PairR) (N0 : Nat) (E : List EntR) : Prop where
  vol : Vol P.B P.V N0 E
  disk : dskOf P.V.C N0 E = P.D
  exact : P.ex = true → ExactS P.V.C (rsOf N0 E)
theorem EntsOK.dsk {L : List Clus} {N0 : Nat} {E : List EntR} (h : EntsOK E) : (dskOf L N0 E).L.length ≤ 4 := by
  unfold dskOf
  simp only [List.length_map]
  exact h.len
end Go.Proofs.YtknjjjenklfeoaaGreatDoor
