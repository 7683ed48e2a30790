import Derived.Test.YtknjjjenklfeoaaP30
import Derived.Test.YtknjjjenklfeoaaP24
import Derived.Test.YtknjjjenklfeoaaP02
/-
  Two writes of the log compared.
-/
namespace Go.Proofs.Ytknjjjenklfeoaa
open Go.RowKit

def eqWr (x y : Value) : Sem Bool := Op.equalIn 10000 116 x y
theorem equalIn_wr (x y : Value) : Op.equalIn 10000 116 x y = eqWr x y := rfl
end Go.Proofs.Ytknjjjenklfeoaa

/-
  looks: all lists that came out hold what their owner wrote.
-/
namespace Go.Proofs.Ytknjjjenklfeoaa
open Go.RowKit
attribute [local go_sem ↓] loadVar_clus loadVar_wr equalIn_clus equalIn_wr build_wr
attribute [local go_sem] run_loadClus run_loadWr run_bWr0 zc_length
end Go.Proofs.Ytknjjjenklfeoaa

/-
  A pair of the script's: a disk of the program's and what it holds, its base and its marks, as they lie in memory.
-/
namespace Go.Proofs.Ytknjjjenklfeoaa
open Go.RowKit

structure MarkR where
  log : Nat
  d : Nat
  Pv : Value
  D : DiskR
structure PairR where
  d : Nat
  v : Nat
  y : Nat
  Cv : Value
  Lv : Value
  Pv : Value
  Mv : Value
  bv : Value
  ex : Bool
  V : VolR
  D : DiskR
  B : List Clus
  ms : List MarkR
section
variable {w w' : World} {p : Nat} {P : PairR} {S T : Nat → Prop}
theorem row_blk {w : World} {base : Nat} {e : TypeId} {size : Nat} {v : Value} {n : Nat} {xs : List Value} (hr : w.ownsRow base e size v n xs) {g : Nat} (hg : v.ownBlock = some g) : ∃ cs fr, w.heap[g]? = some (.cells cs e fr) := by
  rcases hr.2 with ⟨rfl, _⟩ | ⟨g', cap, cur, rfl, _, hh, _⟩
  · cases hg
  · simp only [Value.ownBlock, Option.some.injEq] at hg
    subst hg
    exact ⟨_, _, hh⟩
end
end Go.Proofs.Ytknjjjenklfeoaa

/-
  A step of a script in memory.
-/
namespace Go.Proofs.Ytknjjjenklfeoaa
open Go.RowKit

end Go.Proofs.Ytknjjjenklfeoaa
