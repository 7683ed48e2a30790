import Derived.Test.YtknjjjenklfeoaaGreatDoorP11
import Derived.RangeFuncNested
import Derived.RangeFuncBound
import Derived.RangeFuncCalls
import Derived.RangeFuncLeaves
import Derived.Shelf.Abstract
import Derived.Shelf.RegionOpen
import Derived.WalkKit
import Derived.OwnWalkIn
import Derived.TacticsInMore
import Derived.LoopNIn
import Derived.LoopIn
/-
  The program's renumber.
-/
namespace Go.Proofs.YtknjjjenklfeoaaGreatDoor
open Go.RowKit Go.Shelf
attribute [local go_sem ↓] loadVar_clus storeVar_clus zeroValue_clus loadVar_tab storeVar_tab zeroValue_tab loadVar_cnt storeVar_cnt zeroValue_cnt loadVar_head storeVar_head zeroValue_head build_head buildSlice_clus loadVar_wr storeVar_wr zeroValue_wr build_wr buildSlice_wr equalIn_clus loadVar_place storeVar_place zeroValue_place build_place
attribute [local go_sem] run_loadClus run_storeClus run_zeroClus run_storeClus_new run_loadClus_new zc_length run_loadTab run_storeTab run_zeroTab run_storeTab_new run_loadTab_new zt_length run_loadCnt run_storeCnt run_zeroCnt run_storeCnt_new run_loadCnt_new zk_length run_loadHead run_storeHead run_zeroHead run_storeHead_new run_bHead HasAt_drew cellsAt_drew HasAt_drewN cellsAt_drewN run_bsClus run_loadWr run_zeroWr run_storeWr run_storeWr_new run_bWr0 run_bsWr run_loadPlace run_storePlace run_zeroPlace run_storePlace_new run_bPlace
attribute [local go_sem] field_head1 field_head0 Oper.semAt_some
theorem Env.turned {w W W' : World} {v : Nat} {Cv Lv C1 L1 : Value} {V : VolR} {bs : List (Nat × Obj)} {row : Option Nat} {B : Nat} (h : Env w W v Cv Lv C1 L1 V bs) (hB : w.heap.size ≤ B) (hbs : ∀ x ∈ bs, x.2.isCells = true)
    (hg : W.grownBy W' row) (hr : ∀ r, row = some r → B ≤ r ∧ ∃ o : Obj, W.heap[r]? = some o ∧ o.isCells = false) : Env w W' v Cv Lv C1 L1 V bs := by
  have hk : Kept (fun k => row = some k) W W' := ⟨hg.os, hg.tape, hg.output, hg.size, fun k hk hs => hg.block k hk (fun e => hs e.symm)⟩
  have hn : ∀ k o, W.heap[k]? = some o → o.isCells = true → ¬ (row = some k) := by
    intro k o ho hc e
    obtain ⟨_, o', ho', hc'⟩ := hr k e
    rw [ho] at ho'
    injection ho' with ho'
    subst ho'
    rw [hc] at hc'
    cases hc'
  have hf : ∀ k, foot v C1 L1 k → ¬ (row = some k) := by
    intro k hf
    obtain ⟨q, hq, hqc⟩ := h.at'.cells hf
    exact hn k q hq hqc
  refine ⟨h.step.own hk (fun k e => ⟨by have := (hr k e).1; omega, fun hx => hf k hx e⟩), fun x hx => ?_⟩
  obtain ⟨h1, h2, h3⟩ := h.objs x hx
  exact ⟨hk.blk (hn _ _ h1 (hbs x hx)) h1, h2, h3⟩
theorem Env.n0 {w W : World} {v b : Nat} {o : Obj} {Cv Lv C1 L1 : Value} {V : VolR} {bs : List (Nat × Obj)} (h : Env w W v Cv Lv C1 L1 V ((b, o) :: bs)) : ¬ foot v C1 L1 b := (h.objs (b, o) (by simp)).2.2
theorem Env.n1 {w W : World} {v a b : Nat} {p o : Obj} {Cv Lv C1 L1 : Value} {V : VolR} {bs : List (Nat × Obj)} (h : Env w W v Cv Lv C1 L1 V ((a, p) :: (b, o) :: bs)) : ¬ foot v C1 L1 b := (h.objs (b, o) (by simp)).2.2
/-- What is no cells lies on beside a step on the volume. -/
theorem VStep.from {A B : World} {v : Nat} {C1 L1 C2 L2 : Value} {V1 V2 : VolR} (h : VolAt A v C1 L1 V1) (hs : VStep A B v C1 L1 C2 L2 V2) (D : Nat) : KeepsFrom D A B :=
  ⟨hs.kept.size, fun _ _ _ hk ho => hs.kept.blk (h.notCells hk ho) hk⟩

def InR (V : VolR) (c : Nat) : Prop := 6 ≤ c ∧ c < V.C.length
def TabOK (V : VolR) (t : Nat) : Prop := InR V t ∧ NumsOK (InR V) V.C t
theorem SameNum.tabOK {A B : VolR} (h : SameNum A B) {t : Nat} (ht : TabOK A t) : TabOK B t := by
  have e : InR B = InR A := by funext c; unfold InR; rw [h.len]
  unfold TabOK
  rw [e]
  exact ⟨ht.1, h.ok ht.2⟩
end Go.Proofs.YtknjjjenklfeoaaGreatDoor
