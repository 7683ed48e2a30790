import Derived.ChangeSame
import Derived.ProofKit
import Derived.Below
import Derived.Test.YtknjjjenklfeoaaGreatDoorChecked
import Derived.Test.YtknjjjenklfeoaaGreatDoorP57
import Derived.Test.YtknjjjenklfeoaaGreatDoorRows
import Derived.Deep.Slices
import Derived.Test.YtknjjjenklfeoaaGreatDoorP55
import Derived.Deep.DeepHandedRow
import Derived.OpenShut
import Derived.LaidHandle
import Derived.LaidLaws
import Derived.Deep.DeepWitnessRowRef
import Derived.Test.YtknjjjenklfeoaaGreatDoorCards
import Derived.Test.YtknjjjenklfeoaaGreatDoorTie
import Derived.SevenTiedAt
/- A reading of an argument stands in a world whose old blocks are unchanged, whichever spare places are asked for, so long as every block that the reading passes through is asked for. -/
namespace Go.Proofs.YtknjjjenklfeoaaGreatDoor.Row1
open Go.ChangeShapes Go.WideShapes Go.RowKit

/-- Every type that the program's table tells leads into that table, and no slice is of elements without cells. -/
def shutB (P : Program) (t : TypeId) : Bool :=
  match P.underlying t with
  | some (.slice e) => decide (0 < P.cellsOf e) && decide (e < P.types.size)
  | some (.pointer e) => decide (e < P.types.size)
  | some (.struct fs) => fs.toList.all fun f => decide (f.type < P.types.size)
  | some (.array _ e) => decide (e < P.types.size)
  | some (.map _ e) => decide (e < P.types.size)
  | _ => true
def Shut (P : Program) : Prop := ∀ t, t < P.types.size → shutB P t = true
theorem shut_of {P : Program} (h : ((List.range P.types.size).all (shutB P)) = true) : Shut P := fun t ht => List.all_eq_true.1 h t (List.mem_range.2 ht)
theorem shut : Shut Tryz.prog := shut_of (by kernel_rfl)

section
variable {H : Type} {enc : TypeId × Value → H} {P : Program} {w : World} {base : Nat} {sp : Nat → Bool}

theorem step_spare (hz : Shut P) {r r' : TypeId → List Value → Option (DataW H × List MemPlace)}
    (hr : ∀ t cs x, t < P.types.size → r t cs = some x → (∀ p ∈ x.2, sp p.block = true) → r' t cs = some x) {t : TypeId} {cs : List Value} {x : DataW H × List MemPlace} (hT : t < P.types.size)
    (h : DataW.trodStep enc P w base (fun _ => true) true r t cs = some x) (hs : ∀ p ∈ x.2, sp p.block = true) :
    DataW.trodStep enc P w base sp true r' t cs = some x := by
  have hz' := hz t hT
  unfold shutB at hz'
  unfold DataW.trodStep at h ⊢
  split at h
  case h_6 e a ht =>
    rw [ht] at hz'
    have hE : e < P.types.size := by simpa using hz'
    simp only [Option.map_eq_some_iff, Option.bind_eq_some_iff] at h ⊢
    obtain ⟨y, ⟨cs', hc, hy⟩, rfl⟩ := h
    exact ⟨y, ⟨cs', hc, hr _ _ _ hE hy (fun p hp => hs p (by simp [hp]))⟩, rfl⟩
  case h_8 e a len cap ht =>
    rw [ht] at hz'
    obtain ⟨he0, hE⟩ : 0 < P.cellsOf e ∧ e < P.types.size := by simpa using hz'
    simp only [if_true] at h ⊢
    split at h
    · rename_i hc
      rw [if_pos hc]
      simp only [Option.map_eq_some_iff, Option.bind_eq_some_iff] at h ⊢
      obtain ⟨elems, he, rest, hrest, rfl⟩ := h
      have hrl : rest.length = cap - len := by simpa using mapM_some_length hrest
      have one : ∀ (i : Nat) (y : DataW H × List MemPlace), y ∈ elems ++ rest →
          (w.cells? base (a.add (i * P.cellsOf e)) (P.cellsOf e)).bind (r e) = some y → (w.cells? base (a.add (i * P.cellsOf e)) (P.cellsOf e)).bind (r' e) = some y := by
        intro i y hy hv
        simp only [Option.bind_eq_some_iff] at hv ⊢
        obtain ⟨cs', hc', hy'⟩ := hv
        refine ⟨cs', hc', hr _ _ _ hE hy' (fun p hp => hs p ?_)⟩
        simp only [List.mem_append, List.mem_flatMap]
        exact Or.inr ⟨y, by simpa using hy, hp⟩
      refine ⟨elems, mapM_carry he (fun i y _ hy => one i y (by simp [hy])), rest, ?_, rfl⟩
      by_cases hcap : cap - len = 0
      · have hr0 : rest = [] := List.eq_nil_of_length_eq_zero (hrl.trans hcap)
        subst hr0
        simp [hcap]
      · have hb : sp a.block = true := by
          refine hs (.cell a.block (a.off + 0)) ?_
          refine List.mem_append.2 (Or.inl (MemPlace.mem_row.2 ⟨0, ?_, rfl⟩))
          exact Nat.mul_pos (by omega) he0
        rw [if_pos hb]
        exact mapM_carry hrest (fun j y _ hy => one (len + j) y (by simp [hy]))
    · cases h
  case h_9 _ fs ht =>
    rw [ht] at hz'
    have hE : ∀ f ∈ fs.toList, f.type < P.types.size := fun f hf => by simpa using List.all_eq_true.1 hz' f hf
    split at h
    · rename_i hc
      rw [if_pos hc]
      simp only [Option.map_eq_some_iff] at h ⊢
      obtain ⟨xs, hx, rfl⟩ := h
      exact ⟨xs, mapM_carry hx (fun f y hf hy hv => hr _ _ _ (hE f hf) hv (fun p hp => hs p (List.mem_flatMap.2 ⟨y, hy, hp⟩))), rfl⟩
    · cases h
  case h_10 _ _ e ht =>
    rw [ht] at hz'
    have hE : e < P.types.size := by simpa using hz'
    split at h
    · rename_i hc
      rw [if_pos hc]
      simp only [Option.map_eq_some_iff] at h ⊢
      obtain ⟨xs, hx, rfl⟩ := h
      exact ⟨xs, mapM_carry hx (fun f y _ hy hv => hr _ _ _ hE hv (fun p hp => hs p (List.mem_flatMap.2 ⟨y, hy, hp⟩))), rfl⟩
    · cases h
  case h_14 k e b ht =>
    rw [ht] at hz'
    have hE : e < P.types.size := by simpa using hz'
    split at h
    · rename_i es clock hb
      split at h
      · rename_i hc
        simp only [Option.bind_eq_some_iff] at h
        obtain ⟨entries, he, hd⟩ := h
        split at hd
        · rename_i hris
          have hx := Option.some.inj hd
          subst hx
          simp only [if_pos hc, Option.bind_eq_some_iff]
          refine ⟨entries, mapM_carry he (fun x y _ hy hv => ?_), by simp [hris]⟩
          simp only [Option.bind_eq_some_iff] at hv ⊢
          obtain ⟨key, hk, hz⟩ := hv
          refine ⟨key, hk, ?_⟩
          split at hz
          · rename_i hf
            rw [if_pos hf]
            simp only [Option.map_eq_some_iff] at hz ⊢
            obtain ⟨q, hq, rfl⟩ := hz
            exact ⟨q, hr _ _ _ hE hq (fun p hp => hs p (by simp only [List.mem_cons, List.mem_flatMap]; exact Or.inr ⟨_, hy, hp⟩)), rfl⟩
          · cases hz
        · cases hd
      · cases h
    · cases h
  all_goals first | exact h | cases h

theorem trod_spare (hz : Shut P) : ∀ (n : Nat) (t : TypeId) (cs : List Value) (x : DataW H × List MemPlace), t < P.types.size →
    DataW.trod enc P w base (fun _ => true) true n t cs = some x → (∀ p ∈ x.2, sp p.block = true) → DataW.trod enc P w base sp true n t cs = some x := by
  intro n
  induction n with
  | zero => intro t cs x _ h; simp [DataW.trod] at h
  | succ n ih =>
    intro t cs x hT h hs
    rw [DataW.trod_step] at h ⊢
    exact step_spare hz ih hT h hs

theorem trodAll_spare {w' : World} (hz : Shut P) (hB : Below w.heap.size w w') :
    ∀ {ts : List TypeId} {vs : List Value} {ds : List (DataW H)} {ps : List MemPlace}, (∀ t ∈ ts, t < P.types.size) → DataW.TrodAll enc P w base (fun _ => true) true ts vs ds ps →
      (∀ p ∈ ps, sp p.block = true) → DataW.TrodAll enc P w' base sp true ts vs ds ps
  | [], [], [], _, _, h, _ => h
  | _ :: _, _ :: _, _ :: _, _, hT, ⟨a, b, ⟨n, h1⟩, h2, e⟩, hs => by
    subst e
    refine ⟨a, b, ⟨n, ?_⟩, trodAll_spare hz hB (fun t ht => hT t (List.mem_cons_of_mem _ ht)) h2 (fun p hp => hs p (List.mem_append_right _ hp)), rfl⟩
    have h3 := trod_spare (sp := sp) hz n _ _ _ (hT _ List.mem_cons_self) h1 (fun p hp => hs p (List.mem_append_left _ hp))
    exact DataW.trod_carry n _ _ _ h3 (fun p hp => hB.same (DataW.trod_lt n _ _ _ h3 p hp))
end
end Go.Proofs.YtknjjjenklfeoaaGreatDoor.Row1

/- A script that the reading of an argument has passed through lies in memory as SRow says, and it is short where the reading is small. -/
namespace Go.Proofs.YtknjjjenklfeoaaGreatDoor
open Go.RowKit Go.ChangeShapes Go.WideShapes Go.Deep

section
variable {H : Type} {enc : TypeId × Value → H} {w : World} {sp : Nat → Bool}

theorem one_slice {t e : TypeId} {n : Nat} {c : Value} {x : DataW H × List MemPlace} (ht : Tryz.prog.underlying t = some (.slice e))
    (h : DataW.trod enc Tryz.prog w 0 sp true n t [c] = some x) : c.oneCell' = true := by
  rcases open_slice ht h with ⟨hc, _⟩ | ⟨a, len, cap, _, _, _, _, hc, _⟩
  · obtain rfl : c = .slice none 0 0 := by simpa using hc
    rfl
  · obtain rfl : c = .slice (some a) len cap := by simpa using hc
    rfl

theorem six {α : Type} {l : List α} (h : l.length = 6) : ∃ a b c d e f, l = [a, b, c, d, e, f] := by
  match l, h with
  | [a, b, c, d, e, f], _ => exact ⟨a, b, c, d, e, f, rfl⟩
theorem one_int : Tryz.prog.cellsOf 3 = 1 := by kernel_rfl
theorem one_string : Tryz.prog.cellsOf 9 = 1 := by kernel_rfl
theorem one_raw : Tryz.prog.cellsOf 34 = 1 := by kernel_rfl
theorem one_gone : Tryz.prog.cellsOf 57 = 1 := by kernel_rfl
/-- What the reading of a step tells of its cells. -/
theorem open_op {n : Nat} {cs : List Value} {x : DataW H × List MemPlace} (h : DataW.trod enc Tryz.prog w 0 sp true n 80 cs = some x) :
    ∃ o : OpR, cs = opCells o ∧ o.Fits ∧ (o.text.size ≤ maxLen ∧ o.name.size ≤ maxLen) ∧ ∃ ys, x.1 = .agg ys ∧ 0 < ys.length := by
  obtain ⟨xs, m, _, rfl, hl, hlen, hf⟩ := DataW.trod_struct Tryz.underlying80 h
  have hl6 : cs.length = 6 := hl.trans (by kernel_rfl)
  have hx6 : xs.length = 6 := hlen
  obtain ⟨c0, c1, c2, c3, c4, c5, rfl⟩ := six hl6
  obtain ⟨x0, x1, x2, x3, x4, x5, rfl⟩ := six hx6
  have f0 : DataW.trod enc Tryz.prog w 0 sp true m 3 (([c0, c1, c2, c3, c4, c5].drop 0).take (Tryz.prog.cellsOf 3)) = some x0 := hf 0 _ rfl
  have f1 : DataW.trod enc Tryz.prog w 0 sp true m 3 (([c0, c1, c2, c3, c4, c5].drop 1).take (Tryz.prog.cellsOf 3)) = some x1 := hf 1 _ rfl
  have f2 : DataW.trod enc Tryz.prog w 0 sp true m 9 (([c0, c1, c2, c3, c4, c5].drop 2).take (Tryz.prog.cellsOf 9)) = some x2 := hf 2 _ rfl
  have f3 : DataW.trod enc Tryz.prog w 0 sp true m 9 (([c0, c1, c2, c3, c4, c5].drop 3).take (Tryz.prog.cellsOf 9)) = some x3 := hf 3 _ rfl
  have f4 : DataW.trod enc Tryz.prog w 0 sp true m 34 (([c0, c1, c2, c3, c4, c5].drop 4).take (Tryz.prog.cellsOf 34)) = some x4 := hf 4 _ rfl
  have f5 : DataW.trod enc Tryz.prog w 0 sp true m 57 (([c0, c1, c2, c3, c4, c5].drop 5).take (Tryz.prog.cellsOf 57)) = some x5 := hf 5 _ rfl
  rw [one_int] at f0
  rw [one_int] at f1
  rw [one_string] at f2
  rw [one_string] at f3
  rw [one_raw] at f4
  rw [one_gone] at f5
  change DataW.trod enc Tryz.prog w 0 sp true m _ [c0] = _ at f0
  change DataW.trod enc Tryz.prog w 0 sp true m _ [c1] = _ at f1
  change DataW.trod enc Tryz.prog w 0 sp true m _ [c2] = _ at f2
  change DataW.trod enc Tryz.prog w 0 sp true m _ [c3] = _ at f3
  change DataW.trod enc Tryz.prog w 0 sp true m _ [c4] = _ at f4
  change DataW.trod enc Tryz.prog w 0 sp true m _ [c5] = _ at f5
  obtain ⟨k, hk, _⟩ := DataW.trod_int (k := .i64) (by kernel_rfl) f0
  obtain ⟨q, hq, _⟩ := DataW.trod_int (k := .i64) (by kernel_rfl) f1
  obtain ⟨s, hs, _, hsl⟩ := DataW.trod_string (by kernel_rfl) f2
  obtain ⟨u, hu, _, hul⟩ := DataW.trod_string (by kernel_rfl) f3
  have g4 := one_slice Tryz.underlying34 f4
  have g5 := one_slice Tryz.underlying57 f5
  obtain rfl : c0 = .int .i64 k := by simpa using hk
  obtain rfl : c1 = .int .i64 q := by simpa using hq
  obtain rfl : c2 = .string s := by simpa using hs
  obtain rfl : c3 = .string u := by simpa using hu
  exact ⟨⟨k, q, s, u, c4, c5⟩, rfl, ⟨g4, g5⟩, ⟨hul, hsl⟩, _, rfl, by simp⟩

theorem bulk_pos : ∀ d : DataW H, 1 ≤ Rows.uptoBulk d := by
  intro d
  cases d with
  | lit l => cases l <;> simp [Rows.uptoBulk]
  | _ => simp [Rows.uptoBulk]
theorem bulk_len : ∀ ds : List (DataW H), ds.length ≤ Rows.uptoBulkAll ds
  | [] => Nat.le_refl 0
  | d :: r => by
    have := bulk_pos d
    have := bulk_len r
    show r.length + 1 ≤ Rows.uptoBulk d + Rows.uptoBulkAll r
    omega
theorem bulk_two {D : Nat → DataW H} : ∀ {l : List Nat}, (∀ i ∈ l, 2 ≤ Rows.uptoBulk (D i)) → 2 * l.length ≤ Rows.uptoBulkAll (l.map D)
  | [], _ => Nat.le_refl 0
  | i :: r, h => by
    have h1 := h i List.mem_cons_self
    have h2 := bulk_two (D := D) (l := r) (fun k hk => h k (List.mem_cons_of_mem _ hk))
    show 2 * (r.length + 1) ≤ Rows.uptoBulk (D i) + Rows.uptoBulkAll (r.map D)
    omega
theorem range_of_cells {g o n : Nat} {spot : Option Nat} {cs : List Value} (hn : cs.length = n) (h0 : 0 < n) (h : w.cells? 0 ⟨g, o, spot⟩ n = some cs) : (spot = none → w.rangeAt g o cs) ∧ g < w.heap.size := by
  refine ⟨fun hs => ?_, World.cells?_block h h0⟩
  subst hs
  intro j v hj
  unfold World.cells? at h
  rw [if_pos (Nat.zero_le _)] at h
  have hj' : j < n := by
    rcases Nat.lt_or_ge j n with h' | h'
    · exact h'
    · rw [List.getElem?_eq_none (by omega)] at hj
      cases hj
  have := mapM_some_get h j j (by rw [List.getElem?_range hj'])
  have e : (Addr.add ⟨g, o, none⟩ j) = ⟨g, o + j, none⟩ := by
    unfold Addr.add
    split
    · simp
    · rfl
  rw [e] at this
  rw [this, hj]
theorem cells_op : Tryz.prog.cellsOf 80 = 6 := by kernel_rfl
/-- THE SCRIPT, OPENED. -/
theorem open_ops {fuel : Nat} {a : Option Addr} {len cap : Nat} {x : DataW H × List MemPlace} (h : DataW.trod enc Tryz.prog w 0 (fun _ => true) true fuel 22 [.slice a len cap] = some x) :
    ∃ ops : Nat → OpR, SRow w a len ops ∧ 2 * len ≤ Rows.uptoBulk x.1 := by
  rcases open_slice Tryz.underlying22 h with ⟨hc, rfl⟩ | ⟨b, len', cap', m, n, D, Pl, hc, _, hl, hm, hmm, rfl, hel⟩
  · obtain ⟨rfl, rfl, rfl⟩ : a = none ∧ len = 0 ∧ cap = 0 := by simpa using hc
    exact ⟨fun _ => zo, ⟨fun h0 => by omega, fun i hi => by omega, fun i hi => by omega⟩, by omega⟩
  · obtain ⟨rfl, rfl, rfl⟩ : a = some b ∧ len = len' ∧ cap = cap' := by simpa using hc
    simp only [if_true] at hmm
    subst hmm
    rw [cells_op] at hel
    have each : ∀ i, i < m → ∃ o : OpR, w.cells? 0 (b.add (i * 6)) 6 = some (opCells o) ∧ o.Fits ∧ (o.text.size ≤ maxLen ∧ o.name.size ≤ maxLen) ∧ 2 ≤ Rows.uptoBulk (D i) := by
      intro i hi
      obtain ⟨cs, h1, h2⟩ := hel i hi
      obtain ⟨o, rfl, ho, ht, ys, hy, hp⟩ := open_op h2
      refine ⟨o, h1, ho, ht, ?_⟩
      have hy' : D i = .agg ys := hy
      rw [hy']
      have := bulk_len ys
      show 2 ≤ Rows.uptoBulkAll ys + 1
      omega
    have : Inhabited OpR := ⟨zo⟩
    obtain ⟨ops, hops⟩ := choose_lt each
    obtain ⟨g, o, spot⟩ := b
    refine ⟨ops, ⟨fun h0 => ?_, fun i hi => (hops i (by omega)).2.1, fun i hi => (hops i (by omega)).2.2.1⟩, ?_⟩
    · have h1 := (hops 0 (by omega)).1
      have hspot : spot = none := by
        have h2 := h1
        unfold World.cells? at h2
        rw [if_pos (Nat.zero_le _)] at h2
        have h3 := mapM_some_get h2 0 0 rfl
        simpa [Addr.add] using World.cell?_spot (h3.trans (rfl : (opCells (ops 0))[0]? = some _))
      subst hspot
      have hadd : ∀ i, Addr.add ⟨g, o, none⟩ (i * 6) = ⟨g, o + i * 6, none⟩ := by
        intro i
        unfold Addr.add
        split
        · simp
        · rfl
      refine ⟨g, o, rfl, ?_, fun i hi => ?_⟩
      · rw [hadd] at h1
        exact (range_of_cells (n := 6) rfl (by decide) h1).2
      · have h4 := (hops i (by omega)).1
        rw [hadd] at h4
        exact (range_of_cells (n := 6) rfl (by decide) h4).1 rfl
    · have h5 := bulk_two (D := D) (l := List.range len) (fun i hi => (hops i (by have := List.mem_range.1 hi; omega)).2.2.2)
      rw [List.length_range] at h5
      show 2 * len ≤ Rows.uptoBulkAll ((List.range len).map D) + Rows.uptoBulkAll _ + 1
      omega
end
end Go.Proofs.YtknjjjenklfeoaaGreatDoor

/- What the row of vellumlaw's Any asks of its call: true, and the files read as they did. -/
namespace Go.Proofs.YtknjjjenklfeoaaGreatDoor
open Go.RowKit Go.ChangeShapes Go.WideShapes Go.Deep
section
variable {H : Type} {enc : TypeId × Value → H} {w : World}
theorem spot_none {a : Addr} {x : Value} (h : w.cell? (a.add 0) = some x) : a.spot = none := by
  have := World.cell?_spot h
  unfold Addr.add at this
  rw [if_pos rfl] at this
  exact this
theorem cell_at {g o i : Nat} {x : Value} (h : w.cell? (Addr.add ⟨g, o, none⟩ i) = some x) : w.cell? ⟨g, o + i, none⟩ = some x := by
  rw [Addr.add_mid] at h
  exact h
theorem cell_lt {a : Addr} {x : Value} (h : w.cell? a = some x) : a.block < w.heap.size := by
  rcases Nat.lt_or_ge a.block w.heap.size with y | y
  · exact y
  · unfold World.cell? at h
    rw [Array.getElem?_eq_none y] at h
    cases h
/-- TEXTS, OPENED. -/
theorem open_strs {fuel : Nat} {a : Option Addr} {len cap : Nat} {sp : Nat → Bool} {x : DataW H × List MemPlace} (h : DataW.trod enc Tryz.prog w 0 sp true fuel 34 [.slice a len cap] = some x) :
    ∃ ss : Nat → ByteArray, StrRow w a len ss ∧ len ≤ maxLen := by
  rcases open_slice1 Tryz.underlying34 one_string h with ⟨hc, rfl⟩ | ⟨b, len', cap', m, n, V, D, Pl, hc, _, hl, hm, hmm, rfl, hel⟩
  · obtain ⟨rfl, rfl, rfl⟩ : a = none ∧ len = 0 ∧ cap = 0 := by simpa using hc
    exact ⟨fun _ => .empty, ⟨fun h0 => by omega, fun i hi => by omega⟩, Nat.zero_le _⟩
  · obtain ⟨rfl, rfl, rfl⟩ : a = some b ∧ len = len' ∧ cap = cap' := by simpa using hc
    have hlm : len ≤ m := by rw [hmm]; split <;> omega
    have each : ∀ i, i < len → ∃ s : ByteArray, w.cell? (b.add i) = some (.string s) ∧ s.size ≤ maxLen := by
      intro i hi
      obtain ⟨h1, h2⟩ := hel i (by omega)
      obtain ⟨s, hs, _, hsl⟩ := DataW.trod_string (by kernel_rfl) h2
      obtain hs' : V i = .string s := by simpa using hs
      exact ⟨s, by rw [h1, hs'], hsl⟩
    have : Inhabited ByteArray := ⟨.empty⟩
    obtain ⟨ss, hss⟩ := choose_lt each
    obtain ⟨g, o, spot⟩ := b
    refine ⟨ss, ⟨fun h0 => ?_, fun i hi => (hss i hi).2⟩, by omega⟩
    have hsp : spot = none := spot_none (hss 0 h0).1
    subst hsp
    refine ⟨g, o, rfl, ?_, fun i hi => cell_at (hss i hi).1⟩
    have := cell_lt (hss 0 h0).1
    rw [Addr.add_mid] at this
    exact this
theorem one_strs : Tryz.prog.cellsOf 34 = 1 := by kernel_rfl
/-- FILES AS TEXTS, OPENED. -/
theorem open_files {fuel : Nat} {a : Option Addr} {len cap : Nat} {sp : Nat → Bool} {x : DataW H × List MemPlace} (h : DataW.trod enc Tryz.prog w 0 sp true fuel 25 [.slice a len cap] = some x) :
    ∃ av ns caps ss, FilesRow w a len av ns caps ss ∧ len ≤ maxLen := by
  rcases open_slice1 Tryz.underlying25 one_strs h with ⟨hc, rfl⟩ | ⟨b, len', cap', m, n, V, D, Pl, hc, _, hl, hm, hmm, rfl, hel⟩
  · obtain ⟨rfl, rfl, rfl⟩ : a = none ∧ len = 0 ∧ cap = 0 := by simpa using hc
    exact ⟨fun _ => none, fun _ => 0, fun _ => 0, fun _ _ => .empty, ⟨fun h0 => by omega, fun i hi => by omega⟩, Nat.zero_le _⟩
  · obtain ⟨rfl, rfl, rfl⟩ : a = some b ∧ len = len' ∧ cap = cap' := by simpa using hc
    have hlm : len ≤ m := by rw [hmm]; split <;> omega
    have each : ∀ i, i < len → ∃ q : (Option Addr × Nat × Nat) × (Nat → ByteArray), w.cell? (b.add i) = some (.slice q.1.1 q.1.2.1 q.1.2.2) ∧ StrRow w q.1.1 q.1.2.1 q.2 ∧ q.1.2.1 ≤ maxLen := by
      intro i hi
      obtain ⟨h1, h2⟩ := hel i (by omega)
      have hv : ∃ a' l' c', V i = .slice a' l' c' := by
        rcases open_slice Tryz.underlying34 h2 with ⟨hc, _⟩ | ⟨a', l', c', _, _, _, _, hc, _⟩
        · exact ⟨none, 0, 0, by simpa using hc⟩
        · exact ⟨some a', l', c', by simpa using hc⟩
      obtain ⟨a', l', c', hv⟩ := hv
      rw [hv] at h1 h2
      obtain ⟨ss, h3, h4⟩ := open_strs h2
      exact ⟨((a', l', c'), ss), h1, h3, h4⟩
    have : Inhabited ((Option Addr × Nat × Nat) × (Nat → ByteArray)) := ⟨((none, 0, 0), fun _ => .empty)⟩
    obtain ⟨q, hq⟩ := choose_lt each
    obtain ⟨g, o, spot⟩ := b
    refine ⟨fun i => (q i).1.1, fun i => (q i).1.2.1, fun i => (q i).1.2.2, fun i => (q i).2, ⟨fun h0 => ?_, fun i hi => (hq i hi).2⟩, by omega⟩
    have hsp : spot = none := spot_none (hq 0 h0).1
    subst hsp
    refine ⟨g, o, rfl, ?_, fun i hi => cell_at (hq i hi).1⟩
    have := cell_lt (hq 0 h0).1
    rw [Addr.add_mid] at this
    exact this
end
namespace Any
theorem typesB : ((Tryz.f6.params.toList).all fun t => decide (t < Tryz.prog.types.size)) = true := by kernel_rfl
set_option maxRecDepth 100000 in
theorem contract (H : Type) (enc : TypeId × Value → H) (W : World) (base : Nat) (args : Array Value) (ds gs : List (DataW H)) (before : List MemPlace)
    (hval : ∀ (j : Nat) t v, Tryz.f6.params[j]? = some t → args[j]? = some v → Value.okWide Tryz.prog W .any base t v)
    (hW : DataW.Whole enc Tryz.prog Tryz.f6.params.toList Rows.anySpec.vars false W args.toList ds gs before)
    (hG : Glob W) :
    Calls Tryz.prog 6 args W fun e W' => ∃ v, e = .returned v ∧ Rows.anySpec.post enc Tryz.prog Tryz.f6 false true false false W args v W' := by
  have hW' := hW
  obtain ⟨p, q, hA0, hV, rfl, hfz, hnd⟩ := hW
  have hA1 : DataW.TrodAll enc Tryz.prog W 0 (fun _ => true) true Tryz.f6.params.toList args.toList ds p := hA0
  have hA := hA1
  rw [Tryz.params6] at hA hval
  obtain ⟨v0, d0, rfl, rfl, h0⟩ := trodAll_one hA
  obtain ⟨rfl, rfl⟩ := trodVars_none hV
  obtain ⟨a, len, cap, rfl⟩ := okWide_slice Tryz.underlying25 (hval 0 25 v0 rfl rfl)
  obtain ⟨fuel, hf⟩ := h0
  obtain ⟨av, ns, caps, ss, hs, hlen⟩ := open_files hf
  simp only [List.append_nil] at hW'
  refine (lawAny_any W a len cap av ns caps ss hs hlen hG).mono fun e W' ⟨he, hB⟩ => ?_
  subst he
  have hT : ∀ t ∈ Tryz.f6.params.toList, t < Tryz.prog.types.size := fun t ht => of_decide_eq_true (List.all_eq_true.1 typesB t ht)
  have hold : ∀ x ∈ p, (fun b => decide (b < W.heap.size)) x.block = true := fun x hx => by simpa using hW'.lt x (by simpa using hx)
  refine ⟨_, rfl, [d0], [], p, [], p, [], hW', ?_, ?_, rfl, World.keptBut_mono (fun x hx => ⟨hx, Or.inr (Or.inl hx)⟩) (hB.frame _), fun h => by cases h⟩
  · exact trodAll_cons_mk (shut_bool (by kernel_rfl) _) trodAll_mk0
  · exact Row1.trodAll_spare Row1.shut hB hT hA1 hold
end Any
end Go.Proofs.YtknjjjenklfeoaaGreatDoor

/- A world that holds the package-level variables as the program's text lays them: the witness of every row of this seat. -/
namespace Go.Proofs.YtknjjjenklfeoaaGreatDoor.Wit
open Go.RowKit

theorem own : ownKnob Tryz.prog.godebug = none := by kernel_rfl
def low (P : Program) : Nat := (World.holding P default ⟨#[], #[], []⟩).heap.size
/-- The text of an error of the rows' list. -/
def textOf : DataW Unit → List UInt8
  | .iface _ (.ptr (.agg [.lit (.string s)])) => s
  | _ => []
def cellOf (d : DataW Unit) : Obj := .cells #[.string ⟨(textOf d).toArray⟩] 287
def lay (h : Array Obj) (g : Nat) (v : Value) : Array Obj := h.modify g fun
  | .cells _ t frozen => .cells #[v] t frozen
  | o => o
def err (P : Program) (k : Nat) : Value := .iface 267 (.pointer (some ⟨low P + k, 0, none⟩))
def laidWorld (P : Program) (os : Os) : World :=
  let w0 := World.holding P os ⟨#[cellOf Rows.laid_vellum_volume_errLength, cellOf Rows.laid_vellum_volume_errHead, cellOf Rows.laid_vellum_volume_errList, cellOf Rows.laid_vellum_volume_errCount, cellOf Rows.laid_vellum_volume_errMark, cellOf Rows.laid_vellum_volume_errNowhere, cellOf Rows.laid_vellum_volume_errTwice, cellOf Rows.laid_vellum_volume_errBehind], #[], []⟩
  let h0 := lay w0.heap 0 (err P 0)
  let h1 := lay h0 1 (err P 1)
  let h2 := lay h1 2 (err P 2)
  let h3 := lay h2 3 (err P 3)
  let h4 := lay h3 4 (err P 4)
  let h5 := lay h4 5 (.iface 246 (.agg #[.pointer (some ⟨10, 98, none⟩)]))
  let h6 := lay h5 6 (err P 5)
  let h7 := lay h6 7 (err P 6)
  let h8 := lay h7 8 (err P 7)
  { w0 with heap := h8 }
theorem laid_met (os : Os) (args : Array Value) : laidMetH Tryz.prog Rows.blocksUptoRow.laid ((laidWorld Tryz.prog os).forCall (fun _ _ => 0) ⟨#[], args, []⟩).memory :=
  laidMetH_of_parts (laidMet_of_run' 8 (by kernel_rfl) (by kernel_rfl)) (by kernel_rfl)
theorem refs (os : Os) (args : Array Value) : ((laidWorld Tryz.prog os).forCall (fun _ _ => 0) ⟨#[], args, []⟩).variablesRefB Tryz.prog = true := by kernel_rfl
theorem rows (os : Os) (args : Array Value) : (((laidWorld Tryz.prog os).forCall (fun _ _ => 0) ⟨#[], args, []⟩).heap.toList.drop Tryz.prog.globals.size).take ((begin Tryz.prog (fun _ _ => 0) default).world.heap.size - Tryz.prog.globals.size) =
      (begin Tryz.prog (fun _ _ => 0) default).world.heap.toList.drop Tryz.prog.globals.size := by kernel_rfl
end Go.Proofs.YtknjjjenklfeoaaGreatDoor.Wit

/- PROVED HERE: the tied card of vellumlaw.Any (AnyCardSaid): whatever the files, Any returns true, and they read behind the call as they read before. -/
namespace Go.Proofs.YtknjjjenklfeoaaGreatDoor.Any
open Go.ChangeShapes Go.WideShapes Go.ChangeAt Go.RowKit

theorem reads (os : Os) {H : Type} (enc : TypeId × Value → H) :
    DataW.whole enc Tryz.prog ((Wit.laidWorld Tryz.prog os).forCall (fun _ _ => 0) ⟨#[], #[.slice none 0 0], []⟩).memory Tryz.f6.params.toList Rows.anySpec.vars false #[Value.slice none 0 0].toList 8 = some ([.nil], [], []) := by kernel_rfl

set_option maxRecDepth 100000 in
theorem lifted (os : Os) (started : os.Started) (H : Type) (enc : TypeId × Value → H) (F : Stop.Interp) :
    ReturnsInHanded {} Tryz.checked os 6 .any ((OpenSpec.ofChange Rows.anySpec).preRow enc Tryz.prog Tryz.f6 Rows.anyRow.domain false Rows.anyRow.laid) (((OpenSpec.ofChange Rows.anySpec).at F).post enc Tryz.prog Tryz.f6 false true false false) := by
  refine returnsInHanded_of_row (C := Tryz.checked) (s := OpenSpec.ofChange Rows.anySpec) Wit.own started (by kernel_rfl) Tryz.func6
    (witness_row_atRef (enc := enc) (C := Tryz.checked) false (Wit.laidWorld Tryz.prog os) #[.slice none 0 0] rfl (Wit.refs os _) (Wit.rows os _) (by kernel_rfl)
      (OpenSpec.preRow_of_cond 8 (reads os enc) (by kernel_rfl) (fun k hk => by cases hk) (by kernel_rfl) (Wit.laid_met os _))) ?_
  intro W base args ds gs before hval hW _ _ _ hlaid _ _
  exact contract H enc W base args ds gs before hval hW (glob_of_laid hlaid)

theorem said : Rows.AnySaid :=
  OpenClaim.holds_of_cond 6 Tryz.f6 rfl rfl rfl rfl rfl rfl rfl ⟨rfl, rfl, rfl, rfl, rfl⟩ rfl rfl rfl rfl rfl (by kernel_rfl) Tryz.func6 (by kernel_rfl)
    (of_decide_eq_true (by kernel_rfl)) (by unfold Func.isWrapper; first | (rw [if_pos (by decide +kernel)]; kernel_rfl) | (rw [if_neg (by decide +kernel)]; exact ⟨rfl, rfl⟩))
    (fun os started H enc _ F => by rw [OpenClaim.pre_eq_preRow]; exact lifted os started H enc F)

theorem plain (f : FuncId) (fn : Func) (hf : Tryz.pinned.checked.prog.funcNamed Rows.anyRow.func = some f) (hfn : Tryz.pinned.checked.prog.funcs[f]? = some fn) :
    true = Tryz.pinned.checked.prog.looks [] ∧ ∀ (j : Nat) t, fn.params[j]? = some t → Tryz.pinned.checked.prog.wantsStandIn t = false := by
  obtain rfl : f = 6 := Option.some.inj ((show Tryz.prog.funcNamed Rows.anyRow.func = some 6 by kernel_rfl).symm.trans hf) |>.symm
  obtain rfl : fn = Tryz.f6 := (Option.some.inj (Tryz.func6.symm.trans hfn)).symm
  refine ⟨by kernel_rfl, fun j t ht => ?_⟩
  rw [Tryz.params6] at ht
  obtain rfl : t = 25 := by simpa using Array.mem_of_getElem? ht
  exact (show Tryz.prog.wantsStandIn 25 = false by kernel_rfl)

theorem card : Rows.AnyCardSaid :=
  Claim7.holds_tied_plain_at .later [] _ _ _ _ said (fun _ h => by cases h) (by kernel_rfl) (fun _ h => by cases h) any_row_tie rfl ⟨rfl, rfl⟩ (by kernel_rfl) rfl plain (by kernel_rfl)
end Go.Proofs.YtknjjjenklfeoaaGreatDoor.Any
namespace Go.Proofs.YtknjjjenklfeoaaGreatDoor
theorem any_card : Rows.AnyCardSaid := Any.card
end Go.Proofs.YtknjjjenklfeoaaGreatDoor
