import Derived.Test.YtknjjjenklfeoaaGreatDoorP26
import Derived.Test.YtknjjjenklfeoaaGreatDoorP44
import Derived.ChangeSame
import Derived.ProofKit
import Derived.Below
import Derived.Test.YtknjjjenklfeoaaGreatDoorChecked
import Derived.Test.YtknjjjenklfeoaaGreatDoorRows
import Derived.Deep.Slices
import Derived.Test.YtknjjjenklfeoaaGreatDoorP43
import Derived.Deep.DeepHandedRow
import Derived.OpenShut
import Derived.LaidHandle
import Derived.LaidLaws
import Derived.Deep.DeepWitnessRowRef
import Derived.Test.YtknjjjenklfeoaaGreatDoorCards
import Derived.Test.YtknjjjenklfeoaaGreatDoorTie
import Derived.SevenTiedAt
/-
  vellumlaw's step, of the kinds of Blocks.
-/
namespace Go.Proofs.YtknjjjenklfeoaaGreatDoor
open Go.RowKit
attribute [local go_sem ↓] loadVar_clus storeVar_clus zeroValue_clus loadVar_op equalIn_clus
attribute [local go_sem] run_loadClus run_storeClus run_zeroClus run_storeClus_new run_loadClus_new zc_length run_loadOp HasAt_drew cellsAt_drew
/-- How a step ends: with which pair it goes on, and what has become of the book. -/
structure Stepped (w w' : World) (p b : Nat) (P : PairR) (S : Nat → Prop) (B : BookR) (U : Nat → Prop) (P' : PairR) (S' : Nat → Prop) (V' : BookV) (B' : BookR) (U' : Nat → Prop) : Prop where
  at' : PairAt w' p P' S'
  book : BookAt w' b V' B' U'
  base : P'.B = P.B
  log : P'.V.L.length ≤ P.V.L.length + 100
  logp : 0 < P.V.L.length → 0 < P'.V.L.length
  marks : P'.ms.length ≤ P.ms.length + 1
  next : B'.next ≤ B.next + 2
  files : B'.files.length ≤ B.files.length + 4
  writes : B'.writes.length ≤ B.writes.length + 4
  names : B'.names.length ≤ B.names.length + 4
  lowF : ∀ x ∈ B'.files, x ∈ B.files ∨ x.n ≤ 258
  lowW : ∀ x ∈ B'.writes, x ∈ B.writes ∨ x.n ≤ P.V.L.length + 2
  lowN : ∀ x ∈ B'.names, x ∈ B.names ∨ x.n ≤ 8
  kept : Kept (fun k => S k ∨ U k) w w'
  newS : ∀ k, S' k → S k ∨ w.heap.size ≤ k
  newU : ∀ k, U' k → U k ∨ w.heap.size ≤ k
  apart : ∀ k, S' k → ¬ U' k
theorem Stepped.none {w w' : World} {p b : Nat} {P : PairR} {S : Nat → Prop} {V : BookV} {B : BookR} {U : Nat → Prop} (h : PairAt w p P S) (hb : BookAt w b V B U) (hSU : ∀ k, S k → ¬ U k) (hB : Below w.heap.size w w') : Stepped w w' p b P S B U P S V B U :=
  ⟨h.below hB, hb.below hB, rfl, by omega, id, by omega, by omega, by omega, by omega, by omega, fun x hx => Or.inl hx, fun x hx => Or.inl hx, fun x hx => Or.inl hx, Kept.of_below hB, fun k hk => Or.inl hk, fun k hk => Or.inl hk, hSU⟩
end Go.Proofs.YtknjjjenklfeoaaGreatDoor

/-
  vellumlaw's plays: a script on two disks in turn, whatever steps there are.
-/
namespace Go.Proofs.YtknjjjenklfeoaaGreatDoor
open Go.RowKit
attribute [local go_sem ↓] loadVar_op storeVar_op zeroValue_op build_disk
attribute [local go_sem] run_loadOp run_zeroOp run_storeOp_new
theorem run_bDisk0 {w : World} : (bDisk #[]).run Tryz.prog w = .ok (.agg (diskCells ⟨zD, []⟩ (.slice none 0 0)).toArray) w := by
  have hz := (zero_of_info (P := Tryz.prog) (t := 70) (v := .agg (diskCells ⟨zD, []⟩ (.slice none 0 0)).toArray) (n := 4097) (by kernel_rfl)).1
  exact run_build_struct w 70 _ (.agg (diskCells ⟨zD, []⟩ (.slice none 0 0)).toArray) #[(0, 4096), (4096, 1)] #[] _ Tryz.underlying70 hz (fun w => by kernel_rfl) rfl
attribute [local go_sem] run_bDisk0
/-- How a step ends: with which pair it goes on, and what has become of the book. -/
structure Stepping (w w' : World) (p' b : Nat) (P : PairR) (S : Nat → Prop) (B : BookR) (U : Nat → Prop) (P' : PairR) (S' : Nat → Prop) (V' : BookV) (B' : BookR) (U' : Nat → Prop) : Prop where
  at' : PairAt w' p' P' S'
  book : BookAt w' b V' B' U'
  log : P'.V.L.length ≤ P.V.L.length + 100
  marks : P'.ms.length ≤ P.ms.length + 2
  next : B'.next ≤ B.next + 2
  files : B'.files.length ≤ B.files.length + 4
  writes : B'.writes.length ≤ B.writes.length + 4
  names : B'.names.length ≤ B.names.length + 4
  lowF : ∀ x ∈ B'.files, x ∈ B.files ∨ x.n ≤ 258
  lowW : ∀ x ∈ B'.writes, x ∈ B.writes ∨ x.n ≤ P.V.L.length + 2
  lowN : ∀ x ∈ B'.names, x ∈ B.names ∨ x.n ≤ 8
  kept : Kept (fun k => S k ∨ U k) w w'
  newS : ∀ k, S' k → S k ∨ w.heap.size ≤ k
  newU : ∀ k, U' k → U k ∨ w.heap.size ≤ k
  apart : ∀ k, S' k → ¬ U' k
/-- What holds between two steps. -/
structure Playing (w w' : World) (i p q b : Nat) (P Q : PairR) (S R : Nat → Prop) (V : BookV) (B : BookR) (U : Nat → Prop) : Prop where
  one : PairAt w' p P S
  two : PairAt w' q Q R
  book : BookAt w' b V B U
  sr : ∀ k, S k → ¬ R k
  su : ∀ k, S k → ¬ U k
  ru : ∀ k, R k → ¬ U k
  s0 : ∀ k, S k → w.heap.size ≤ k
  r0 : ∀ k, R k → w.heap.size ≤ k
  u0 : ∀ k, U k → w.heap.size ≤ k
  below : Below w.heap.size w w'
  logP : P.V.L.length ≤ 20 + 100 * i
  logQ : Q.V.L.length ≤ 20 + 100 * i
  msP : P.ms.length ≤ 4 + 2 * i
  msQ : Q.ms.length ≤ 4 + 2 * i
  next : B.next ≤ 2 * i
  lf : B.files.length ≤ 4 * i
  lw : B.writes.length ≤ 4 * i
  ln : B.names.length ≤ 4 * i
  ef : ∀ x ∈ B.files, x.n ≤ 258
  ew : ∀ x ∈ B.writes, x.n ≤ 100 + 100 * i
  en : ∀ x ∈ B.names, x.n ≤ 8
section
variable {w w1 w2 : World} {i p q b : Nat} {P Q : PairR} {S R : Nat → Prop} {V : BookV} {B : BookR} {U : Nat → Prop}
theorem Playing.low (h : Playing w w1 i p q b P Q S R V B U) (hi : i ≤ 1048576) : BookLow B :=
  ⟨by have := h.ln; omega, by have := h.lf; omega, by have := h.lw; omega, fun x hx => by have := h.en x hx; omega, fun x hx => by have := h.ef x hx; omega, fun x hx => by have := h.ew x hx; omega⟩
theorem Playing.later (h : Playing w w1 i p q b P Q S R V B U) (hb : Below w1.heap.size w1 w2) : Playing w w2 i p q b P Q S R V B U :=
  { h with one := h.one.below hb, two := h.two.below hb, book := h.book.below hb, below := h.below.trans (hb.mono h.below.size) }
theorem Playing.on (h : Playing w w1 i p q b P Q S R V B U) : Playing w w1 (i + 1) p q b P Q S R V B U :=
  { h with
    logP := by have := h.logP; omega
    logQ := by have := h.logQ; omega
    msP := by have := h.msP; omega
    msQ := by have := h.msQ; omega
    next := by have := h.next; omega
    lf := by have := h.lf; omega
    lw := by have := h.lw; omega
    ln := by have := h.ln; omega
    ew := fun x hx => by have := h.ew x hx; omega }
theorem Playing.step {p' : Nat} {P' : PairR} {S' : Nat → Prop} {V' : BookV} {B' : BookR} {U' : Nat → Prop} (h : Playing w w1 i p q b P Q S R V B U) (hs : Stepping w1 w2 p' b P S B U P' S' V' B' U') : Playing w w2 (i + 1) p' q b P' Q S' R V' B' U' := by
  have hR : ∀ k, R k → ¬ (S k ∨ U k) := fun k hk hx => by
    rcases hx with x | x
    · exact h.sr k x hk
    · exact h.ru k hk x
  refine ⟨hs.at', h.two.kept hs.kept hR, hs.book, fun k hk hr => ?_, hs.apart, fun k hr hu => ?_, fun k hk => ?_, h.r0, fun k hk => ?_, ?_, ?_, ?_, ?_, ?_, ?_, ?_, ?_, ?_, fun x hx => ?_, fun x hx => ?_, fun x hx => ?_⟩
  · rcases hs.newS k hk with x | x
    · exact h.sr k x hr
    · have := h.two.lt k hr; omega
  · rcases hs.newU k hu with x | x
    · exact h.ru k hr x
    · have := h.two.lt k hr; omega
  · rcases hs.newS k hk with x | x
    · exact h.s0 k x
    · have := h.below.size; omega
  · rcases hs.newU k hk with x | x
    · exact h.u0 k x
    · have := h.below.size; omega
  · exact h.below.trans ⟨hs.kept.os, hs.kept.tape, hs.kept.output, hs.kept.size, fun k hk => hs.kept.block k (Nat.lt_of_lt_of_le hk h.below.size) (fun hx => by
      rcases hx with x | x
      · have := h.s0 k x; omega
      · have := h.u0 k x; omega)⟩
  · have := hs.log; have := h.logP; omega
  · have := h.logQ; omega
  · have := hs.marks; have := h.msP; omega
  · have := h.msQ; omega
  · have := hs.next; have := h.next; omega
  · have := hs.files; have := h.lf; omega
  · have := hs.writes; have := h.lw; omega
  · have := hs.names; have := h.ln; omega
  · rcases hs.lowF x hx with y | y
    · exact h.ef x y
    · exact y
  · rcases hs.lowW x hx with y | y
    · have := h.ew x y; omega
    · have := h.logP; omega
  · rcases hs.lowN x hx with y | y
    · exact h.en x y
    · exact y
end
end Go.Proofs.YtknjjjenklfeoaaGreatDoor

/- A reading of an argument stands in a world whose old blocks are unchanged, whichever spare places are asked for, so long as every block that the reading passes through is asked for. -/
namespace Go.Proofs.YtknjjjenklfeoaaGreatDoor.Row1
open Go.ChangeShapes Go.WideShapes Go.RowKit

/-- Every type that the program's table tells leads into that table, and no slice is of elements without cells. -/
def shutB (P : Program) (t : TypeId) : Bool :=
  match P.underlying t with
  | some (.slice e) => decide (0 < P.cellsOf e) && decide (e < P.types.size)
  | some (.pointer e) => decide (e < P.types.size)
  | some (.struct fs) => fs.toList.all fun f => decide (f.type < P.types.size)
  | some (.array _ e) => decide (e < P.types.size)
  | some (.map _ e) => decide (e < P.types.size)
  | _ => true
def Shut (P : Program) : Prop := ∀ t, t < P.types.size → shutB P t = true
theorem shut_of {P : Program} (h : ((List.range P.types.size).all (shutB P)) = true) : Shut P := fun t ht => List.all_eq_true.1 h t (List.mem_range.2 ht)
theorem shut : Shut Tryz.prog := shut_of (by kernel_rfl)

section
variable {H : Type} {enc : TypeId × Value → H} {P : Program} {w : World} {base : Nat} {sp : Nat → Bool}

theorem step_spare (hz : Shut P) {r r' : TypeId → List Value → Option (DataW H × List MemPlace)}
    (hr : ∀ t cs x, t < P.types.size → r t cs = some x → (∀ p ∈ x.2, sp p.block = true) → r' t cs = some x) {t : TypeId} {cs : List Value} {x : DataW H × List MemPlace} (hT : t < P.types.size)
    (h : DataW.trodStep enc P w base (fun _ => true) true r t cs = some x) (hs : ∀ p ∈ x.2, sp p.block = true) :
    DataW.trodStep enc P w base sp true r' t cs = some x := by
  have hz' := hz t hT
  unfold shutB at hz'
  unfold DataW.trodStep at h ⊢
  split at h
  case h_6 e a ht =>
    rw [ht] at hz'
    have hE : e < P.types.size := by simpa using hz'
    simp only [Option.map_eq_some_iff, Option.bind_eq_some_iff] at h ⊢
    obtain ⟨y, ⟨cs', hc, hy⟩, rfl⟩ := h
    exact ⟨y, ⟨cs', hc, hr _ _ _ hE hy (fun p hp => hs p (by simp [hp]))⟩, rfl⟩
  case h_8 e a len cap ht =>
    rw [ht] at hz'
    obtain ⟨he0, hE⟩ : 0 < P.cellsOf e ∧ e < P.types.size := by simpa using hz'
    simp only [if_true] at h ⊢
    split at h
    · rename_i hc
      rw [if_pos hc]
      simp only [Option.map_eq_some_iff, Option.bind_eq_some_iff] at h ⊢
      obtain ⟨elems, he, rest, hrest, rfl⟩ := h
      have hrl : rest.length = cap - len := by simpa using mapM_some_length hrest
      have one : ∀ (i : Nat) (y : DataW H × List MemPlace), y ∈ elems ++ rest →
          (w.cells? base (a.add (i * P.cellsOf e)) (P.cellsOf e)).bind (r e) = some y → (w.cells? base (a.add (i * P.cellsOf e)) (P.cellsOf e)).bind (r' e) = some y := by
        intro i y hy hv
        simp only [Option.bind_eq_some_iff] at hv ⊢
        obtain ⟨cs', hc', hy'⟩ := hv
        refine ⟨cs', hc', hr _ _ _ hE hy' (fun p hp => hs p ?_)⟩
        simp only [List.mem_append, List.mem_flatMap]
        exact Or.inr ⟨y, by simpa using hy, hp⟩
      refine ⟨elems, mapM_carry he (fun i y _ hy => one i y (by simp [hy])), rest, ?_, rfl⟩
      by_cases hcap : cap - len = 0
      · have hr0 : rest = [] := List.eq_nil_of_length_eq_zero (hrl.trans hcap)
        subst hr0
        simp [hcap]
      · have hb : sp a.block = true := by
          refine hs (.cell a.block (a.off + 0)) ?_
          refine List.mem_append.2 (Or.inl (MemPlace.mem_row.2 ⟨0, ?_, rfl⟩))
          exact Nat.mul_pos (by omega) he0
        rw [if_pos hb]
        exact mapM_carry hrest (fun j y _ hy => one (len + j) y (by simp [hy]))
    · cases h
  case h_9 _ fs ht =>
    rw [ht] at hz'
    have hE : ∀ f ∈ fs.toList, f.type < P.types.size := fun f hf => by simpa using List.all_eq_true.1 hz' f hf
    split at h
    · rename_i hc
      rw [if_pos hc]
      simp only [Option.map_eq_some_iff] at h ⊢
      obtain ⟨xs, hx, rfl⟩ := h
      exact ⟨xs, mapM_carry hx (fun f y hf hy hv => hr _ _ _ (hE f hf) hv (fun p hp => hs p (List.mem_flatMap.2 ⟨y, hy, hp⟩))), rfl⟩
    · cases h
  case h_10 _ _ e ht =>
    rw [ht] at hz'
    have hE : e < P.types.size := by simpa using hz'
    split at h
    · rename_i hc
      rw [if_pos hc]
      simp only [Option.map_eq_some_iff] at h ⊢
      obtain ⟨xs, hx, rfl⟩ := h
      exact ⟨xs, mapM_carry hx (fun f y _ hy hv => hr _ _ _ hE hv (fun p hp => hs p (List.mem_flatMap.2 ⟨y, hy, hp⟩))), rfl⟩
    · cases h
  case h_14 k e b ht =>
    rw [ht] at hz'
    have hE : e < P.types.size := by simpa using hz'
    split at h
    · rename_i es clock hb
      split at h
      · rename_i hc
        simp only [Option.bind_eq_some_iff] at h
        obtain ⟨entries, he, hd⟩ := h
        split at hd
        · rename_i hris
          have hx := Option.some.inj hd
          subst hx
          simp only [if_pos hc, Option.bind_eq_some_iff]
          refine ⟨entries, mapM_carry he (fun x y _ hy hv => ?_), by simp [hris]⟩
          simp only [Option.bind_eq_some_iff] at hv ⊢
          obtain ⟨key, hk, hz⟩ := hv
          refine ⟨key, hk, ?_⟩
          split at hz
          · rename_i hf
            rw [if_pos hf]
            simp only [Option.map_eq_some_iff] at hz ⊢
            obtain ⟨q, hq, rfl⟩ := hz
            exact ⟨q, hr _ _ _ hE hq (fun p hp => hs p (by simp only [List.mem_cons, List.mem_flatMap]; exact Or.inr ⟨_, hy, hp⟩)), rfl⟩
          · cases hz
        · cases hd
      · cases h
    · cases h
  all_goals first | exact h | cases h

theorem trod_spare (hz : Shut P) : ∀ (n : Nat) (t : TypeId) (cs : List Value) (x : DataW H × List MemPlace), t < P.types.size →
    DataW.trod enc P w base (fun _ => true) true n t cs = some x → (∀ p ∈ x.2, sp p.block = true) → DataW.trod enc P w base sp true n t cs = some x := by
  intro n
  induction n with
  | zero => intro t cs x _ h; simp [DataW.trod] at h
  | succ n ih =>
    intro t cs x hT h hs
    rw [DataW.trod_step] at h ⊢
    exact step_spare hz ih hT h hs

theorem trodAll_spare {w' : World} (hz : Shut P) (hB : Below w.heap.size w w') :
    ∀ {ts : List TypeId} {vs : List Value} {ds : List (DataW H)} {ps : List MemPlace}, (∀ t ∈ ts, t < P.types.size) → DataW.TrodAll enc P w base (fun _ => true) true ts vs ds ps →
      (∀ p ∈ ps, sp p.block = true) → DataW.TrodAll enc P w' base sp true ts vs ds ps
  | [], [], [], _, _, h, _ => h
  | _ :: _, _ :: _, _ :: _, _, hT, ⟨a, b, ⟨n, h1⟩, h2, e⟩, hs => by
    subst e
    refine ⟨a, b, ⟨n, ?_⟩, trodAll_spare hz hB (fun t ht => hT t (List.mem_cons_of_mem _ ht)) h2 (fun p hp => hs p (List.mem_append_right _ hp)), rfl⟩
    have h3 := trod_spare (sp := sp) hz n _ _ _ (hT _ List.mem_cons_self) h1 (fun p hp => hs p (List.mem_append_left _ hp))
    exact DataW.trod_carry n _ _ _ h3 (fun p hp => hB.same (DataW.trod_lt n _ _ _ h3 p hp))
end
end Go.Proofs.YtknjjjenklfeoaaGreatDoor.Row1

/- A script that the reading of an argument has passed through lies in memory as SRow says, and it is short where the reading is small. -/
namespace Go.Proofs.YtknjjjenklfeoaaGreatDoor
open Go.RowKit Go.ChangeShapes Go.WideShapes Go.Deep

section
variable {H : Type} {enc : TypeId × Value → H} {w : World} {sp : Nat → Bool}

theorem six {α : Type} {l : List α} (h : l.length = 6) : ∃ a b c d e f, l = [a, b, c, d, e, f] := by
  match l, h with
  | [a, b, c, d, e, f], _ => exact ⟨a, b, c, d, e, f, rfl⟩
theorem one_string : Tryz.prog.cellsOf 9 = 1 := by kernel_rfl
end
end Go.Proofs.YtknjjjenklfeoaaGreatDoor

/- What the row of vellumlaw's Any asks of its call: true, and the files read as they did. -/
namespace Go.Proofs.YtknjjjenklfeoaaGreatDoor
open Go.RowKit Go.ChangeShapes Go.WideShapes Go.Deep
section
variable {H : Type} {enc : TypeId × Value → H} {w : World}
theorem spot_none {a : Addr} {x : Value} (h : w.cell? (a.add 0) = some x) : a.spot = none := by
  have := World.cell?_spot h
  unfold Addr.add at this
  rw [if_pos rfl] at this
  exact this
theorem cell_at {g o i : Nat} {x : Value} (h : w.cell? (Addr.add ⟨g, o, none⟩ i) = some x) : w.cell? ⟨g, o + i, none⟩ = some x := by
  rw [Addr.add_mid] at h
  exact h
theorem cell_lt {a : Addr} {x : Value} (h : w.cell? a = some x) : a.block < w.heap.size := by
  rcases Nat.lt_or_ge a.block w.heap.size with y | y
  · exact y
  · unfold World.cell? at h
    rw [Array.getElem?_eq_none y] at h
    cases h
/-- TEXTS, OPENED. -/
theorem open_strs {fuel : Nat} {a : Option Addr} {len cap : Nat} {sp : Nat → Bool} {x : DataW H × List MemPlace} (h : DataW.trod enc Tryz.prog w 0 sp true fuel 34 [.slice a len cap] = some x) :
    ∃ ss : Nat → ByteArray, StrRow w a len ss ∧ len ≤ maxLen := by
  rcases open_slice1 Tryz.underlying34 one_string h with ⟨hc, rfl⟩ | ⟨b, len', cap', m, n, V, D, Pl, hc, _, hl, hm, hmm, rfl, hel⟩
  · obtain ⟨rfl, rfl, rfl⟩ : a = none ∧ len = 0 ∧ cap = 0 := by simpa using hc
    exact ⟨fun _ => .empty, ⟨fun h0 => by omega, fun i hi => by omega⟩, Nat.zero_le _⟩
  · obtain ⟨rfl, rfl, rfl⟩ : a = some b ∧ len = len' ∧ cap = cap' := by simpa using hc
    have hlm : len ≤ m := by rw [hmm]; split <;> omega
    have each : ∀ i, i < len → ∃ s : ByteArray, w.cell? (b.add i) = some (.string s) ∧ s.size ≤ maxLen := by
      intro i hi
      obtain ⟨h1, h2⟩ := hel i (by omega)
      obtain ⟨s, hs, _, hsl⟩ := DataW.trod_string (by kernel_rfl) h2
      obtain hs' : V i = .string s := by simpa using hs
      exact ⟨s, by rw [h1, hs'], hsl⟩
    have : Inhabited ByteArray := ⟨.empty⟩
    obtain ⟨ss, hss⟩ := choose_lt each
    obtain ⟨g, o, spot⟩ := b
    refine ⟨ss, ⟨fun h0 => ?_, fun i hi => (hss i hi).2⟩, by omega⟩
    have hsp : spot = none := spot_none (hss 0 h0).1
    subst hsp
    refine ⟨g, o, rfl, ?_, fun i hi => cell_at (hss i hi).1⟩
    have := cell_lt (hss 0 h0).1
    rw [Addr.add_mid] at this
    exact this
theorem one_strs : Tryz.prog.cellsOf 34 = 1 := by kernel_rfl
/-- FILES AS TEXTS, OPENED. -/
theorem open_files {fuel : Nat} {a : Option Addr} {len cap : Nat} {sp : Nat → Bool} {x : DataW H × List MemPlace} (h : DataW.trod enc Tryz.prog w 0 sp true fuel 25 [.slice a len cap] = some x) :
    ∃ av ns caps ss, FilesRow w a len av ns caps ss ∧ len ≤ maxLen := by
  rcases open_slice1 Tryz.underlying25 one_strs h with ⟨hc, rfl⟩ | ⟨b, len', cap', m, n, V, D, Pl, hc, _, hl, hm, hmm, rfl, hel⟩
  · obtain ⟨rfl, rfl, rfl⟩ : a = none ∧ len = 0 ∧ cap = 0 := by simpa using hc
    exact ⟨fun _ => none, fun _ => 0, fun _ => 0, fun _ _ => .empty, ⟨fun h0 => by omega, fun i hi => by omega⟩, Nat.zero_le _⟩
  · obtain ⟨rfl, rfl, rfl⟩ : a = some b ∧ len = len' ∧ cap = cap' := by simpa using hc
    have hlm : len ≤ m := by rw [hmm]; split <;> omega
    have each : ∀ i, i < len → ∃ q : (Option Addr × Nat × Nat) × (Nat → ByteArray), w.cell? (b.add i) = some (.slice q.1.1 q.1.2.1 q.1.2.2) ∧ StrRow w q.1.1 q.1.2.1 q.2 ∧ q.1.2.1 ≤ maxLen := by
      intro i hi
      obtain ⟨h1, h2⟩ := hel i (by omega)
      have hv : ∃ a' l' c', V i = .slice a' l' c' := by
        rcases open_slice Tryz.underlying34 h2 with ⟨hc, _⟩ | ⟨a', l', c', _, _, _, _, hc, _⟩
        · exact ⟨none, 0, 0, by simpa using hc⟩
        · exact ⟨some a', l', c', by simpa using hc⟩
      obtain ⟨a', l', c', hv⟩ := hv
      rw [hv] at h1 h2
      obtain ⟨ss, h3, h4⟩ := open_strs h2
      exact ⟨((a', l', c'), ss), h1, h3, h4⟩
    have : Inhabited ((Option Addr × Nat × Nat) × (Nat → ByteArray)) := ⟨((none, 0, 0), fun _ => .empty)⟩
    obtain ⟨q, hq⟩ := choose_lt each
    obtain ⟨g, o, spot⟩ := b
    refine ⟨fun i => (q i).1.1, fun i => (q i).1.2.1, fun i => (q i).1.2.2, fun i => (q i).2, ⟨fun h0 => ?_, fun i hi => (hq i hi).2⟩, by omega⟩
    have hsp : spot = none := spot_none (hq 0 h0).1
    subst hsp
    refine ⟨g, o, rfl, ?_, fun i hi => cell_at (hq i hi).1⟩
    have := cell_lt (hq 0 h0).1
    rw [Addr.add_mid] at this
    exact this
end
namespace Any
theorem typesB : ((Tryz.f6.params.toList).all fun t => decide (t < Tryz.prog.types.size)) = true := by kernel_rfl
set_option maxRecDepth 100000 in
theorem contract (H : Type) (enc : TypeId × Value → H) (W : World) (base : Nat) (args : Array Value) (ds gs : List (DataW H)) (before : List MemPlace)
    (hval : ∀ (j : Nat) t v, Tryz.f6.params[j]? = some t → args[j]? = some v → Value.okWide Tryz.prog W .any base t v)
    (hW : DataW.Whole enc Tryz.prog Tryz.f6.params.toList Rows.anySpec.vars false W args.toList ds gs before)
    (hG : Glob W) :
    Calls Tryz.prog 6 args W fun e W' => ∃ v, e = .returned v ∧ Rows.anySpec.post enc Tryz.prog Tryz.f6 false true false false W args v W' := by
  have hW' := hW
  obtain ⟨p, q, hA0, hV, rfl, hfz, hnd⟩ := hW
  have hA1 : DataW.TrodAll enc Tryz.prog W 0 (fun _ => true) true Tryz.f6.params.toList args.toList ds p := hA0
  have hA := hA1
  rw [Tryz.params6] at hA hval
  obtain ⟨v0, d0, rfl, rfl, h0⟩ := trodAll_one hA
  obtain ⟨rfl, rfl⟩ := trodVars_none hV
  obtain ⟨a, len, cap, rfl⟩ := okWide_slice Tryz.underlying25 (hval 0 25 v0 rfl rfl)
  obtain ⟨fuel, hf⟩ := h0
  obtain ⟨av, ns, caps, ss, hs, hlen⟩ := open_files hf
  simp only [List.append_nil] at hW'
  refine (lawAny_any W a len cap av ns caps ss hs hlen hG).mono fun e W' ⟨he, hB⟩ => ?_
  subst he
  have hT : ∀ t ∈ Tryz.f6.params.toList, t < Tryz.prog.types.size := fun t ht => of_decide_eq_true (List.all_eq_true.1 typesB t ht)
  have hold : ∀ x ∈ p, (fun b => decide (b < W.heap.size)) x.block = true := fun x hx => by simpa using hW'.lt x (by simpa using hx)
  refine ⟨_, rfl, [d0], [], p, [], p, [], hW', ?_, ?_, rfl, World.keptBut_mono (fun x hx => ⟨hx, Or.inr (Or.inl hx)⟩) (hB.frame _), fun h => by cases h⟩
  · exact trodAll_cons_mk (shut_bool (by kernel_rfl) _) trodAll_mk0
  · exact Row1.trodAll_spare Row1.shut hB hT hA1 hold
end Any
end Go.Proofs.YtknjjjenklfeoaaGreatDoor

/- A world that holds the package-level variables as the program's text lays them: the witness of every row of this seat. -/
namespace Go.Proofs.YtknjjjenklfeoaaGreatDoor.Wit
open Go.RowKit

theorem own : ownKnob Tryz.prog.godebug = none := by kernel_rfl
def low (P : Program) : Nat := (World.holding P default ⟨#[], #[], []⟩).heap.size
/-- The text of an error of the rows' list. -/
def textOf : DataW Unit → List UInt8
  | .iface _ (.ptr (.agg [.lit (.string s)])) => s
  | _ => []
def cellOf (d : DataW Unit) : Obj := .cells #[.string ⟨(textOf d).toArray⟩] 287
def lay (h : Array Obj) (g : Nat) (v : Value) : Array Obj := h.modify g fun
  | .cells _ t frozen => .cells #[v] t frozen
  | o => o
def err (P : Program) (k : Nat) : Value := .iface 267 (.pointer (some ⟨low P + k, 0, none⟩))
def laidWorld (P : Program) (os : Os) : World :=
  let w0 := World.holding P os ⟨#[cellOf Rows.laid_vellum_volume_errLength, cellOf Rows.laid_vellum_volume_errHead, cellOf Rows.laid_vellum_volume_errList, cellOf Rows.laid_vellum_volume_errCount, cellOf Rows.laid_vellum_volume_errMark, cellOf Rows.laid_vellum_volume_errNowhere, cellOf Rows.laid_vellum_volume_errTwice, cellOf Rows.laid_vellum_volume_errBehind], #[], []⟩
  let h0 := lay w0.heap 0 (err P 0)
  let h1 := lay h0 1 (err P 1)
  let h2 := lay h1 2 (err P 2)
  let h3 := lay h2 3 (err P 3)
  let h4 := lay h3 4 (err P 4)
  let h5 := lay h4 5 (.iface 246 (.agg #[.pointer (some ⟨10, 98, none⟩)]))
  let h6 := lay h5 6 (err P 5)
  let h7 := lay h6 7 (err P 6)
  let h8 := lay h7 8 (err P 7)
  { w0 with heap := h8 }
theorem laid_met (os : Os) (args : Array Value) : laidMetH Tryz.prog Rows.blocksUptoRow.laid ((laidWorld Tryz.prog os).forCall (fun _ _ => 0) ⟨#[], args, []⟩).memory :=
  laidMetH_of_parts (laidMet_of_run' 8 (by kernel_rfl) (by kernel_rfl)) (by kernel_rfl)
theorem refs (os : Os) (args : Array Value) : ((laidWorld Tryz.prog os).forCall (fun _ _ => 0) ⟨#[], args, []⟩).variablesRefB Tryz.prog = true := by kernel_rfl
theorem rows (os : Os) (args : Array Value) : (((laidWorld Tryz.prog os).forCall (fun _ _ => 0) ⟨#[], args, []⟩).heap.toList.drop Tryz.prog.globals.size).take ((begin Tryz.prog (fun _ _ => 0) default).world.heap.size - Tryz.prog.globals.size) =
      (begin Tryz.prog (fun _ _ => 0) default).world.heap.toList.drop Tryz.prog.globals.size := by kernel_rfl
end Go.Proofs.YtknjjjenklfeoaaGreatDoor.Wit

/- PROVED HERE: the tied card of vellumlaw.Any (AnyCardSaid): whatever the files, Any returns true, and they read behind the call as they read before. -/
namespace Go.Proofs.YtknjjjenklfeoaaGreatDoor.Any
open Go.ChangeShapes Go.WideShapes Go.ChangeAt Go.RowKit

theorem reads (os : Os) {H : Type} (enc : TypeId × Value → H) :
    DataW.whole enc Tryz.prog ((Wit.laidWorld Tryz.prog os).forCall (fun _ _ => 0) ⟨#[], #[.slice none 0 0], []⟩).memory Tryz.f6.params.toList Rows.anySpec.vars false #[Value.slice none 0 0].toList 8 = some ([.nil], [], []) := by kernel_rfl

set_option maxRecDepth 100000 in
theorem lifted (os : Os) (started : os.Started) (H : Type) (enc : TypeId × Value → H) (F : Stop.Interp) :
    ReturnsInHanded {} Tryz.checked os 6 .any ((OpenSpec.ofChange Rows.anySpec).preRow enc Tryz.prog Tryz.f6 Rows.anyRow.domain false Rows.anyRow.laid) (((OpenSpec.ofChange Rows.anySpec).at F).post enc Tryz.prog Tryz.f6 false true false false) := by
  refine returnsInHanded_of_row (C := Tryz.checked) (s := OpenSpec.ofChange Rows.anySpec) Wit.own started (by kernel_rfl) Tryz.func6
    (witness_row_atRef (enc := enc) (C := Tryz.checked) false (Wit.laidWorld Tryz.prog os) #[.slice none 0 0] rfl (Wit.refs os _) (Wit.rows os _) (by kernel_rfl)
      (OpenSpec.preRow_of_cond 8 (reads os enc) (by kernel_rfl) (fun k hk => by cases hk) (by kernel_rfl) (Wit.laid_met os _))) ?_
  intro W base args ds gs before hval hW _ _ _ hlaid _ _
  exact contract H enc W base args ds gs before hval hW (glob_of_laid hlaid)

theorem said : Rows.AnySaid :=
  OpenClaim.holds_of_cond 6 Tryz.f6 rfl rfl rfl rfl rfl rfl rfl ⟨rfl, rfl, rfl, rfl, rfl⟩ rfl rfl rfl rfl rfl (by kernel_rfl) Tryz.func6 (by kernel_rfl)
    (of_decide_eq_true (by kernel_rfl)) (by unfold Func.isWrapper; first | (rw [if_pos (by decide +kernel)]; kernel_rfl) | (rw [if_neg (by decide +kernel)]; exact ⟨rfl, rfl⟩))
    (fun os started H enc _ F => by rw [OpenClaim.pre_eq_preRow]; exact lifted os started H enc F)

theorem plain (f : FuncId) (fn : Func) (hf : Tryz.pinned.checked.prog.funcNamed Rows.anyRow.func = some f) (hfn : Tryz.pinned.checked.prog.funcs[f]? = some fn) :
    true = Tryz.pinned.checked.prog.looks [] ∧ ∀ (j : Nat) t, fn.params[j]? = some t → Tryz.pinned.checked.prog.wantsStandIn t = false := by
  obtain rfl : f = 6 := Option.some.inj ((show Tryz.prog.funcNamed Rows.anyRow.func = some 6 by kernel_rfl).symm.trans hf) |>.symm
  obtain rfl : fn = Tryz.f6 := (Option.some.inj (Tryz.func6.symm.trans hfn)).symm
  refine ⟨by kernel_rfl, fun j t ht => ?_⟩
  rw [Tryz.params6] at ht
  obtain rfl : t = 25 := by simpa using Array.mem_of_getElem? ht
  exact (show Tryz.prog.wantsStandIn 25 = false by kernel_rfl)

theorem card : Rows.AnyCardSaid :=
  Claim7.holds_tied_plain_at .later [] _ _ _ _ said (fun _ h => by cases h) (by kernel_rfl) (fun _ h => by cases h) any_row_tie rfl ⟨rfl, rfl⟩ (by kernel_rfl) rfl plain (by kernel_rfl)
end Go.Proofs.YtknjjjenklfeoaaGreatDoor.Any
namespace Go.Proofs.YtknjjjenklfeoaaGreatDoor
theorem any_card : Rows.AnyCardSaid := Any.card
end Go.Proofs.YtknjjjenklfeoaaGreatDoor
