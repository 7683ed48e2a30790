import Derived.Test.YtknjjjenklfeoaaGreatDoorP09
import Derived.Test.YtknjjjenklfeoaaGreatDoorP43
import Derived.Test.YtknjjjenklfeoaaGreatDoorP16
import Derived.Test.YtknjjjenklfeoaaGreatDoorP14
import Derived.Test.YtknjjjenklfeoaaGreatDoorP34
import Derived.Test.YtknjjjenklfeoaaGreatDoorP45
/-
  vellumlaw's book: names.
-/
namespace Go.Proofs.YtknjjjenklfeoaaGreatDoor
open Go.RowKit
theorem Tryz.infoSlS : (Tryz.prog.info? 34).map (fun i => (i.zero, i.size, i.bytes)) = some (some (.slice none 0 0), 1, 24) := by kernel_rfl
/-- A row that is none of the book's own rows of names stays. -/
theorem keep_rowN {w W : World} {b : Nat} {V : BookV} {B : BookR} {S : Nat → Prop} (h : BookAt w b V B S) (hk : Kept (fun k => k = b ∨ V.n.ownBlock = some k ∨ V.nm.ownBlock = some k) w W) {base : Nat} {e : TypeId} {size : Nat} {v : Value} {n : Nat} {xs : List Value}
    (hr : w.ownsRow base e size v n xs) (h1 : e ≠ 77) (h2 : e ≠ 34) (h3 : ∀ g, v.ownBlock = some g → V.nm.ownBlock ≠ some g) : W.ownsRow base e size v n xs :=
  ownsRow_kept hk hr fun g hg x => by
    rcases x with x | x | x
    · exact row_ne hr h.blk h1 g hg x
    · exact rows_ne hr h.rN h2 g hg x
    · exact h3 g hg x
theorem more_of4 {α : Type} {l : List α} {a b c d x : α} {f : α → Nat} {n : Nat} (hx : x ∈ l ++ [a, b, c, d]) (ha : f a ≤ n) (hb : f b ≤ n) (hc : f c ≤ n) (hd : f d ≤ n) : x ∈ l ∨ f x ≤ n := by
  rcases List.mem_append.1 hx with y | y
  · exact Or.inl y
  · simp only [List.mem_cons, List.not_mem_nil, or_false] at y
    rcases y with rfl | rfl | rfl | rfl
    · exact Or.inr ha
    · exact Or.inr hb
    · exact Or.inr hc
    · exact Or.inr hd
abbrev reps (N : Nat) (s : ByteArray) : List Value := List.replicate N (.string s)
theorem ownsNames_end {w w6 w7 w8 : World} {b : Nat} {V : BookV} {B : BookR} {S : Nat → Prop} {lv one two three : Value} {N g7 cap7 g8 cap8 : Nat} {m : ByteArray} {X7 X8 : Obj} (hS : ∀ k, S k → k < w.heap.size) (hne : ∀ g, lv.ownBlock = some g → ¬ S g)
    (h : BookAt w6 b V B S) (hl : w6.ownsRow 0 9 1 lv N (reps N m)) (h1 : w6.ownsRow 0 9 1 one (N + 1) (reps (N + 1) m)) (h2 : w6.ownsRow 0 9 1 two (N + 2) (reps (N + 2) m)) (h3 : w6.ownsRow 0 9 1 three (N + 3) (reps (N + 3) m))
    (o1 : ∀ g, one.ownBlock = some g → lv.ownBlock = some g ∨ w.heap.size ≤ g) (o2 : ∀ g, two.ownBlock = some g → lv.ownBlock = some g ∨ w.heap.size ≤ g) (o3 : ∀ g, three.ownBlock = some g → lv.ownBlock = some g ∨ w.heap.size ≤ g)
    (hK : Kept (fun k => S k ∨ lv.ownBlock = some k) w w6)
    (hg7 : (w6.alloc X7).grownBy w7 V.n.ownBlock) (r7 : w7.ownsRow 0 34 1 (.slice (some ⟨g7, 0, none⟩) (B.names.length + 4) cap7) (B.names.length + 4) (B.names.map (·.v) ++ [lv, one, two, three])) (a7 : V.n.ownBlock = some g7 ∨ g7 = w6.heap.size + 1)
    (hg8 : ((w7.setCell ⟨b, 0, none⟩ (.slice (some ⟨g7, 0, none⟩) (B.names.length + 4) cap7)).alloc X8).grownBy w8 V.nm.ownBlock)
    (r8 : w8.ownsRow 0 9 1 (.slice (some ⟨g8, 0, none⟩) (B.names.length + 4) cap8) (B.names.length + 4) ((B.names.map fun x => .string x.s) ++ [.string m, .string m, .string m, .string m])) (a8 : V.nm.ownBlock = some g8 ∨ g8 = w7.heap.size + 1)
    (b8 : w8.heap[b]? = some (.cells (bookCells { V with n := .slice (some ⟨g7, 0, none⟩) (B.names.length + 4) cap7 } B.next).toArray 77 (0, 0))) :
    ∃ V' B' S', BookAt (w8.setCell ⟨b, 1, none⟩ (.slice (some ⟨g8, 0, none⟩) (B.names.length + 4) cap8)) b V' B' S' ∧ B'.next = B.next ∧ B'.names.length = B.names.length + 4 ∧ B'.writes = B.writes ∧ B'.files = B.files ∧ (∀ x ∈ B'.names, x ∈ B.names ∨ x.n ≤ N + 3) ∧
      Kept (fun k => S k ∨ lv.ownBlock = some k) w (w8.setCell ⟨b, 1, none⟩ (.slice (some ⟨g8, 0, none⟩) (B.names.length + 4) cap8)) ∧ (∀ k, S' k → S k ∨ lv.ownBlock = some k ∨ w.heap.size ≤ k) := by
  have KA : Kept (fun k => k = b ∨ V.n.ownBlock = some k ∨ V.nm.ownBlock = some k) w6 (w7.setCell ⟨b, 0, none⟩ (.slice (some ⟨g7, 0, none⟩) (B.names.length + 4) cap7)) :=
    Kept.setCell (S := fun k => k = b ∨ V.n.ownBlock = some k ∨ V.nm.ownBlock = some k) (((Kept.refl _ _).alloc X7).grown hg7 (fun g hg => Or.inl (Or.inr (Or.inl hg)))) (p := ⟨b, 0, none⟩) (Or.inl (Or.inl rfl)) _
  have KB : Kept (fun k => k = b ∨ V.n.ownBlock = some k ∨ V.nm.ownBlock = some k) (w7.setCell ⟨b, 0, none⟩ (.slice (some ⟨g7, 0, none⟩) (B.names.length + 4) cap7)) (w8.setCell ⟨b, 1, none⟩ (.slice (some ⟨g8, 0, none⟩) (B.names.length + 4) cap8)) :=
    Kept.setCell (S := fun k => k = b ∨ V.n.ownBlock = some k ∨ V.nm.ownBlock = some k) (((Kept.refl _ _).alloc X8).grown hg8 (fun g hg => Or.inl (Or.inr (Or.inr hg)))) (p := ⟨b, 1, none⟩) (Or.inl (Or.inl rfl)) _
  have KAB := KA.trans KB
  have hb7 : w7.heap[b]? = some (.cells (bookCells V B.next).toArray 77 (0, 0)) := grown_blk hg7 ((Below.heap_alloc _ _ _ h.lt').trans h.blk) (row_ne h.rN h.blk (by decide))
  have s1 := hK.size
  have s2 := KA.size
  have s3 := KB.size
  have s7 := size_setCell w7 ⟨b, 0, none⟩ (.slice (some ⟨g7, 0, none⟩) (B.names.length + 4) cap7)
  have nmS : ∀ g, V.nm.ownBlock = some g → S g := fun g hg => h.inV g (Or.inr (Or.inl hg))
  have farl : ∀ g, lv.ownBlock = some g → V.nm.ownBlock ≠ some g := fun g hg x => hne g hg (nmS g x)
  have far : ∀ {v : Value}, (∀ g, v.ownBlock = some g → lv.ownBlock = some g ∨ w.heap.size ≤ g) → ∀ g, v.ownBlock = some g → V.nm.ownBlock ≠ some g := fun o g hg x => by
    rcases o g hg with z | z
    · exact farl g z x
    · have := hS g (nmS g x); omega
  have hfm7 : (w7.setCell ⟨b, 0, none⟩ (.slice (some ⟨g7, 0, none⟩) (B.names.length + 4) cap7)).ownsRow 0 9 1 V.nm B.names.length (B.names.map fun x => .string x.s) :=
    ownsRow_kept (Kept.only w7 b 0 _) (grown_row hg7 (h.rNm.alloc X7) (rows_ne h.rNm h.rN (by decide))) (row_ne h.rNm h.blk (by decide))
  have r7' : (w7.setCell ⟨b, 0, none⟩ (.slice (some ⟨g7, 0, none⟩) (B.names.length + 4) cap7)).ownsRow 0 34 1 (.slice (some ⟨g7, 0, none⟩) (B.names.length + 4) cap7) (B.names.length + 4) (B.names.map (·.v) ++ [lv, one, two, three]) :=
    ownsRow_kept (Kept.only w7 b 0 _) r7 (row_ne r7 hb7 (by decide))
  have r7'' : w8.ownsRow 0 34 1 (.slice (some ⟨g7, 0, none⟩) (B.names.length + 4) cap7) (B.names.length + 4) (B.names.map (·.v) ++ [lv, one, two, three]) :=
    grown_row hg8 (r7'.alloc X8) (rows_ne r7' hfm7 (by decide))
  have newer : ∀ {v : Value} {n : Nat} {xs : List Value}, w6.ownsRow 0 9 1 v n xs → (∀ g, v.ownBlock = some g → V.nm.ownBlock ≠ some g) → ∀ g, v.ownBlock = some g → (Value.slice (some ⟨g8, 0, none⟩) (B.names.length + 4) cap8).ownBlock ≠ some g := fun hr ha g hg x => by
    simp only [Value.ownBlock, Option.some.injEq] at x
    rcases a8 with y | y
    · exact ha g hg (by rw [← x]; exact y)
    · have := (hr.lt g hg).2; omega
  refine ⟨{ V with n := .slice (some ⟨g7, 0, none⟩) (B.names.length + 4) cap7, nm := .slice (some ⟨g8, 0, none⟩) (B.names.length + 4) cap8 }, { B with names := B.names ++ [⟨lv, N, m⟩, ⟨one, N + 1, m⟩, ⟨two, N + 2, m⟩, ⟨three, N + 3, m⟩] },
    fun k => S k ∨ lv.ownBlock = some k ∨ (w.heap.size ≤ k ∧ k < (w8.setCell ⟨b, 1, none⟩ (.slice (some ⟨g8, 0, none⟩) (B.names.length + 4) cap8)).heap.size), ?_, rfl, by simp, rfl, rfl, fun x hx => more_of4 (f := NEnt.n) hx (by simp) (by simp) (by simp) (by simp), ?_, fun k hk => by rcases hk with x | x | x; exact Or.inl x; exact Or.inr (Or.inl x); exact Or.inr (Or.inr x.1)⟩
  · exact {
      blk := by rw [heap_setCell_same _ _ _ _ _ _ _ b8]; rfl
      rN := by
        have := ownsRow_kept (Kept.only w8 b 1 (.slice (some ⟨g8, 0, none⟩) (B.names.length + 4) cap8)) r7'' (row_ne r7'' b8 (by decide))
        simpa using this
      rNm := by
        have := ownsRow_kept (Kept.only w8 b 1 (.slice (some ⟨g8, 0, none⟩) (B.names.length + 4) cap8)) r8 (row_ne r8 b8 (by decide))
        simpa using this
      rF := keep_rowN h KAB h.rF (by decide) (by decide) (rows_ne h.rF h.rNm (by decide))
      rFm := keep_rowN h KAB h.rFm (by decide) (by decide) (rows_ne h.rFm h.rNm (by decide))
      rW := keep_rowN h KAB h.rW (by decide) (by decide) (rows_ne h.rW h.rNm (by decide))
      rWm := keep_rowN h KAB h.rWm (by decide) (by decide) (rows_ne h.rWm h.rNm (by decide))
      eN := fun x hx => by
        rcases List.mem_append.1 hx with y | y
        · exact keep_rowN h KAB (h.eN x y) (by decide) (by decide) (h.apart x y)
        · simp only [List.mem_cons, List.not_mem_nil, or_false] at y
          rcases y with rfl | rfl | rfl | rfl
          · exact keep_rowN h KAB hl (by decide) (by decide) farl
          · exact keep_rowN h KAB h1 (by decide) (by decide) (far o1)
          · exact keep_rowN h KAB h2 (by decide) (by decide) (far o2)
          · exact keep_rowN h KAB h3 (by decide) (by decide) (far o3)
      eF := fun x hx => keep_rowN h KAB (h.eF x hx) (by decide) (by decide) (rows_ne (h.eF x hx) h.rNm (by decide))
      eW := fun x hx => keep_rowN h KAB (h.eW x hx) (by decide) (by decide) (rows_ne (h.eW x hx) h.rNm (by decide))
      apart := fun x hx => by
        rcases List.mem_append.1 hx with y | y
        · exact newer (h.eN x y) (h.apart x y)
        · simp only [List.mem_cons, List.not_mem_nil, or_false] at y
          rcases y with rfl | rfl | rfl | rfl
          · exact newer hl farl
          · exact newer h1 (far o1)
          · exact newer h2 (far o2)
          · exact newer h3 (far o3)
      inB := Or.inl h.inB
      inV := fun g hg => by
        have q8 := (r8.lt g8 rfl).2
        have q7 := (r7''.lt g7 rfl).2
        rcases hg with x | x | x | x | x | x
        · simp only [Value.ownBlock, Option.some.injEq] at x
          subst x
          rcases a7 with y | y
          · exact Or.inl (h.inV _ (Or.inl y))
          · exact Or.inr (Or.inr ⟨by omega, by rw [size_setCell]; exact q7⟩)
        · simp only [Value.ownBlock, Option.some.injEq] at x
          subst x
          rcases a8 with y | y
          · exact Or.inl (h.inV _ (Or.inr (Or.inl y)))
          · exact Or.inr (Or.inr ⟨by omega, by rw [size_setCell]; exact q8⟩)
        · exact Or.inl (h.inV g (Or.inr (Or.inr (Or.inl x))))
        · exact Or.inl (h.inV g (Or.inr (Or.inr (Or.inr (Or.inl x)))))
        · exact Or.inl (h.inV g (Or.inr (Or.inr (Or.inr (Or.inr (Or.inl x))))))
        · exact Or.inl (h.inV g (Or.inr (Or.inr (Or.inr (Or.inr (Or.inr x))))))
      inF := fun x hx g hg => Or.inl (h.inF x hx g hg)
      inN := fun x hx g hg => by
        rcases List.mem_append.1 hx with y | y
        · exact Or.inl (h.inN x y g hg)
        · simp only [List.mem_cons, List.not_mem_nil, or_false] at y
          rcases y with rfl | rfl | rfl | rfl
          · exact Or.inr (Or.inl hg)
          · rcases o1 g hg with z | z
            · exact Or.inr (Or.inl z)
            · exact Or.inr (Or.inr ⟨z, by have := (h1.lt g hg).2; omega⟩)
          · rcases o2 g hg with z | z
            · exact Or.inr (Or.inl z)
            · exact Or.inr (Or.inr ⟨z, by have := (h2.lt g hg).2; omega⟩)
          · rcases o3 g hg with z | z
            · exact Or.inr (Or.inl z)
            · exact Or.inr (Or.inr ⟨z, by have := (h3.lt g hg).2; omega⟩)
      inW := fun x hx g hg => Or.inl (h.inW x hx g hg)
      lt := fun k hk => by
        rcases hk with x | x | x
        · have := h.lt k x; omega
        · have := (hl.lt k x).2; omega
        · exact x.2 }
  · refine hK.trans (KAB.mono fun k hk => ?_)
    rcases hk with rfl | x | x
    · exact Or.inl h.inB
    · exact Or.inl (h.inV k (Or.inl x))
    · exact Or.inl (h.inV k (Or.inr (Or.inl x)))
end Go.Proofs.YtknjjjenklfeoaaGreatDoor

/-
  vellumlaw's book: ownsNames.
-/
namespace Go.Proofs.YtknjjjenklfeoaaGreatDoor
open Go.RowKit
def nameTo (xs : List Value) (m : ByteArray) (k : Nat) : List Value := reps k m ++ xs.drop k
theorem nameTo_length (xs : List Value) (m : ByteArray) (k : Nat) (h : k ≤ xs.length) : (nameTo xs m k).length = xs.length := by simp [nameTo]; omega
theorem nameTo_succ (xs : List Value) (m : ByteArray) (k : Nat) (h : k < xs.length) : (nameTo xs m k).set k (.string m) = nameTo xs m (k + 1) := by
  unfold nameTo reps
  rw [List.set_append_right _ _ (by simp), List.length_replicate, Nat.sub_self, List.drop_eq_getElem_cons h, List.set_cons_zero, List.replicate_succ', List.append_assoc]
  rfl

theorem row_put1 {w : World} {base g cap n : Nat} {e : TypeId} {xs : List Value} (h : w.ownsRow base e 1 (.slice (some ⟨g, 0, none⟩) n cap) n xs) (k : Nat) (hk : k < n) (v : Value) :
    (w.cell? ⟨g, k, none⟩).isSome = true ∧ w.frozen? ⟨g, k, none⟩ = false ∧ (w.setCell ⟨g, k, none⟩ v).ownsRow base e 1 (.slice (some ⟨g, 0, none⟩) n cap) n (xs.set k v) := by
  obtain ⟨h1, h2⟩ := h
  rcases h2 with ⟨e0, _⟩ | ⟨g', cap', cur, e0, hb, hh, hn, hm, hs, ht⟩
  · cases e0
  · injection e0 with e1 _ e3
    injection e1 with e1
    injection e1 with e1 _ _
    subst e1
    subst e3
    refine ⟨?_, frozen_blk hh k, by rw [List.length_set]; exact h1, Or.inr ⟨g, cap, cur.setIfInBounds k v, rfl, hb, heap_setCell_same _ _ _ _ _ _ _ hh, hn, hm, by rw [Array.size_setIfInBounds]; exact hs, ?_⟩⟩
    · rw [cell_blk hh, Array.getElem?_eq_getElem (by omega)]; rfl
    · rw [Array.toList_setIfInBounds, Nat.mul_one, ← ht, Nat.mul_one, List.take_set]
theorem ext_still {w w6 : World} {g3 cap3 g6 cap6 N a j H H0 : Nat} {lv : Value} {m : ByteArray} (hr : w.ownsRow 0 9 1 (.slice (some ⟨g3, 0, none⟩) (N + a) cap3) (N + a) (reps (N + a) m))
    (hg3 : lv = .slice (some ⟨g3, 0, none⟩) N cap3 ∨ H0 ≤ g3) (hlt0 : ∀ g, lv.ownBlock = some g → g < H0) (hcase : (lv = .slice (some ⟨g6, 0, none⟩) N cap6 ∧ w.grownBy w6 (some g6)) ∨ (g6 = H ∧ w.grownBy w6 none))
    (h26 : w6.ownsRow 0 9 1 (.slice (some ⟨g6, 0, none⟩) (N + j) cap6) (N + j) (reps (N + j) m)) (haj : a ≤ j) : w6.ownsRow 0 9 1 (.slice (some ⟨g3, 0, none⟩) (N + a) cap3) (N + a) (reps (N + a) m) := by
  rcases hcase with ⟨e6, hg6⟩ | ⟨_, hg6⟩
  · rcases hg3 with e3 | e3
    · rw [e6] at e3
      injection e3 with x1 _ x3
      injection x1 with x1
      injection x1 with x1 _ _
      subst x1
      subst x3
      have h27 : w6.ownsRow 0 9 1 (.slice (some ⟨g6, 0, none⟩) (N + a + (j - a)) cap6) (N + a + (j - a)) (reps (N + a) m ++ reps (j - a) m) := by
        rw [show N + a + (j - a) = N + j by omega, show reps (N + a) m ++ reps (j - a) m = reps (N + j) m by rw [List.replicate_append_replicate]; congr 1; omega]
        exact h26
      exact row_prefix h27 (by simp)
    · refine grown_row hg6 hr (fun g hg x => ?_)
      simp only [Value.ownBlock, Option.some.injEq] at hg x
      have := hlt0 g6 (by rw [e6]; rfl)
      omega
  · exact grown_row hg6 hr (fun g hg x => by cases x)
theorem case_new {w w6 : World} {g6 cap6 N H : Nat} {lv : Value} {j : Nat} (hcase : (lv = .slice (some ⟨g6, 0, none⟩) N cap6 ∧ w.grownBy w6 (some g6)) ∨ (g6 = H ∧ w.grownBy w6 none)) {H0 : Nat} (hH : H0 ≤ H) :
    (lv = .slice (some ⟨g6, 0, none⟩) N cap6 ∨ H0 ≤ g6) ∧ ∀ g, (Value.slice (some ⟨g6, 0, none⟩) (N + j) cap6).ownBlock = some g → lv.ownBlock = some g ∨ H0 ≤ g := by
  rcases hcase with ⟨e6, _⟩ | ⟨e6, _⟩
  · exact ⟨Or.inl e6, fun g hg => by simp only [Value.ownBlock, Option.some.injEq] at hg; subst hg; exact Or.inl (by rw [e6]; rfl)⟩
  · exact ⟨Or.inr (by omega), fun g hg => by simp only [Value.ownBlock, Option.some.injEq] at hg; exact Or.inr (by omega)⟩

theorem names_more {w : World} {g cap N j : Nat} {m : ByteArray} (h : w.ownsRow 0 9 1 (.slice (some ⟨g, 0, none⟩) (N + j) cap) (N + j) (reps N m ++ reps j m)) : w.ownsRow 0 9 1 (.slice (some ⟨g, 0, none⟩) (N + j) cap) (N + j) (reps (N + j) m) := by
  rw [show reps (N + j) m = reps N m ++ reps j m from List.replicate_append_replicate.symm]
  exact h
set_option maxHeartbeats 2000000 in
set_option maxRecDepth 100000 in
theorem ownsNames_any (w : World) (b : Nat) (V : BookV) (B : BookR) (S : Nat → Prop) (lv : Value) (xs : List Value) (h : BookAt w b V B S) (hl : w.ownsRow 0 9 1 lv xs.length xs)
    (hne : ∀ g, lv.ownBlock = some g → ¬ S g) (hnx : B.next ≤ 1000000000) (hfl : B.names.length ≤ 10000000000) (hL : xs.length ≤ 1000) :
    Calls Tryz.prog 129 #[.pointer (some ⟨b, 0, none⟩), lv] w fun e w' => e = .returned (.tuple #[]) ∧
      ∃ V' B' S', BookAt w' b V' B' S' ∧ B'.next = B.next + 1 ∧ B'.names.length = B.names.length + 4 ∧ B'.writes = B.writes ∧ B'.files = B.files ∧ (∀ x ∈ B'.names, x ∈ B.names ∨ x.n ≤ xs.length + 3) ∧
        Kept (fun k => S k ∨ lv.ownBlock = some k) w w' ∧ (∀ k, S' k → S k ∨ lv.ownBlock = some k ∨ w.heap.size ≤ k) := by
  have c6 := h.cell 6
  rw [show (bookCells V B.next)[6]? = some (.int .i64 (B.next : Int)) from rfl] at c6
  have z6 := frozen_blk h.blk 6
  have h1 := h.setNext (B.next + 1)
  have hni : (B.next : Int) ≤ 1000000000 := by omega
  rw [show ((B.next + 1 : Nat) : Int) = (B.next : Int) + 1 by omega] at h1
  have d6 : (w.setCell ⟨b, 6, none⟩ (.int .i64 ((B.next : Int) + 1))).drew.cell? ⟨b, 6, none⟩ = some (.int .i64 ((B.next : Int) + 1)) := by
    show (w.setCell ⟨b, 6, none⟩ (.int .i64 ((B.next : Int) + 1))).cell? ⟨b, 6, none⟩ = _
    rw [h1.cell 6]; show some (Value.int .i64 ((B.next + 1 : Nat) : Int)) = _; rw [show ((B.next + 1 : Nat) : Int) = (B.next : Int) + 1 by omega]
  go_enter Tryz.func129, Tryz.ntmps129
  go_wp2
  generalize hW : w.setCell ⟨b, 6, none⟩ (.int .i64 ((B.next : Int) + 1)) = W at *
  have hcv : (convert 73 9 (.slice (some ⟨W.heap.size, 0, none⟩) 2 2)).run Tryz.prog (W.alloc (.cells #[.int .u8 (((B.next : Int) + 1) % 256), .int .u8 (((B.next : Int) + 1) / 256 % 256)] 5)).drew = .ok (.string (txt [UInt8.ofNat ((B.next + 1) % 256), UInt8.ofNat ((B.next + 1) / 256 % 256)])) (W.alloc (.cells #[.int .u8 (((B.next : Int) + 1) % 256), .int .u8 (((B.next : Int) + 1) / 256 % 256)] 5)).drew := by
    refine conv_range (w := (W.alloc (.cells #[.int .u8 (((B.next : Int) + 1) % 256), .int .u8 (((B.next : Int) + 1) / 256 % 256)] 5)).drew) [UInt8.ofNat ((B.next + 1) % 256), UInt8.ofNat ((B.next + 1) / 256 % 256)] (fun j v hv => ?_) 2
    have hb : (W.alloc (.cells #[.int .u8 (((B.next : Int) + 1) % 256), .int .u8 (((B.next : Int) + 1) / 256 % 256)] 5)).drew.heap[W.heap.size]? = some (.cells #[.int .u8 (((B.next : Int) + 1) % 256), .int .u8 (((B.next : Int) + 1) / 256 % 256)] 5 (0, 0)) := heap_alloc_new W _
    rw [Nat.zero_add, cell_blk hb]
    match j with
    | 0 =>
      simp only [cv, List.map_cons, List.getElem?_cons_zero, Option.some.injEq] at hv
      rw [← hv, toNat_ofNat _ (by omega)]
      simp
    | 1 =>
      simp only [cv, List.map_cons, List.getElem?_cons_zero, List.getElem?_cons_succ, Option.some.injEq] at hv
      rw [← hv, toNat_ofNat _ (by omega)]
      simp
    | k + 2 => simp [cv] at hv
  have hq2 : (txt [UInt8.ofNat ((B.next + 1) % 256), UInt8.ofNat ((B.next + 1) / 256 % 256)]).size = 2 := rfl
  have hq1 : (⟨#[35]⟩ : ByteArray).size = 1 := rfl
  generalize txt [UInt8.ofNat ((B.next + 1) % 256), UInt8.ofNat ((B.next + 1) / 256 % 256)] = t1 at *
  go_region
  go_wp2
  have hW1 : Below W.heap.size W (W.alloc (.cells #[.int .u8 (((B.next : Int) + 1) % 256), .int .u8 (((B.next : Int) + 1) / 256 % 256)] 5)).drew := ((Below.refl _ W).alloc (Nat.le_refl _) _).drew
  generalize (W.alloc (.cells #[.int .u8 (((B.next : Int) + 1) % 256), .int .u8 (((B.next : Int) + 1) / 256 % 256)] 5)).drew = W1 at *
  generalize ((⟨#[35]⟩ : ByteArray) ++ t1) = m at *
  generalize ((B.next : Int) + 1) % 256 = z0 at *
  generalize ((B.next : Int) + 1) / 256 % 256 = z1 at *
  generalize ((B.next : Int) + 1) / 256 = z2 at *
  have hK0 : Kept (fun k => S k ∨ lv.ownBlock = some k) w W := by rw [← hW]; exact (Kept.only w b 6 (.int .i64 ((B.next : Int) + 1))).mono (fun k hk => Or.inl (by rw [hk]; exact h.inB))
  have HK0 := hide (hK0.trans (Kept.of_below hW1))
  have hl0 : W.ownsRow 0 9 1 lv xs.length xs := by rw [← hW]; exact ownsRow_kept (Kept.only w b 6 (.int .i64 ((B.next : Int) + 1))) hl (row_ne hl h.blk (by decide))
  have Hl0 := hide (ownsRow_kept (Kept.of_below (S := fun _ => False) hW1) hl0 (fun _ _ => id))
  have HB0 := hide (h1.below hW1)
  have hlt0 : ∀ g, lv.ownBlock = some g → g < w.heap.size := fun g hg => (hl.lt g hg).2
  have Hlt0 := hide hlt0
  have Hne := hide hne
  have HS := hide h.lt
  obtain ⟨la, lcap, hlv⟩ := row_form hl
  have Hlv := hide hlv
  subst hlv
  clear c6 z6 d6 h1 h hl hlt0 hne hcv hW1 hK0 hl0 hW
  generalize hN : xs.length = N at *
  go_loopw [5] (fun i w' => ∃ k : Nat, k ≤ N ∧ i = .int .i64 k ∧ w'.ownsRow 0 9 1 (.slice la N lcap) N (nameTo xs m k) ∧ BookAt w' b V { B with next := B.next + 1 } S ∧ Kept (fun k => S k ∨ (Value.slice la N lcap).ownBlock = some k) w w') (fun i _ => N - (intOf i).toNat)
  case atStart => exact ⟨0, by omega, rfl, unhide Hl0, unhide HB0, unhide HK0⟩
  case round =>
    obtain ⟨k, hk, rfl, hrow, hbk, hkp⟩ := hrel
    clear Hl0 HB0 HK0
    by_cases hlt : k < N
    · obtain ⟨g, cap2, e2, _⟩ := row_some hrow (by omega)
      obtain ⟨rfl, rfl⟩ : la = some ⟨g, 0, none⟩ ∧ lcap = cap2 := by injection e2 with x1 x2 x3; exact ⟨x1, x3⟩
      have hki : (k : Int) < (N : Int) := by omega
      obtain ⟨t1, t2, t3⟩ := row_put1 hrow k hlt (.string m)
      rw [nameTo_succ xs m k (by omega)] at t3
      obtain ⟨ov, hov⟩ := Option.isSome_iff_exists.1 t1
      have Hset := hide t3
      have Hbk := hide (hbk.kept (T := fun x => x = g) (Kept.only wr g k (.string m)) (fun x hx e => unhide Hne g rfl (by rw [← e]; exact hx)))
      have Hkp := hide (hkp.trans ((Kept.only wr g k (.string m)).mono (T := fun k => S k ∨ (Value.slice (some ⟨g, 0, none⟩) N lcap).ownBlock = some k) (fun x e => Or.inr (by rw [e]; rfl))))
      clear hrow hbk hkp e2 t1 t3
      go_wp2
      go_roundw
      case rel => exact ⟨k + 1, by omega, by go_num, unhide Hset, unhide Hbk, unhide Hkp⟩
      case measure => simp [intOf]; omega
    · have hkL : k = N := by omega
      have hfull : nameTo xs m k = reps N m := by rw [hkL]; unfold nameTo; rw [← hN, List.drop_length, List.append_nil]
      rw [hfull] at hrow
      have Hrow := hide hrow
      have Hbk := hide hbk
      have Hkp := hide hkp
      clear hrow hbk hkp hfull
      obtain ⟨i0, hi0, hz0, hz1, hz2⟩ := info_parts Tryz.infoStr
      obtain ⟨i1, hi1, hx0, hx1, hx2⟩ := info_parts Tryz.infoSlS
      go_wp2_with (first
        | (at_builtin
           refine wpList_append_keep _ rfl _ _ _ rfl 0 9 i0 _ 1 16 Tryz.underlying34 hi0 hz0 hz1 hz2 rfl (by omega) (.slice la N lcap) N (reps N m) rfl ((unhide Hrow).alloc _) ⟨wr.heap.size, 0, none⟩ 1 1 [.string m] rfl rfl (World.news_of_block (cs := #[.string m]) (t := 9) (fr := (0, 0)) (heap_alloc_new wr _)) (by simp [Value.oneCell']) (by omega) (by unfold maxLen; omega) (by omega) (by omega) (wr.heap.size + 1) (by simp) ?_
           intro g3 cap3 w3 hown3 hcase3 hlt3
           have L3 := hide (row_still ((unhide Hrow).alloc (.cells #[.string m] 9)) hown3 hcase3)
           have B3 := hide (((unhide Hbk).below ((Below.refl _ _).alloc (Nat.le_refl _) (.cells #[.string m] 9))).kept (case_kept hcase3) (fun x hx e => unhide Hne x e hx))
           have K3 := hide (((unhide Hkp).alloc (.cells #[.string m] 9)).trans ((case_kept hcase3).mono (T := fun k => S k ∨ (Value.slice la N lcap).ownBlock = some k) (fun k hk => Or.inr hk)))
           have G3 := hide (case_new (j := 1) hcase3 (H0 := w.heap.size) (by have := (unhide Hkp).size; omega))
           have O3 := hide (names_more (j := 1) hown3)
           clear hown3 hcase3)
        | (at_builtin
           refine wpList_append_keep _ rfl _ _ _ rfl 0 9 i0 _ 1 16 Tryz.underlying34 hi0 hz0 hz1 hz2 rfl (by omega) (.slice la N lcap) N (reps N m) rfl ((unhide L3).alloc _) ⟨w3.heap.size, 0, none⟩ 2 2 [.string m, .string m] rfl rfl (World.news_of_block (cs := #[.string m, .string m]) (t := 9) (fr := (0, 0)) (heap_alloc_new w3 _)) (by simp [Value.oneCell']) (by omega) (by unfold maxLen; omega) (by omega) (by omega) (w3.heap.size + 1) (by simp) ?_
           intro g4 cap4 w4 hown4 hcase4 hlt4
           have L4 := hide (row_still ((unhide L3).alloc (.cells #[.string m, .string m] 9)) hown4 hcase4)
           have B4 := hide (((unhide B3).below ((Below.refl _ _).alloc (Nat.le_refl _) (.cells #[.string m, .string m] 9))).kept (case_kept hcase4) (fun x hx e => unhide Hne x e hx))
           have K4 := hide (((unhide K3).alloc (.cells #[.string m, .string m] 9)).trans ((case_kept hcase4).mono (T := fun k => S k ∨ (Value.slice la N lcap).ownBlock = some k) (fun k hk => Or.inr hk)))
           have G4 := hide (case_new (j := 2) hcase4 (H0 := w.heap.size) (by have := (unhide K3).size; omega))
           have O4 := hide (names_more (j := 2) hown4)
           have O3_4 := hide (ext_still ((unhide O3).alloc (.cells #[.string m, .string m] 9)) (unhide G3).1 (unhide Hlt0) hcase4 (unhide O4) (by omega))
           clear hown4 hcase4)
        | (at_builtin
           refine wpList_append_keep _ rfl _ _ _ rfl 0 9 i0 _ 1 16 Tryz.underlying34 hi0 hz0 hz1 hz2 rfl (by omega) (.slice la N lcap) N (reps N m) rfl ((unhide L4).alloc _) ⟨w4.heap.size, 0, none⟩ 3 3 [.string m, .string m, .string m] rfl rfl (World.news_of_block (cs := #[.string m, .string m, .string m]) (t := 9) (fr := (0, 0)) (heap_alloc_new w4 _)) (by simp [Value.oneCell']) (by omega) (by unfold maxLen; omega) (by omega) (by omega) (w4.heap.size + 1) (by simp) ?_
           intro g5 cap5 w5 hown5 hcase5 hlt5
           have L5 := hide (row_still ((unhide L4).alloc (.cells #[.string m, .string m, .string m] 9)) hown5 hcase5)
           have B5 := hide (((unhide B4).below ((Below.refl _ _).alloc (Nat.le_refl _) (.cells #[.string m, .string m, .string m] 9))).kept (case_kept hcase5) (fun x hx e => unhide Hne x e hx))
           have K5 := hide (((unhide K4).alloc (.cells #[.string m, .string m, .string m] 9)).trans ((case_kept hcase5).mono (T := fun k => S k ∨ (Value.slice la N lcap).ownBlock = some k) (fun k hk => Or.inr hk)))
           have G5 := hide (case_new (j := 3) hcase5 (H0 := w.heap.size) (by have := (unhide K4).size; omega))
           have O5 := hide (names_more (j := 3) hown5)
           have O3_5 := hide (ext_still ((unhide O3_4).alloc (.cells #[.string m, .string m, .string m] 9)) (unhide G3).1 (unhide Hlt0) hcase5 (unhide O5) (by omega))
           have O4_5 := hide (ext_still ((unhide O4).alloc (.cells #[.string m, .string m, .string m] 9)) (unhide G4).1 (unhide Hlt0) hcase5 (unhide O5) (by omega))
           have c0 : w5.cell? ⟨b, 0, none⟩ = some V.n := (unhide B5).cell 0
           clear hown5 hcase5)
        | (at_builtin
           refine wpList_append_lies _ rfl _ _ _ rfl 0 34 i1 _ 1 24 Tryz.underlying25 hi1 hx0 hx1 hx2 rfl (by omega) V.n B.names.length (B.names.map (·.v)) rfl ((unhide B5).rN.alloc _) ⟨w5.heap.size, 0, none⟩ 4 4 [.slice la N lcap, .slice (some ⟨g3, 0, none⟩) (N + 1) cap3, .slice (some ⟨g4, 0, none⟩) (N + 2) cap4, .slice (some ⟨g5, 0, none⟩) (N + 3) cap5] rfl rfl (World.news_of_block (cs := #[.slice la N lcap, .slice (some ⟨g3, 0, none⟩) (N + 1) cap3, .slice (some ⟨g4, 0, none⟩) (N + 2) cap4, .slice (some ⟨g5, 0, none⟩) (N + 3) cap5]) (t := 34) (fr := (0, 0)) (heap_alloc_new w5 _)) (by simp [Value.oneCell']) (by omega) (by unfold maxLen; omega) (by omega) (by omega) (w5.heap.size + 1) (by simp) ?_
           intro g7 cap7 w7 hown7 hgrow7 hat7 hlt7
           have b7 := hide (grown_blk hgrow7 ((unhide B5).below ((Below.refl _ _).alloc (Nat.le_refl _) (.cells #[.slice la N lcap, .slice (some ⟨g3, 0, none⟩) (N + 1) cap3, .slice (some ⟨g4, 0, none⟩) (N + 2) cap4, .slice (some ⟨g5, 0, none⟩) (N + 3) cap5] 34))).blk (row_ne (unhide B5).rN (unhide B5).blk (by decide)))
           have c70 : w7.cell? ⟨b, 0, none⟩ = some V.n := (cell_blk (unhide b7) 0).trans rfl
           have c71 : w7.cell? ⟨b, 1, none⟩ = some V.nm := (cell_blk (unhide b7) 1).trans rfl
           have z7 : ∀ i, w7.frozen? ⟨b, i, none⟩ = false := fun i => frozen_blk (unhide b7) i
           have R9 := hide (ownsRow_kept (Kept.only w7 b 0 (.slice (some ⟨g7, 0, none⟩) (B.names.length + 4) cap7)) (grown_row hgrow7 ((unhide B5).rNm.alloc _) (rows_ne (unhide B5).rNm (unhide B5).rN (by decide))) (row_ne (unhide B5).rNm (unhide B5).blk (by decide))))
        | (at_builtin
           refine wpList_append_lies _ rfl _ _ _ rfl 0 9 i0 _ 1 16 Tryz.underlying34 hi0 hz0 hz1 hz2 rfl (by omega) V.nm B.names.length (B.names.map fun x => .string x.s) rfl ((unhide R9).alloc _) ⟨w7.heap.size, 0, none⟩ 4 4 [.string m, .string m, .string m, .string m] rfl rfl (World.news_of_block (cs := #[.string m, .string m, .string m, .string m]) (t := 9) (fr := (0, 0)) (by have := heap_alloc_new (w7.setCell ⟨b, 0, none⟩ (.slice (some ⟨g7, 0, none⟩) (B.names.length + 4) cap7)) (.cells #[.string m, .string m, .string m, .string m] 9); rwa [size_setCell] at this)) (by simp [Value.oneCell']) (by omega) (by unfold maxLen; omega) (by omega) (by omega) (w7.heap.size + 1) (by simp) ?_
           intro g8 cap8 w8 hown8 hgrow8 hat8 hlt8
           have b8 := hide (grown_blk hgrow8 (show _ = some (.cells (bookCells { V with n := .slice (some ⟨g7, 0, none⟩) (B.names.length + 4) cap7 } (B.next + 1)).toArray 77 (0, 0)) from (Below.heap_alloc _ _ _ (by rw [size_setCell]; exact blk_lt (unhide b7))).trans (by rw [heap_setCell_same _ _ _ _ _ _ _ (unhide b7)]; rfl)) (fun g hg => row_ne (unhide B5).rNm (unhide B5).blk (by decide) g hg))
           have c81 : w8.cell? ⟨b, 1, none⟩ = some V.nm := (cell_blk (unhide b8) 1).trans rfl
           have z8 : ∀ i, w8.frozen? ⟨b, i, none⟩ = false := fun i => frozen_blk (unhide b8) i)
        | fail)
      have E := hide (ownsNames_end (unhide HS) (unhide Hne) (unhide B5) (unhide L5) (unhide O3_5) (unhide O4_5) (unhide O5) (unhide G3).2 (unhide G4).2 (unhide G5).2 (unhide K5) hgrow7 hown7 hat7 hgrow8 hown8 hat8 (unhide b8))
      go_end0
      exact ⟨rfl, unhide E⟩
end Go.Proofs.YtknjjjenklfeoaaGreatDoor

/-
  vellumlaw's asks: List.
-/
namespace Go.Proofs.YtknjjjenklfeoaaGreatDoor
open Go.RowKit
attribute [local go_sem ↓] loadVar_clus storeVar_clus zeroValue_clus loadVar_op equalIn_clus
attribute [local go_sem] run_loadClus run_storeClus run_zeroClus run_storeClus_new run_loadClus_new zc_length run_loadOp HasAt_drew cellsAt_drew

theorem names_told {base : List Clus} {V : VolR} {N0 : Nat} {E : List EntR} (h : Vol base V N0 E) : namesTo (entsOf (cl V.C 5)) (lenOf (entsOf (cl V.C 5))) = E.map (·.name) := by
  rw [h.ents.2, h.ents.1]
  unfold namesTo pad4
  rw [List.take_left']
  rfl
theorem names_held {V : VolR} {N0 : Nat} {E : List EntR} : picNames (dskOf V.C N0 E).L (dskOf V.C N0 E).L.length = E.map (·.name) := by
  unfold picNames
  rw [List.take_length, dskOf_L, List.map_map]
  rfl
set_option maxHeartbeats 4000000 in
set_option maxRecDepth 100000 in
theorem asksList_any (w : World) (p b : Nat) (P : PairR) (S U : Nat → Prop) (N0 : Nat) (E : List EntR) (V : BookV) (B : BookR) (h : PairAt w p P S) (hst : Stands P N0 E) (hb : BookAt w b V B U) (hnx : B.next ≤ 900000000) (hnl : B.names.length ≤ 9000000000) (o : OpR) (hk : o.kind = 6) :
    Calls Tryz.prog 67 #[.pointer (some ⟨p, 0, none⟩), .pointer (some ⟨b, 0, none⟩), .agg (opCells o).toArray] w fun e w' => e = .returned (.bool true) ∧
      ∃ V' B' U', Booked2 w w' b B U V' B' U' (P.V.L.length + 2) := by
  have hg := hst.vol
  have h7 := hg.file.seven
  have hn1 := names_told hg
  have hn2 : picNames P.D.L P.D.L.length = E.map (·.name) := by rw [← hst.disk]; exact names_held
  have hlE : P.D.L.length = E.length := by rw [← hst.disk, dsk_len]
  have hlV := hg.ents.2
  have h4 := hg.file.ents.len
  have hb0 : Below w.heap.size w (w.alloc (.cells (opCells o).toArray 80)) := (Below.refl _ _).alloc (Nat.le_refl _) _
  have hbx0 : (w.alloc (.cells (opCells o).toArray 80)).heap[w.heap.size]? = some (.cells (opCells o).toArray 80 (0, 0)) := heap_alloc_new _ _
  have ck : (w.alloc (.cells (opCells o).toArray 80)).cell? ⟨w.heap.size, 0, none⟩ = some (.int .i64 6) := by rw [cell_blk hbx0 0, List.getElem?_toArray]; show some (Value.int .i64 o.kind) = _; rw [hk]
  have c0 := (h.below hb0).c0
  have H := hide h
  have HB := hide hb
  have B0 := hide hb0
  have hUlt := hb.lt
  have hSlt := h.lt
  have HL0 := hide (fun (W : World) (hB : Below w.heap.size w W) => diskList_any W P.d P.v P.Cv P.Lv P.V ((unhide H).below hB).dsk (by omega))
  rw [hn1, hlV] at HL0
  have HL1 := hide (fun (W : World) (hB : Below w.heap.size w W) => refList_any W P.y P.Pv P.D ((unhide H).below hB).ref (by omega))
  rw [hn2, hlE] at HL1
  have hNl : (E.map (·.name)).length = E.length := List.length_map _
  generalize E.map (·.name) = NN at *
  generalize E.length = n at *
  clear h hb hb0 hbx0 hg hst hn1 hn2 hlV hlE
  go_enter Tryz.func67, Tryz.ntmps67
  go_wp2_with fail
  generalize w.alloc (.cells (opCells o).toArray 80) = w0 at *
  refine (unhide HL0 w0 (unhide B0)).mono ?_
  rintro e w1 ⟨lv, rfl, rl1, b1⟩
  have B1 := hide ((unhide B0).trans (b1.mono (unhide B0).size))
  have hs0 : w.heap.size ≤ w0.heap.size := (unhide B0).size
  have hlv : ∀ g, lv.ownBlock = some g → w.heap.size ≤ g := fun g hg => Nat.le_trans hs0 (rl1.lt g hg).1
  have c1 := ((unhide H).below (unhide B1)).c1
  have R1 := hide (row_base rl1 (Nat.zero_le _))
  clear b1 B0 c0 ck rl1 HL0
  go_wp2_with fail
  refine (unhide HL1 w1 (unhide B1)).mono ?_
  rintro e w2 ⟨mv, rfl, rm2, b2⟩
  have R2 := hide (ownsRow_kept (Kept.of_below (S := fun _ => False) b2) (unhide R1) (fun _ _ => id))
  have M2 := hide (row_base rm2 (Nat.zero_le _))
  have B2 := hide ((unhide B1).trans (b2.mono (unhide B1).size))
  clear R1 rm2 b2 B1 c1 HL1
  obtain ⟨la, lcap, rfl⟩ := row_form (unhide R2)
  obtain ⟨ma, mcap, rfl⟩ := row_form (unhide M2)
  go_wp2
  have hsv : (sv NN).length = n := by rw [sv_length, hNl]
  have hget : ∀ k, k < n → (sv NN)[k]? = some (.string (txt (NN.getD k []))) := fun k hk => by
    unfold sv
    rw [List.getElem?_map, List.getD_eq_getElem?_getD, List.getElem?_eq_getElem (by omega)]
    rfl
  have Hget := hide hget
  clear hget
  have hn4 : (n : Int) ≤ 4 := by omega
  go_loopw [17, 18] (fun s i w' => ∃ k : Nat, k ≤ n ∧ s = .bool true ∧ i = .int .i64 k ∧ Below w2.heap.size w2 w') (fun _ i _ => n - (intOf i).toNat)
  case atStart => exact ⟨0, by omega, rfl, rfl, Below.refl _ _⟩
  case round =>
    obtain ⟨k, hk', rfl, rfl, hb⟩ := hrel
    by_cases hlt : k < n
    · have hki : (k : Int) < (n : Int) := by omega
      have r1 := ownsRow_kept (Kept.of_below (S := fun _ => False) hb) (unhide R2) (fun _ _ => id)
      have r2 := ownsRow_kept (Kept.of_below (S := fun _ => False) hb) (unhide M2) (fun _ _ => id)
      obtain ⟨g, cap2, e2, _⟩ := row_some r1 (by omega)
      obtain ⟨rfl, rfl⟩ : la = some ⟨g, 0, none⟩ ∧ lcap = cap2 := by injection e2 with x1 x2 x3; exact ⟨x1, x3⟩
      obtain ⟨g3, cap3, e3, _⟩ := row_some r2 (by omega)
      obtain ⟨rfl, rfl⟩ : ma = some ⟨g3, 0, none⟩ ∧ mcap = cap3 := by injection e3 with x1 x2 x3; exact ⟨x1, x3⟩
      have d1 := row_one r1 k hlt (unhide Hget k hlt)
      have d2 := row_one r2 k hlt (unhide Hget k hlt)
      have Hb := hide hb
      clear hb r1 r2 e2 e3
      generalize txt (NN.getD k []) = t at *
      go_wp2
      go_quiet (fail)
      go_wp2
      go_roundw
      case rel => exact ⟨k + 1, by omega, rfl, by go_num, (unhide Hb).trans ((((Kept.refl (fun _ => False) wr).drewN nq).below).mono (unhide Hb).size)⟩
      case measure => simp [intOf]; omega
    · have hki : ¬ (k : Int) < (n : Int) := by omega
      have R3 := hide (ownsRow_kept (Kept.of_below (S := fun _ => False) hb) (unhide R2) (fun _ _ => id))
      have B3 := hide ((unhide B2).trans (hb.mono (unhide B2).size))
      clear hb
      go_wp2_with fail
      have Ho := hide (ownsNames_any wr b V B U (.slice la n lcap) (sv NN) ((unhide HB).below (unhide B3)) (by rw [hsv]; exact unhide R3) (fun g hg hu => by have := hlv g hg; have := hUlt g hu; omega) (by omega) (by omega) (by omega))
      rw [hsv] at Ho
      refine (unhide Ho).mono ?_
      rintro e w4 ⟨rfl, V4, B4, U4, hB4, n4, l4, e4w, e4f, m4, k4, s4⟩
      have hfin : Booked2 w w4 b B U V4 B4 U4 (P.V.L.length + 2) := by
        have hs3 := (unhide B3).size
        refine ⟨hB4, by omega, by rw [e4f]; omega, by rw [e4w]; omega, by omega, fun x hx => Or.inl (by rw [e4f] at hx; exact hx), fun x hx => Or.inl (by rw [e4w] at hx; exact hx), fun x hx => ?_, ?_, fun k hk => ?_⟩
        · rcases m4 x hx with y | y
          · exact Or.inl y
          · exact Or.inr (by omega)
        · refine ⟨k4.os.trans (unhide B3).os, k4.tape.trans (unhide B3).tape, k4.output.trans (unhide B3).output, Nat.le_trans hs3 k4.size, fun k hk hnu => ?_⟩
          rw [k4.block k (by omega) (fun hu => ?_), (unhide B3).block k hk]
          rcases hu with x | x
          · exact hnu x
          · have := hlv k x; omega
        · rcases s4 k hk with x | x | x
          · exact Or.inl x
          · exact Or.inr (hlv k x)
          · exact Or.inr (by omega)
      have Hfin := hide hfin
      clear hfin hB4 k4 s4 m4 Ho
      go_wp2
      go_ret
      exact ⟨rfl, _, _, _, unhide Hfin⟩
end Go.Proofs.YtknjjjenklfeoaaGreatDoor
