import Derived.Test.YtknjjjenklfeoaaGreatDoorP21
/-
  Plain: the file made longer, clusters claimed; a block written in place.
-/
namespace Go.Proofs.YtknjjjenklfeoaaGreatDoor
open Go.RowKit
section
variable {base : List Clus} {V : VolR} {T N0 : Nat} {E : List EntR} {D : DiskR}
theorem Vol.ok (h : Vol base V N0 E) : Ok V.C V.C.length N0 E (dskOf V.C N0 E) := ⟨h.file, by rw [padTo_same]; exact h.sound, by rw [padTo_same]⟩
theorem Ok.vol (h : Ok V.C T N0 E D) (hT : V.C.length = T) (hf : V.loose = false) (hl : Logged base V) : Vol base V N0 E := by
  have hs := h.sound
  rw [padTo_self hT] at hs
  exact ⟨by rw [hT]; exact h.file, hs, hf, hl⟩
def lenTo (C : List Clus) (F : List Nat) : Nat := max C.length (lastOf F + 1)
/-- The file is made longer. -/
theorem Vol.longer (h : Vol base V N0 E) (F : List Nat) (hF : lastOf F < 256) : Ok (lengthenV V F).C (lenTo V.C F) N0 E (dskOf V.C N0 E) ∧ (lengthenV V F).C.length = V.C.length ∧ (lengthenV V F).loose = false ∧ (∀ t, t ≠ 0 → cl (lengthenV V F).C t = cl V.C t) ∧ Puts V (lengthenV V F) := by
  have h7 := h.file.seven
  have hm := h.file.most
  refine ⟨?_, ?_, ?_, fun t ht => ?_, puts_lengthen (Puts.refl V) F⟩
  · unfold lengthenV
    rw [h.file.num4, h.file.num6]
    unfold lenTo
    by_cases hc : V.C.length ≤ lastOf F
    · rw [if_pos hc, flushV_C, putV_C, show max V.C.length (lastOf F + 1) = lastOf F + 1 by omega]
      exact h.ok.longer (lastOf F + 1) (by omega) (by omega)
    · rw [if_neg hc, show max V.C.length (lastOf F + 1) = V.C.length by omega]
      exact h.ok
  · exact lengthenV_lenC V F (by omega)
  · unfold lengthenV
    split
    · exact flushV_loose _
    · exact h.firm
  · unfold lengthenV
    split
    · rw [flushV_C]
      by_cases htl : t < V.C.length
      · exact cl_putV_ne _ _ _ _ htl (fun e => ht e.symm)
      · rw [cl_past (by rw [putV_lenC]; omega), cl_past (by omega)]
    · rfl
/-- A block that is used once is told in one place. -/
theorem blk_place {L : List Clus} {rs : List RootR} {n : Nat} (h1 : useOf L rs n = 1) {r r' : RootR} {j j' k k' : Nat} (hr : r ∈ rs) (hr' : r' ∈ rs) (hj : j < 2) (hj' : j' < 2) (hk : k < 32) (hk' : k' < 32)
    (h0 : nm L r.N j ≠ 0) (h0' : nm L r'.N j' ≠ 0) (b0 : nm L (nm L r.N j % 32768) k ≠ 0) (b0' : nm L (nm L r'.N j' % 32768) k' ≠ 0) (e : nm L (nm L r.N j % 32768) k % 32768 = n) (e' : nm L (nm L r'.N j' % 32768) k' % 32768 = n) : r'.N = r.N ∧ j' = j ∧ k' = k := by
  have one : ∀ (x : RootR) (q c : Nat), c < 32 → nm L x.N q ≠ 0 → nm L (nm L x.N q % 32768) c ≠ 0 → nm L (nm L x.N q % 32768) c % 32768 = n → 1 ≤ secOcc L x.N q n := by
    intro x q c hc h0 b0 e
    have := sumFrom_ge (f := fun k => hit (nm L (nm L x.N q % 32768) k) n) (a := c) 32 0 (by omega) (by omega)
    simp only [hit_one b0 e] at this
    unfold secOcc inOcc
    rw [if_neg h0]
    omega
  have k1 := one r j k hk h0 b0 e
  have k2 := one r' j' k' hk' h0' b0' e'
  by_cases hN : r'.N = r.N
  · rw [hN] at h0' b0' e' k2
    have ht := useOf_tree (L := L) hr n
    by_cases hjj : j' = j
    · refine ⟨hN, hjj, ?_⟩
      rw [hjj] at b0' e'
      by_cases hkk : k' = k
      · exact hkk
      · exfalso
        have h2 := secOcc_tree L r.N j n hj
        have : 2 ≤ secOcc L r.N j n := by
          unfold secOcc inOcc
          rw [if_neg h0]
          rcases Nat.lt_or_gt_of_ne hkk with hl | hl
          · have := sumFrom_two (f := fun k => hit (nm L (nm L r.N j % 32768) k) n) hl 32 0 (by omega) (by omega)
            simp only [hit_one b0 e, hit_one b0' e'] at this
            omega
          · have := sumFrom_two (f := fun k => hit (nm L (nm L r.N j % 32768) k) n) hl 32 0 (by omega) (by omega)
            simp only [hit_one b0 e, hit_one b0' e'] at this
            omega
        omega
    · exfalso
      unfold treeOcc at ht
      have : (j = 0 ∧ j' = 1) ∨ (j = 1 ∧ j' = 0) := by omega
      rcases this with ⟨rfl, rfl⟩ | ⟨rfl, rfl⟩ <;> omega
  · exfalso
    have := use_roots (L := L) hr hr' (fun x => hN x.symm) n
    have := secOcc_tree L r.N j n hj
    have := secOcc_tree L r'.N j' n hj'
    omega
end
end Go.Proofs.YtknjjjenklfeoaaGreatDoor

/-
  Plain: Write with a new block, or with a new second table and a new block.
-/
namespace Go.Proofs.YtknjjjenklfeoaaGreatDoor
open Go.RowKit
section
variable {base : List Clus} {V : VolR} {N0 : Nat} {E : List EntR} {b : Nat} {data : Clus}
theorem count_toldBy (ns : List Nat) (m : Nat) : (toldBy ns).count m = (ns.map fun x => hit x m).sum := by
  induction ns with
  | nil => rfl
  | cons x r ih =>
    rw [List.map_cons, List.sum_cons, ← ih]
    unfold toldBy
    rw [List.filter_cons]
    by_cases e : x = 0
    · rw [if_neg (by simp [e]), e, hit_zero]; omega
    · rw [if_pos (by simpa using e), List.map_cons, List.count_cons]
      unfold hit
      by_cases e2 : x % 32768 = m
      · have e3 : (x % 32768 == m) = true := by simpa using e2
        rw [e3, if_pos rfl, if_pos ⟨e, e2⟩]; omega
      · have e3 : (x % 32768 == m) = false := by simpa using e2
        rw [e3, if_neg (by decide), if_neg (fun z => e2 z.2)]; omega
theorem puts_one (V : VolR) (x : Nat × Clus) : puts V [x] = putV V x.1 x.2 := rfl
theorem lastOf_one (n : Nat) : lastOf [n] = n := rfl
/-- What is known of a write. -/
structure Wrote (base : List Clus) (V V' : VolR) (N0 : Nat) (E : List EntR) (D' : DiskR) : Prop where
  vol : Vol base V' N0 E
  holds : dskOf V'.C N0 E = D'
  exact : ExactS V.C (rsOf N0 E) → ExactS V'.C (rsOf N0 E)
end
end Go.Proofs.YtknjjjenklfeoaaGreatDoor

/-
  Plain: Write with a new second table; Write.
-/
namespace Go.Proofs.YtknjjjenklfeoaaGreatDoor
open Go.RowKit
section
variable {base : List Clus} {V : VolR} {N0 : Nat} {E : List EntR} {b : Nat} {data : Clus}
/-- How many are free, as the reader counts them. -/
theorem SoundL.free_all {C : List Clus} {rs : List RootR} (h : SoundL C rs) (hl : ∀ c ∈ C, c.length = 64) : freeOf C = cntTo (fun m => byteAt (cntsOf C) m == 0) 256 := by
  have h6 := h.six
  have hm := h.len
  have cong : ∀ (p q : Nat → Bool) (k : Nat), (∀ j, j < k → p j = q j) → cntTo p k = cntTo q k := by
    intro p q k
    induction k with
    | zero => intro _; rfl
    | succ k ih => intro h; simp only [cntTo]; rw [ih (fun j hj => h j (by omega)), h k (by omega)]
  have more : ∀ (p : Nat → Bool) (n m : Nat), (∀ j, n ≤ j → j < n + m → p j = true) → cntTo p (n + m) = cntTo p n + m := by
    intro p n m
    induction m with
    | zero => intro _; rfl
    | succ m ih =>
      intro h
      rw [← Nat.add_assoc]
      simp only [cntTo]
      rw [ih (fun j h1 h2 => h j h1 (by omega)), if_pos (h (n + m) (by omega) (by omega))]
      omega
  have e := cong (fun m => byteAt (cntsOf C) m == 0) (fun m => countOf C m == 0) 256 (fun j hj => by rw [byteAt_cnts hl (by omega) j hj])
  rw [e]
  have e2 := more (fun m => countOf C m == 0) C.length (256 - C.length) (fun j h1 h2 => by rw [h.none j (by omega) h1]; rfl)
  rw [show C.length + (256 - C.length) = 256 by omega] at e2
  rw [e2]
  unfold freeOf
  rw [Nat.add_comm]
  congr 1
  refine cong _ _ _ fun j hj => ?_
  by_cases hj6 : 6 ≤ j
  · simp [hj6]
  · have := h.cnt j (by omega)
    rw [base6_eq, if_pos (by omega)] at this
    have : countOf C j ≠ 0 := by omega
    simp [this, hj6]
theorem free_few {C : List Clus} {rs : List RootR} (h : SoundL C rs) (hl : ∀ c ∈ C, c.length = 64) (want : Nat) (hf : (lowFree (cntsOf C) want).length < want) : freeOf C < want := by
  rw [h.free_all hl, ← lowTo_all _ want 256 hf]; exact hf
theorem Vol.place (h : Vol base V N0 E) (n : Int) : placeOf V n = findR V.C N0 n.toNat := by unfold placeOf; rw [h.file.num6]
theorem Wrote.refl (h : Vol base V N0 E) : Wrote base V V N0 E (dskOf V.C N0 E) := ⟨h, rfl, id⟩
end
end Go.Proofs.YtknjjjenklfeoaaGreatDoor
