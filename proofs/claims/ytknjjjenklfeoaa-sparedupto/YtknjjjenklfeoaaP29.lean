import Derived.Test.YtknjjjenklfeoaaP28
import Derived.Test.YtknjjjenklfeoaaP13
/-
  Plain: what Take, Return and Drop make of a volume, and of what it holds.
-/
namespace Go.Proofs.Ytknjjjenklfeoaa
section
variable {base : List Clus} {V : VolR} {N0 : Nat} {E : List EntR} {s : ByteArray}
theorem Vol.ents (h : Vol base V N0 E) : entsOf (cl V.C 5) = pad4 E ∧ lenOf (entsOf (cl V.C 5)) = E.length := by
  rw [h.file.list, h.file.ents.entsOf]
  exact ⟨rfl, h.file.ents.lenOf⟩
theorem dsk_name (L : List Clus) (k : Nat) (hk : k < E.length) : (picAt (dskOf L N0 E).L k).name = ((pad4 E).getD k ze).name ∧ (picAt (dskOf L N0 E).L k).C = contentOf L ((pad4 E).getD k ze).first := by
  rw [pad4_get k hk]
  unfold picAt
  rw [dskOf_L, List.getD_eq_getElem?_getD, List.getD_eq_getElem?_getD, List.getElem?_map, List.getElem?_eq_getElem hk]
  exact ⟨rfl, rfl⟩
theorem find_same (L : List Clus) : ∀ m k, k + m = E.length → refFindFrom (dskOf L N0 E).L s m k = findFrom (pad4 E) s m k
  | 0, _, _ => rfl
  | m + 1, k, h => by
    rw [refFindFrom, findFrom, (dsk_name L k (by omega)).1, find_same L m (k + 1) (by omega)]
theorem dsk_len (L : List Clus) : (dskOf L N0 E).L.length = E.length := by rw [dskOf_L, List.length_map]
theorem Vol.find (h : Vol base V N0 E) : refFind (dskOf V.C N0 E) s = findE (entsOf (cl V.C 5)) s := by
  unfold refFind findE
  rw [h.ents.2, h.ents.1, dsk_len]
  exact find_same V.C E.length 0 (by omega)
theorem find_none : ∀ m k, k + m = E.length → findFrom (pad4 E) s m k < 0 → ∀ j, k ≤ j → j < E.length → ((pad4 E).getD j ze).name ≠ s.data.toList
  | 0, k, h, _, j, h1, h2 => by omega
  | m + 1, k, h, hf, j, h1, h2 => by
    rw [findFrom] at hf
    split at hf
    · omega
    · rename_i hn
      by_cases e : k = j
      · subst e
        intro he
        exact hn (by rw [he]; exact txt_self s)
      · exact find_none m (k + 1) (by omega) hf j (by omega) h2
theorem Vol.fresh (h : Vol base V N0 E) (hf : findE (entsOf (cl V.C 5)) s < 0) : s.data.toList ∉ E.map (·.name) := by
  unfold findE at hf
  rw [h.ents.2, h.ents.1] at hf
  intro hm
  obtain ⟨e, he, e1⟩ := List.mem_map.1 hm
  obtain ⟨j, hj, rfl⟩ := List.getElem_of_mem he
  have := find_none E.length 0 (by omega) hf j (by omega) hj
  rw [pad4_get j hj, List.getD_eq_getElem?_getD, List.getElem?_eq_getElem hj] at this
  exact this e1
theorem Vol.there (h : Vol base V N0 E) : (∃ m, m ≠ 0 ∧ m ≠ 5 ∧ entR V s = (0, m) ∧ thereR (dskOf V.C N0 E) s = (-1, m)) ∨ ∃ i, i < E.length ∧ entR V s = (((i : Nat) : Int), 0) ∧ thereR (dskOf V.C N0 E) s = (((i : Nat) : Int), 0) ∧ refFind (dskOf V.C N0 E) s = (i : Int) := by
  unfold thereR entR
  rw [h.find]
  by_cases hn : isNameB s.data.toList = false
  · rw [if_pos hn, if_pos hn]
    exact Or.inl ⟨2, by decide, by decide, rfl, rfl⟩
  · rw [if_neg hn, if_neg hn]
    by_cases hf : findE (entsOf (cl V.C 5)) s < 0
    · rw [if_pos hf, if_pos hf]
      exact Or.inl ⟨4, by decide, by decide, rfl, rfl⟩
    · rw [if_neg hf, if_neg hf]
      obtain ⟨i, _, h2, h3⟩ := findFrom_some (entsOf (cl V.C 5)) s (lenOf (entsOf (cl V.C 5))) 0 (by unfold findE at hf; omega)
      have h4 : findE (entsOf (cl V.C 5)) s = (i : Int) := h3
      rw [h4]
      exact Or.inr ⟨i, by rw [h.ents.2] at h2; omega, rfl, rfl, rfl⟩
theorem pad4_snoc (e : EntR) (h : E.length < 4) : (pad4 E).set E.length e = pad4 (E ++ [e]) := by
  unfold pad4
  rw [List.set_append_right _ _ (Nat.le_refl _), Nat.sub_self, show 4 - E.length = (4 - (E ++ [e]).length) + 1 by simp; omega, List.replicate_succ, List.set_cons_zero, List.append_assoc]
  rfl
theorem pad4_less (i : Nat) (hi : i < E.length) (h4 : E.length ≤ 4) : lessE (pad4 E) i = pad4 (E.eraseIdx i) := by
  unfold lessE pad4
  rw [List.eraseIdx_append_of_lt_length hi, List.append_assoc]
  congr 1
  have : (E.eraseIdx i).length = E.length - 1 := by rw [List.length_eraseIdx, if_pos hi]
  rw [this, show 4 - (E.length - 1) = (4 - E.length) + 1 by omega, List.replicate_succ']
/-- What Room says, and what copyFirst finds. -/
theorem roomFrom_iff (L : List Clus) (M : List Nat) : ∀ m n, roomFrom L M m n = true ↔ ∀ j, n ≤ j → j < n + m → countOf L j + M.getD j 0 ≤ 254
  | 0, n => by simp [roomFrom]; intro j h1 h2; omega
  | m + 1, n => by
    rw [roomFrom]
    by_cases hg : 254 < countOf L n + M.getD n 0
    · rw [if_pos hg]
      constructor
      · intro h; cases h
      · intro h; have := h n (by omega) (by omega); omega
    · rw [if_neg hg, roomFrom_iff L M m (n + 1)]
      constructor
      · intro h j h1 h2
        by_cases e : n = j
        · subst e; omega
        · exact h j (by omega) (by omega)
      · intro h j h1 h2; exact h j (by omega) (by omega)
theorem bump_get (M : List Nat) (n m : Nat) (hn : n < M.length) : (bump M n).getD m 0 = M.getD m 0 + if n = m then 1 else 0 := by
  unfold bump
  rw [List.getD_eq_getElem?_getD, List.getElem?_set]
  by_cases e : n = m
  · subst e
    rw [if_pos rfl, if_pos hn, if_pos rfl, Option.getD_some]
  · rw [if_neg e, if_neg e, List.getD_eq_getElem?_getD]; rfl
theorem sumFrom_last (f : Nat → Nat) : ∀ m k, sumFrom f (m + 1) k = sumFrom f m k + f (k + m)
  | 0, k => by simp [sumFrom]
  | m + 1, k => by
    rw [sumFrom, sumFrom_last f m (k + 1), sumFrom, show k + 1 + m = k + (m + 1) by omega]
    omega
theorem moreIn_get (L : List Clus) (t : Nat) (M : List Nat) (hM : M.length = 256) (n : Nat) : ∀ k, k ≤ 32 → (∀ q, q < k → nm L t q ≠ 0 → nm L t q % 32768 < 256) → (moreIn L t M k).getD n 0 = M.getD n 0 + sumFrom (fun q => hit (nm L t q) n) k 0
  | 0, _, _ => by simp [moreIn, sumFrom]
  | k + 1, hk, hq => by
    have ih := moreIn_get L t M hM n k (by omega) (fun q h => hq q (by omega))
    rw [moreIn, sumFrom_last]
    by_cases h0 : num (cl L t) (2 * k) = 0
    · rw [if_pos h0, ih]
      have : hit (nm L t (0 + k)) n = 0 := by rw [Nat.zero_add]; unfold nm; rw [h0, hit_zero]
      rw [this]; omega
    · rw [if_neg h0, bump_get _ _ _ (by rw [moreIn_length, hM]; exact hq k (by omega) h0), ih]
      have : hit (nm L t (0 + k)) n = if num (cl L t) (2 * k) % 32768 = n then 1 else 0 := by
        rw [Nat.zero_add]
        by_cases e : num (cl L t) (2 * k) % 32768 = n
        · rw [if_pos e]; exact hit_one h0 e
        · rw [if_neg e]; unfold hit; rw [if_neg (fun z => e z.2)]
      rw [this]; omega
theorem SoundL.more {L : List Clus} {rs : List RootR} (h : SoundL L rs) {r : RootR} (hr : r ∈ rs) (n : Nat) : (moreOut L r.N 2).getD n 0 = secOcc L r.N 0 n + secOcc L r.N 1 n := by
  have hlen := h.len
  have step : ∀ i, i < 2 → (moreOut L r.N (i + 1)).getD n 0 = (moreOut L r.N i).getD n 0 + secOcc L r.N i n := by
    intro i hi
    rw [moreOut]
    unfold secOcc
    by_cases h0 : num (cl L r.N) (2 * i) = 0
    · rw [if_pos h0, if_pos h0]; rfl
    · rw [if_neg h0, if_neg h0]
      have hsec : IsSec L rs (nm L r.N i % 32768) := ⟨r, hr, i, hi, h0, rfl⟩
      have hs := h.sec _ hsec
      have hs' : num (cl L r.N) (2 * i) % 32768 < 256 := Nat.lt_of_lt_of_le hs.2 hlen
      rw [moreIn_get L _ _ (by rw [bump_length]; exact moreOut_length L r.N i) n 32 (Nat.le_refl _) (fun q hq h1 => Nat.lt_of_lt_of_le (h.num_in (Or.inr hsec) q hq h1).2 hlen), bump_get _ _ _ (by rw [moreOut_length]; exact hs')]
      have : hit (nm L r.N i) n = if num (cl L r.N) (2 * i) % 32768 = n then 1 else 0 := by
        by_cases e : num (cl L r.N) (2 * i) % 32768 = n
        · rw [if_pos e]; exact hit_one h0 e
        · rw [if_neg e]; unfold hit; rw [if_neg (fun z => e z.2)]
      rw [this]
      unfold inOcc
      exact Nat.add_assoc _ _ _
  rw [step 1 (by omega), step 0 (by omega)]
  have : (moreOut L r.N 0).getD n 0 = 0 := by have := zI_most n; show zI.getD n 0 = 0; omega
  omega
theorem Vol.room (h : Vol base V N0 E) {f : Nat} (hf : f ∈ (rsOf N0 E).map (·.N)) : roomR V.C f = true ↔ (0 < (lowFree (cntsOf V.C) 1).length ∧ fitsB (cntsOf V.C) (toldAll V.C f) = true) := by
  obtain ⟨r, hr, rfl⟩ := List.mem_map.1 hf
  obtain ⟨k1, k2⟩ := h.ok.cnts rfl
  have hlen := h.sound.len
  have hin : ∀ u ∈ toldAll V.C r.N, u < V.C.length := fun u hu => (h.sound.held_lt hr u (List.mem_cons.2 (Or.inr hu))).2
  have hfree : 0 < freeOf V.C ↔ 0 < (lowFree (cntsOf V.C) 1).length := by
    constructor
    · intro hp
      by_cases hl : 0 < (lowFree (cntsOf V.C) 1).length
      · exact hl
      · have := free_few h.sound h.file.lens 1 (by omega); omega
    · intro hl
      obtain ⟨n, _, hn, h0⟩ := lowFree_one hl
      rw [h.sound.free_all h.file.lens]
      have key : ∀ k, n < k → 0 < cntTo (fun m => byteAt (cntsOf V.C) m == 0) k := by
        intro k
        induction k with
        | zero => intro h; omega
        | succ k ih =>
          intro hk
          rw [cntTo]
          by_cases e : n = k
          · subst e; rw [if_pos (by simp [h0])]; omega
          · have := ih (by omega); omega
      exact key 256 hn
  unfold roomR
  rw [Bool.and_eq_true, decide_eq_true_iff, hfree, roomFrom_iff, fits_iff _ _ (fun u hu => by rw [k1]; have := hin u hu; omega)]
  constructor
  · rintro ⟨h1, h2⟩
    refine ⟨h2, fun u hu => ?_⟩
    have h3 := h1 u (by omega) (by have := hin u hu; omega)
    rw [h.sound.more hr, ← count_told (h.sound.zero r hr)] at h3
    rw [k2 u (by have := hin u hu; omega)]
    exact h3
  · rintro ⟨h1, h2⟩
    refine ⟨fun j _ hj => ?_, h1⟩
    rw [h.sound.more hr, ← count_told (h.sound.zero r hr)]
    by_cases hm : j ∈ toldAll V.C r.N
    · have := h2 j hm
      rw [k2 j (by omega)] at this
      exact this
    · rw [List.count_eq_zero.2 hm]
      have := h.sound.top j (by omega)
      omega
end
end Go.Proofs.Ytknjjjenklfeoaa
