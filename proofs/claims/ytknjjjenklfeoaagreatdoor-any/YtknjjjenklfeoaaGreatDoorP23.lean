import Derived.Test.YtknjjjenklfeoaaGreatDoorP17
import Derived.Test.YtknjjjenklfeoaaGreatDoorP06
import Derived.Test.YtknjjjenklfeoaaGreatDoorP21
import Derived.Test.YtknjjjenklfeoaaGreatDoorP11
/-
  Plain: the list of pictures as bytes, and as the reader and the program read it.
-/
namespace Go.Proofs.YtknjjjenklfeoaaGreatDoor
open Go.RowKit

def entBytes (e : EntR) : Clus := UInt8.ofNat (e.first / 256) :: UInt8.ofNat (e.first % 256) :: (e.name ++ List.replicate (14 - e.name.length) 0)
def pad4 (E : List EntR) : List EntR := E ++ List.replicate (4 - E.length) ze
def listBytes (E : List EntR) : Clus := (pad4 E).flatMap entBytes
structure EntOK (e : EntR) : Prop where
  name : isNameB e.name = true
  pos : e.first ≠ 0
  lt : e.first < 65536
structure EntsOK (E : List EntR) : Prop where
  len : E.length ≤ 4
  all : ∀ e ∈ E, EntOK e
  nodup : (E.map (·.name)).Nodup
theorem name_le {l : List UInt8} (h : isNameB l = true) : 1 ≤ l.length ∧ l.length ≤ 12 := by
  unfold isNameB at h
  simp at h
  omega
theorem name_letter {l : List UInt8} (h : isNameB l = true) : ∀ b ∈ l, b ≠ 0 := by
  intro b hb e
  unfold isNameB at h
  rw [Bool.and_eq_true, List.all_eq_true] at h
  have := h.1 b hb
  rw [e] at this
  revert this
  decide
theorem EntOK.le {e : EntR} (h : EntOK e) : e.name.length ≤ 12 := (name_le h.name).2
theorem entBytes_length {e : EntR} (h : e.name.length ≤ 12) : (entBytes e).length = 16 := by simp [entBytes]; omega
theorem pad4_length {E : List EntR} (h : E.length ≤ 4) : (pad4 E).length = 4 := by simp [pad4]; omega
theorem pad4_mem {E : List EntR} {e : EntR} (h : e ∈ pad4 E) : e ∈ E ∨ e = ze := by
  rcases List.mem_append.1 h with x | x
  · exact Or.inl x
  · exact Or.inr (List.eq_of_mem_replicate x)
theorem EntsOK.short {E : List EntR} (h : EntsOK E) : ∀ e ∈ pad4 E, e.name.length ≤ 12 := by
  intro e he
  rcases pad4_mem he with x | x
  · exact (h.all e x).le
  · rw [x]; decide
theorem flat16_length : ∀ E : List EntR, (∀ e ∈ E, e.name.length ≤ 12) → (E.flatMap entBytes).length = 16 * E.length
  | [], _ => rfl
  | e :: r, h => by
    rw [List.flatMap_cons, List.length_append, entBytes_length (h e (by simp)), flat16_length r (fun x hx => h x (by simp [hx])), List.length_cons]
    omega
theorem flat16_get : ∀ (E : List EntR), (∀ e ∈ E, e.name.length ≤ 12) → ∀ i, i < E.length → ∀ j, j < 16 → (E.flatMap entBytes).getD (16 * i + j) 0 = (entBytes (E.getD i ze)).getD j 0
  | [], _, i, hi, _, _ => by simp at hi
  | e :: r, h, i, hi, j, hj => by
    have hl := entBytes_length (h e (by simp))
    rw [List.flatMap_cons, List.getD_eq_getElem?_getD]
    cases i with
    | zero => rw [List.getElem?_append_left (by omega), List.getD_eq_getElem?_getD]; simp
    | succ i =>
      have ih := flat16_get r (fun x hx => h x (by simp [hx])) i (by simpa using hi) j hj
      rw [List.getElem?_append_right (by rw [hl]; omega), hl, show 16 * (i + 1) + j - 16 = 16 * i + j by omega, ← List.getD_eq_getElem?_getD, ih]
      rfl
section
variable {E : List EntR}
theorem EntsOK.length (h : EntsOK E) : (listBytes E).length = 64 := by
  unfold listBytes
  rw [flat16_length _ h.short, pad4_length h.len]
theorem EntsOK.get (h : EntsOK E) (i : Nat) (hi : i < 4) (j : Nat) (hj : j < 16) : (listBytes E).getD (16 * i + j) 0 = (entBytes ((pad4 E).getD i ze)).getD j 0 :=
  flat16_get _ h.short i (by rw [pad4_length h.len]; exact hi) j hj
theorem pad4_get (i : Nat) (hi : i < E.length) : (pad4 E).getD i ze = E.getD i ze := by
  unfold pad4
  rw [List.getD_eq_getElem?_getD, List.getElem?_append_left hi, List.getD_eq_getElem?_getD]
theorem pad4_past (i : Nat) (hi : E.length ≤ i) : (pad4 E).getD i ze = ze := by
  unfold pad4
  rw [List.getD_eq_getElem?_getD, List.getElem?_append_right hi, List.getElem?_replicate]
  split <;> rfl
theorem EntsOK.at (h : EntsOK E) (i : Nat) : (pad4 E).getD i ze = ze ∨ (i < E.length ∧ EntOK ((pad4 E).getD i ze)) := by
  by_cases hi : i < E.length
  · right
    refine ⟨hi, ?_⟩
    rw [pad4_get i hi]
    apply h.all
    rw [List.getD_eq_getElem?_getD, List.getElem?_eq_getElem hi]
    exact List.getElem_mem hi
  · exact Or.inl (pad4_past i (by omega))
theorem EntsOK.lt (h : EntsOK E) (i : Nat) : ((pad4 E).getD i ze).first < 65536 := by
  rcases h.at i with x | ⟨_, x⟩
  · rw [x]; decide
  · exact x.lt
theorem EntsOK.num (h : EntsOK E) (i : Nat) (hi : i < 4) : num (listBytes E) (16 * i) = ((pad4 E).getD i ze).first := by
  have hlt := h.lt i
  have h0 := h.get i hi 0 (by omega)
  have h1 := h.get i hi 1 (by omega)
  rw [Nat.add_zero] at h0
  unfold Go.Proofs.YtknjjjenklfeoaaGreatDoor.num byteAt
  rw [h0, h1]
  show 256 * (UInt8.ofNat (((pad4 E).getD i ze).first / 256)).toNat + (UInt8.ofNat (((pad4 E).getD i ze).first % 256)).toNat = _
  rw [UInt8.toNat_ofNat', UInt8.toNat_ofNat']
  omega
theorem entBytes_name (e : EntR) (j : Nat) : (entBytes e).getD (j + 2) 0 = e.name.getD j 0 := by
  show (e.name ++ List.replicate (14 - e.name.length) 0).getD j 0 = _
  rw [List.getD_eq_getElem?_getD, List.getD_eq_getElem?_getD]
  by_cases hj : j < e.name.length
  · rw [List.getElem?_append_left hj]
  · rw [List.getElem?_append_right (by omega), List.getElem?_replicate, List.getElem?_eq_none (show e.name.length ≤ j by omega)]
    split <;> rfl
theorem EntsOK.byte (h : EntsOK E) (i : Nat) (hi : i < 4) (j : Nat) (hj : j < 14) : (listBytes E).getD (16 * i + 2 + j) 0 = ((pad4 E).getD i ze).name.getD j 0 := by
  rw [Nat.add_assoc, Nat.add_comm 2 j, h.get i hi (j + 2) (by omega), entBytes_name]

/-- The reader reads a name. -/
theorem nameFrom_over (c : Clus) (a : Nat) (acc : List UInt8) : ∀ m i, (∀ j, i ≤ j → j < i + m → c.getD (a + j) 0 = 0) → nameFrom c a m i true acc = some acc
  | 0, _, _ => rfl
  | m + 1, i, h => by
    rw [nameFrom, if_pos (by unfold byteAt; rw [h i (by omega) (by omega)]; rfl)]
    exact nameFrom_over c a acc m (i + 1) (fun j h1 h2 => h j (by omega) (by omega))
theorem toNat_ne {b : UInt8} (h : b ≠ 0) : b.toNat ≠ 0 := fun e => h (UInt8.toNat_inj.1 (by simpa using e))
theorem nameFrom_name (c : Clus) (a : Nat) (s : List UInt8) (hs : ∀ b ∈ s, b ≠ 0) (h : ∀ j, j < 12 → c.getD (a + j) 0 = s.getD j 0) : ∀ m i, i + m = 12 → i ≤ s.length → s.length ≤ 12 → nameFrom c a m i false (s.take i) = some s
  | 0, i, h1, h2, h3 => by rw [nameFrom, List.take_of_length_le (by omega)]
  | m + 1, i, h1, h2, h3 => by
    rw [nameFrom]
    by_cases hi : i < s.length
    · have e : c.getD (a + i) 0 = s[i] := by rw [h i (by omega), List.getD_eq_getElem?_getD, List.getElem?_eq_getElem hi]; rfl
      have hne := toNat_ne (hs _ (List.getElem_mem hi))
      rw [if_neg (by unfold byteAt; rw [e]; exact hne), if_neg (by decide), e, ← List.take_succ_eq_append_getElem hi]
      exact nameFrom_name c a s hs h m (i + 1) (by omega) (by omega) h3
    · have hz : ∀ j, i ≤ j → j < 12 → c.getD (a + j) 0 = 0 := fun j k1 k2 => by rw [h j k2, List.getD_eq_getElem?_getD, List.getElem?_eq_none (by omega)]; rfl
      rw [if_pos (by unfold byteAt; rw [hz i (by omega) (by omega)]; rfl), List.take_of_length_le (by omega)]
      exact nameFrom_over c a s m (i + 1) (fun j k1 k2 => hz j (by omega) (by omega))
theorem EntsOK.nameOf (h : EntsOK E) (i : Nat) (hi : i < E.length) : nameOf (listBytes E) (16 * i + 2) = ((E.getD i ze).name, true) := by
  have h4 := h.len
  have ok : EntOK (E.getD i ze) := by
    rcases h.at i with x | ⟨_, x⟩
    · rw [pad4_get i hi] at x
      have := h.all (E.getD i ze) (by rw [List.getD_eq_getElem?_getD, List.getElem?_eq_getElem hi]; exact List.getElem_mem hi)
      exact this
    · rw [pad4_get i hi] at x; exact x
  have e := nameFrom_name (listBytes E) (16 * i + 2) (E.getD i ze).name (name_letter ok.name) (fun j hj => by rw [h.byte i (by omega) j (by omega), pad4_get i hi]) 12 0 (by omega) (by omega) ok.le
  unfold Go.Proofs.YtknjjjenklfeoaaGreatDoor.nameOf
  rw [List.take_zero] at e
  rw [e]
  simp only
  rw [ok.name]

def rootE (e : EntR) : RootR := ⟨e.first, 5, e.name⟩
theorem nameIn_none (Q : List RootR) (s : List UInt8) : ∀ m k, (∀ j, k ≤ j → j < k + m → (Q.getD j ⟨0, 0, []⟩).name ≠ s) → nameIn Q s m k = false
  | 0, _, _ => rfl
  | m + 1, k, h => by rw [nameIn, if_neg (h k (by omega) (by omega))]; exact nameIn_none Q s m (k + 1) (fun j h1 h2 => h j (by omega) (by omega))
theorem EntsOK.zero (h : EntsOK E) (i : Nat) (hi : i < 4) (hE : E.length ≤ i) : restZero (listBytes E) 16 (16 * i) = true := by
  have hb : ∀ j, j < 16 → byteAt (listBytes E) (16 * i + j) = 0 := fun j hj => by
    unfold byteAt
    rw [h.get i hi j hj, pad4_past i hE]
    have : ∀ j : Fin 16, ((entBytes ze).getD j.val 0).toNat = 0 := by decide
    exact this ⟨j, hj⟩
  have key : ∀ m k, k + m = 16 → restZero (listBytes E) m (16 * i + k) = true := by
    intro m
    induction m with
    | zero => intro k _; rfl
    | succ m ih =>
      intro k hk
      rw [restZero, if_pos (hb k (by omega)), Nat.add_assoc]
      exact ih (k + 1) (by omega)
  exact key 16 0 rfl
theorem EntsOK.listFrom_past (h : EntsOK E) (Q : List RootR) : ∀ m i over, i + m = 4 → E.length ≤ i → listFrom (listBytes E) m i over Q = (true, Q)
  | 0, _, _, _, _ => rfl
  | m + 1, i, over, h1, h2 => by
    rw [listFrom, if_pos (by rw [h.num i (by omega), pad4_past i h2]; rfl), if_pos (h.zero i (by omega) h2)]
    exact h.listFrom_past Q m (i + 1) true (by omega) (by omega)
theorem EntsOK.listFrom (h : EntsOK E) (r0 : RootR) : ∀ m i, i + m = 4 → i ≤ E.length → Go.Proofs.YtknjjjenklfeoaaGreatDoor.listFrom (listBytes E) m i false (r0 :: (E.take i).map rootE) = (true, r0 :: E.map rootE)
  | 0, i, h1, h2 => by rw [Go.Proofs.YtknjjjenklfeoaaGreatDoor.listFrom, List.take_of_length_le (by have := h.len; omega)]
  | m + 1, i, h1, h2 => by
    by_cases hi : i < E.length
    · have hE : E.getD i ze = E[i] := by rw [List.getD_eq_getElem?_getD, List.getElem?_eq_getElem hi]; rfl
      have ok : EntOK E[i] := h.all _ (List.getElem_mem hi)
      have hn := h.nameOf i hi
      have hnum : Go.Proofs.YtknjjjenklfeoaaGreatDoor.num (listBytes E) (16 * i) = E[i].first := by rw [h.num i (by omega), pad4_get i hi, hE]
      have hbad : entryBad (listBytes E) i false = false := by
        unfold entryBad
        rw [hn]
        have e1 : byteAt (listBytes E) (16 * i + 14) = 0 := by
          unfold byteAt
          rw [show 16 * i + 14 = 16 * i + 2 + 12 by omega, h.byte i (by omega) 12 (by omega), pad4_get i hi, hE, List.getD_eq_getElem?_getD, List.getElem?_eq_none (by have := ok.le; omega)]
          rfl
        have e2 : byteAt (listBytes E) (16 * i + 15) = 0 := by
          unfold byteAt
          rw [show 16 * i + 15 = 16 * i + 2 + 13 by omega, h.byte i (by omega) 13 (by omega), pad4_get i hi, hE, List.getD_eq_getElem?_getD, List.getElem?_eq_none (by have := ok.le; omega)]
          rfl
        rw [e1, e2]
        rfl
      have hin : nameIn (r0 :: (E.take i).map rootE) E[i].name ((r0 :: (E.take i).map rootE).length - 1) 1 = false := by
        refine nameIn_none _ _ _ _ fun j k1 k2 => ?_
        have hj : j - 1 < i := by simp at k2; omega
        obtain ⟨q, rfl⟩ : ∃ q, j = q + 1 := ⟨j - 1, by omega⟩
        rw [List.getD_cons_succ, List.getD_eq_getElem?_getD, List.getElem?_map, List.getElem?_take_of_lt (by omega), List.getElem?_eq_getElem (by omega)]
        show E[q].name ≠ E[i].name
        intro e
        have hnd := h.nodup
        rw [List.nodup_iff_pairwise_ne, List.pairwise_map, List.pairwise_iff_getElem] at hnd
        exact hnd q i (by omega) hi (by omega) e
      rw [Go.Proofs.YtknjjjenklfeoaaGreatDoor.listFrom, if_neg (by rw [hnum]; exact ok.pos), hbad, hn]
      simp only [hE, Bool.false_eq_true, if_false, hin]
      rw [hnum]
      have e : (r0 :: (E.take i).map rootE) ++ [⟨E[i].first, 5, E[i].name⟩] = r0 :: (E.take (i + 1)).map rootE := by
        rw [List.take_succ_eq_append_getElem hi, List.map_append]; rfl
      rw [e]
      exact h.listFrom r0 m (i + 1) (by omega) (by omega)
    · rw [List.take_of_length_le (by omega)]
      exact h.listFrom_past _ (m + 1) i false h1 (by omega)

/-- The program reads the same. -/
theorem cutLen_name (s : List UInt8) (k : Nat) (hs : ∀ b ∈ s, b ≠ 0) : cutLen (s ++ List.replicate k 0) = s.length := by
  have h1 : ∀ k, Lib.indexByte (List.replicate k (0 : UInt8)) 0 = if k = 0 then -1 else 0 := fun k => by
    cases k with
    | zero => rfl
    | succ k => simp [List.replicate_succ, Lib.indexByte]
  have key : ∀ s : List UInt8, (∀ b ∈ s, b ≠ 0) → Lib.indexByte (s ++ List.replicate k 0) 0 = if k = 0 then -1 else (s.length : Int) := by
    intro s
    induction s with
    | nil => intro _; rw [List.nil_append, h1]; split <;> rfl
    | cons b r ih =>
      intro hs
      have := ih (fun x hx => hs x (by simp [hx]))
      have hb : (b == (0 : UInt8)) = false := by simpa using hs b (by simp)
      rw [List.cons_append, Lib.indexByte, hb, this]
      by_cases hk : k = 0
      · simp [hk]
      · have hne : (((r.length : Nat) : Int) == -1) = false := by rw [beq_eq_false_iff_ne]; omega
        simp only [hk, if_false, hne, Bool.false_eq_true, List.length_cons]
        omega
  unfold cutLen zeroAt
  rw [key s hs]
  by_cases hk : k = 0
  · rw [if_pos hk, if_neg (by decide), hk]; simp
  · rw [if_neg hk, if_pos (by omega)]; simp
theorem EntsOK.entOf (h : EntsOK E) (i : Nat) (hi : i < 4) : entOf (listBytes E) i = (pad4 E).getD i ze := by
  have hl := h.length
  have hshort : ((pad4 E).getD i ze).name.length ≤ 12 := by
    rcases h.at i with x | ⟨_, x⟩
    · rw [x]; decide
    · exact x.le
  have hlet : ∀ b ∈ ((pad4 E).getD i ze).name, b ≠ 0 := by
    rcases h.at i with x | ⟨_, x⟩
    · rw [x]; intro b hb; cases hb
    · exact name_letter x.name
  have e : nameBytes (listBytes E) i = ((pad4 E).getD i ze).name ++ List.replicate (12 - ((pad4 E).getD i ze).name.length) 0 := by
    unfold nameBytes
    apply List.ext_getElem?
    intro j
    by_cases hj : j < 12
    · have hb := h.byte i hi j (by omega)
      rw [List.getElem?_take_of_lt hj, List.getElem?_drop, List.getElem?_eq_getElem (by omega)]
      rw [List.getD_eq_getElem?_getD, List.getElem?_eq_getElem (by omega), List.getD_eq_getElem?_getD] at hb
      simp only [Option.getD_some] at hb
      rw [hb]
      by_cases hn : j < ((pad4 E).getD i ze).name.length
      · rw [List.getElem?_append_left hn, List.getElem?_eq_getElem hn]; rfl
      · rw [List.getElem?_append_right (by omega), List.getElem?_replicate, if_pos (by omega), List.getElem?_eq_none (by omega)]; rfl
    · rw [List.getElem?_eq_none (by rw [List.length_take]; omega), List.getElem?_eq_none (by rw [List.length_append, List.length_replicate]; omega)]
  unfold Go.Proofs.YtknjjjenklfeoaaGreatDoor.entOf
  rw [e, cutLen_name _ _ hlet, List.take_left, h.num i hi]
theorem EntsOK.entsOf (h : EntsOK E) : entsOf (listBytes E) = pad4 E := by
  apply List.ext_getElem?
  intro i
  unfold Go.Proofs.YtknjjjenklfeoaaGreatDoor.entsOf
  rw [List.getElem?_map]
  by_cases hi : i < 4
  · rw [List.getElem?_range hi, Option.map_some, h.entOf i hi, List.getD_eq_getElem?_getD, List.getElem?_eq_getElem (by rw [pad4_length h.len]; exact hi)]; rfl
  · rw [List.getElem?_eq_none (by simpa using hi), List.getElem?_eq_none (by rw [pad4_length h.len]; omega)]; rfl
theorem lenFrom_pad (h : EntsOK E) : ∀ m k, k + m = 4 → k ≤ E.length → lenFrom (pad4 E) m k = E.length
  | 0, k, h1, h2 => by rw [lenFrom]; have := h.len; omega
  | m + 1, k, h1, h2 => by
    rw [lenFrom]
    by_cases hk : k < E.length
    · rw [if_neg]
      · exact lenFrom_pad h m (k + 1) (by omega) (by omega)
      · rcases h.at k with x | ⟨_, x⟩
        · rw [pad4_get k hk] at x ⊢
          exact (h.all (E.getD k ze) (by rw [List.getD_eq_getElem?_getD, List.getElem?_eq_getElem hk]; exact List.getElem_mem hk)).pos
        · exact x.pos
    · rw [if_pos (by rw [pad4_past k (by omega)]; rfl)]
      omega
theorem EntsOK.lenOf (h : EntsOK E) : lenOf (pad4 E) = E.length := lenFrom_pad h 4 0 rfl (Nat.zero_le _)
theorem pad4_take : (pad4 E).take E.length = E := by unfold pad4; rw [List.take_left]
theorem EntsOK.picFirsts {C : List Clus} (h : EntsOK E) (hc : cl C 5 = listBytes E) : picFirsts C = E.map (·.first) := by
  unfold Go.Proofs.YtknjjjenklfeoaaGreatDoor.picFirsts
  rw [hc, h.entsOf, h.lenOf, pad4_take]
end
end Go.Proofs.YtknjjjenklfeoaaGreatDoor

/-
  Plain: what is in a file behind puts: the clusters, the counts, the head.
-/
namespace Go.Proofs.YtknjjjenklfeoaaGreatDoor
open Go.RowKit

theorem growTo_same {l : List Clus} {n : Nat} (h : n ≤ l.length) : growTo l n = l := by
  unfold growTo
  rw [show n - l.length = 0 by omega]
  simp
theorem cl_growTo {l : List Clus} (n t : Nat) (ht : t < l.length) : cl (growTo l n) t = cl l t := by
  unfold cl growTo
  rw [List.getD_eq_getElem?_getD, List.getElem?_append_left ht, List.getD_eq_getElem?_getD]
theorem set_cl {l : List Clus} {n : Nat} (h : n < l.length) : l.set n (cl l n) = l := by
  apply List.ext_getElem?
  intro i
  rw [List.getElem?_set]
  by_cases e : n = i
  · subst e
    rw [if_pos rfl, if_pos h, cl, List.getD_eq_getElem?_getD, List.getElem?_eq_getElem h]
    rfl
  · rw [if_neg e]
theorem putV_C (V : VolR) (n : Nat) (d : Clus) : (putV V n d).C = (growTo V.C (n + 1)).set n d := by
  unfold putV
  by_cases hc : n < V.C.length ∧ cl V.C n = d
  · rw [if_pos hc, growTo_same (by omega), ← hc.2, set_cl hc.1]
  · rw [if_neg hc]; rfl
theorem cl_putV_at (V : VolR) (n : Nat) (d : Clus) : cl (putV V n d).C n = d := by
  rw [putV_C, cl_setN _ _ _ _ (by rw [growTo_length]; omega), if_pos rfl]
theorem cl_putV_ne (V : VolR) (n : Nat) (d : Clus) (t : Nat) (ht : t < V.C.length) (hne : n ≠ t) : cl (putV V n d).C t = cl V.C t := by
  rw [putV_C, cl_setN _ _ _ _ (by rw [growTo_length]; omega), if_neg hne, cl_growTo _ _ ht]
theorem putV_lens {V : VolR} (hl : ∀ c ∈ V.C, c.length = 64) (n : Nat) (d : Clus) (hd : d.length = 64) : ∀ c ∈ (putV V n d).C, c.length = 64 := by
  rw [putV_C]
  intro c hc
  rcases List.mem_or_eq_of_mem_set hc with h | h
  · exact growTo_lens hl _ c h
  · rw [h]; exact hd

theorem putCnt_len {V : VolR} (k : List UInt8) (h5 : 5 ≤ V.C.length) : ∀ p, p ≤ 4 → (putCnt V k p).C.length = V.C.length
  | 0, _ => rfl
  | p + 1, hp => by
    rw [putCnt, putV_lenC, putCnt_len k h5 p (by omega)]
    omega
theorem cl_putCnt {V : VolR} (k : List UInt8) (h5 : 5 ≤ V.C.length) (t : Nat) (ht : t < V.C.length) : ∀ p, p ≤ 4 → cl (putCnt V k p).C t = if 1 ≤ t ∧ t ≤ p then partOf k (t - 1) else cl V.C t
  | 0, _ => by rw [if_neg (by omega)]; rfl
  | p + 1, hp => by
    have ih := cl_putCnt k h5 t ht p (by omega)
    rw [putCnt]
    by_cases e : 1 + p = t
    · subst e
      rw [cl_putV_at, if_pos (by omega), show 1 + p - 1 = p by omega]
    · rw [cl_putV_ne _ _ _ _ (by rw [putCnt_len k h5 p (by omega)]; exact ht) e, ih]
      by_cases h1 : 1 ≤ t ∧ t ≤ p
      · rw [if_pos h1, if_pos (by omega)]
      · rw [if_neg h1, if_neg (by omega)]
theorem putCnt_lens {V : VolR} (hl : ∀ c ∈ V.C, c.length = 64) (k : List UInt8) (hk : k.length = 256) : ∀ p, p ≤ 4 → ∀ c ∈ (putCnt V k p).C, c.length = 64
  | 0, _ => hl
  | p + 1, hp => putV_lens (putCnt_lens hl k hk p (by omega)) _ _ (partOf_length k p hk (by omega))
theorem byteAt_part (k : List UInt8) (n : Nat) : byteAt (partOf k (n / 64)) (n % 64) = byteAt k n := by
  unfold byteAt partOf
  rw [List.getD_eq_getElem?_getD, List.getElem?_take_of_lt (by omega), List.getElem?_drop, List.getD_eq_getElem?_getD]
  congr 3
  omega
theorem countOf_putCnt {V : VolR} (k : List UInt8) (h5 : 5 ≤ V.C.length) (n : Nat) (hn : n < 256) : countOf (putCnt V k 4).C n = byteAt k n := by
  unfold countOf
  rw [cl_putCnt k h5 _ (by omega) 4 (by omega), if_pos (by omega), show 1 + n / 64 - 1 = n / 64 by omega, byteAt_part]
theorem byteAt_ones (m : Nat) : ∀ (F : List Nat) (k : List UInt8), k.length = 256 → (∀ n ∈ F, n < 256) → byteAt (ones k F) m = if m ∈ F then 1 else byteAt k m
  | [], k, _, _ => by simp [ones]
  | a :: r, k, hk, hF => by
    have ih := byteAt_ones m r (k.set a 1) (by simpa using hk) (fun n hn => hF n (by simp [hn]))
    have e : ones k (a :: r) = ones (k.set a 1) r := rfl
    rw [e, ih]
    by_cases hm : m ∈ r
    · rw [if_pos hm, if_pos (by simp [hm])]
    · rw [if_neg hm, byteAt_set _ _ _ _ (by have := hF a (by simp); omega)]
      by_cases ha : a = m
      · subst ha; rw [if_pos rfl, if_pos (by simp)]; rfl
      · rw [if_neg ha, if_neg (by simp [hm]; exact fun x => ha x.symm)]

theorem lowTo_zero (c : List UInt8) (want : Nat) : ∀ k, ∀ n ∈ lowTo c want k, byteAt c n = 0
  | 0, n, hn => by simp [lowTo] at hn
  | k + 1, n, hn => by
    rw [lowTo] at hn
    split at hn
    · exact lowTo_zero c want k n hn
    · split at hn
      · rename_i _ h0
        rcases List.mem_append.1 hn with h | h
        · exact lowTo_zero c want k n h
        · rw [List.mem_singleton.1 h]; exact h0
      · exact lowTo_zero c want k n hn
theorem lowTo_pair (c : List UInt8) (want : Nat) : ∀ k, (lowTo c want k).Pairwise (· < ·)
  | 0 => by simp [lowTo]
  | k + 1 => by
    rw [lowTo]
    split
    · exact lowTo_pair c want k
    · split
      · rw [List.pairwise_append]
        refine ⟨lowTo_pair c want k, by simp, fun a ha b hb => ?_⟩
        rw [List.mem_singleton.1 hb]
        exact lowTo_lt c want k a ha
      · exact lowTo_pair c want k
theorem lowFree_one {c : List UInt8} (h : 0 < (lowFree c 1).length) : ∃ n, lowFree c 1 = [n] ∧ n < 256 ∧ byteAt c n = 0 := by
  have h1 : (lowFree c 1).length ≤ 1 := (lowTo_le c 1 256).1
  obtain ⟨n, hn⟩ := List.length_eq_one_iff.1 (show (lowFree c 1).length = 1 by omega)
  exact ⟨n, hn, lowFree_lt c 1 n (by rw [hn]; simp), lowTo_zero c 1 256 n (by show n ∈ lowFree c 1; rw [hn]; simp)⟩
theorem lowFree_two {c : List UInt8} (h : 2 ≤ (lowFree c 2).length) : ∃ s n, lowFree c 2 = [s, n] ∧ s < n ∧ n < 256 ∧ byteAt c s = 0 ∧ byteAt c n = 0 := by
  have h1 : (lowFree c 2).length ≤ 2 := (lowTo_le c 2 256).1
  obtain ⟨s, n, hn⟩ : ∃ s n, lowFree c 2 = [s, n] := by
    match hl : lowFree c 2, (show (lowFree c 2).length = 2 by omega) with
    | [s, n], _ => exact ⟨s, n, rfl⟩
  have hp := lowTo_pair c 2 256
  have hp' : (lowFree c 2).Pairwise (· < ·) := hp
  rw [hn] at hp'
  exact ⟨s, n, hn, by simpa using hp', lowFree_lt c 2 n (by rw [hn]; simp), lowTo_zero c 2 256 s (by show s ∈ lowFree c 2; rw [hn]; simp), lowTo_zero c 2 256 n (by show n ∈ lowFree c 2; rw [hn]; simp)⟩
/-- Where fewer than wanted are found, those are all. -/
theorem lowTo_all (c : List UInt8) (want : Nat) : ∀ k, (lowTo c want k).length < want → (lowTo c want k).length = cntTo (fun m => byteAt c m == 0) k
  | 0, _ => rfl
  | k + 1, h => by
    rw [lowTo] at h ⊢
    simp only [cntTo]
    split at h
    · omega
    · rename_i hw
      rw [if_neg hw]
      have hk := (lowTo_le c want k).1
      have ih := lowTo_all c want k (by omega)
      split at h
      · rename_i h0
        rw [if_pos h0, if_pos (by simpa using h0), List.length_append, ih]; rfl
      · rename_i h0
        rw [if_neg h0, if_neg (by simpa using h0), ih]; rfl
end Go.Proofs.YtknjjjenklfeoaaGreatDoor

/-
  Plain: the head as it is written.
-/
namespace Go.Proofs.YtknjjjenklfeoaaGreatDoor
open Go.RowKit

def head0 : Clus := velm ++ List.replicate 60 0
theorem head0_length : head0.length = 64 := rfl
theorem byteAt_putNum (c : Clus) (k n m : Nat) (hk : k + 1 < c.length) (hn : n < 65536) : byteAt (putNum c k n) m = if m = k then n / 256 else if m = k + 1 then n % 256 else byteAt c m := by
  have e1 : (UInt8.ofNat (n / 256)).toNat = n / 256 := by rw [UInt8.toNat_ofNat']; omega
  have e2 : (UInt8.ofNat (n % 256)).toNat = n % 256 := by rw [UInt8.toNat_ofNat']; omega
  unfold putNum
  rw [byteAt_set _ _ _ _ (by simpa using hk), byteAt_set _ _ _ _ (by omega), e1, e2]
  by_cases h1 : m = k
  · subst h1; rw [if_neg (by omega), if_pos rfl, if_pos rfl]
  · rw [if_neg h1]
    by_cases h2 : m = k + 1
    · subst h2; rw [if_pos rfl, if_pos rfl]
    · rw [if_neg (fun e => h2 e.symm), if_neg (fun e => h1 e.symm), if_neg h2]
section
variable {a b : Nat}
theorem byteAt_head (ha : a < 65536) (hb : b < 65536) (m : Nat) : byteAt (headBytes a b) m = if m = 6 then b / 256 else if m = 7 then b % 256 else if m = 4 then a / 256 else if m = 5 then a % 256 else byteAt head0 m := by
  unfold headBytes
  rw [byteAt_putNum _ 6 b m (by rw [putNum_length]; decide) hb, byteAt_putNum _ 4 a m (by decide) ha]
  rfl
theorem num_head4 (ha : a < 65536) (hb : b < 65536) : num (headBytes a b) 4 = a := by
  unfold num
  rw [byteAt_head ha hb, byteAt_head ha hb]
  simp only [show ¬ (4 = 6) by decide, show ¬ (4 = 7) by decide, show ¬ (4 + 1 = 6) by decide, show ¬ (4 + 1 = 7) by decide, show ¬ (4 + 1 = 4) by decide, if_true, if_false]
  omega
theorem num_head6 (ha : a < 65536) (hb : b < 65536) : num (headBytes a b) 6 = b := by
  unfold num
  rw [byteAt_head ha hb, byteAt_head ha hb]
  simp only [show ¬ (6 + 1 = 6) by decide, if_true, if_false]
  omega
theorem restZero_of (c : Clus) : ∀ m i, (∀ j, i ≤ j → j < i + m → byteAt c j = 0) → restZero c m i = true
  | 0, _, _ => rfl
  | m + 1, i, h => by
    rw [restZero, if_pos (h i (by omega) (by omega))]
    exact restZero_of c m (i + 1) (fun j h1 h2 => h j (by omega) (by omega))
theorem head0_rest : ∀ j : Fin 64, 8 ≤ j.val → byteAt head0 j.val = 0 := by decide
theorem head_rest (ha : a < 65536) (hb : b < 65536) : restZero (headBytes a b) 56 8 = true :=
  restZero_of _ _ _ fun j h1 h2 => by
    rw [byteAt_head ha hb, if_neg (by omega), if_neg (by omega), if_neg (by omega), if_neg (by omega)]
    exact head0_rest ⟨j, by omega⟩ h1
theorem head_velm : (headBytes a b).take 4 = velm := by
  unfold headBytes putNum
  rw [List.take_set_of_le (by omega), List.take_set_of_le (by omega), List.take_set_of_le (by omega), List.take_set_of_le (by omega)]
  rfl
end
theorem padTo_same {C : List Clus} : padTo C C.length = C := by
  unfold padTo
  apply List.ext_getElem?
  intro i
  rw [List.getElem?_map]
  by_cases h : i < C.length
  · rw [List.getElem?_range h, Option.map_some, if_pos h, cl, List.getD_eq_getElem?_getD, List.getElem?_eq_getElem h]; rfl
  · rw [List.getElem?_eq_none (by simpa using h), List.getElem?_eq_none (by omega)]; rfl

end Go.Proofs.YtknjjjenklfeoaaGreatDoor

/-
  The reference's Write; and, where there are no pictures, Copied, Same, and Disk of a file.
-/
namespace Go.Proofs.YtknjjjenklfeoaaGreatDoor
open Go.RowKit
attribute [local go_sem ↓] loadVar_clus storeVar_clus zeroValue_clus loadVar_cont storeVar_cont zeroValue_cont build_disk equalIn_cont
attribute [local go_sem] run_loadClus run_storeClus run_zeroClus run_storeClus_new run_loadClus_new zc_length run_loadCont run_storeCont run_zeroCont run_bDisk

theorem setList_flatC_tail (D : List Clus) (hD : ∀ c ∈ D, c.length = 64) (k : Nat) (hk : k < D.length) (c : Clus) (hc : c.length = 64) (rest : List Value) : setList (flatC D ++ rest).toArray (k * 64) (cv c) = (flatC (D.set k c) ++ rest).toArray := by
  have hl := flatC_length D hD
  have e := setList_flatC D hD k hk c hc
  have hl' : (flatC (D.set k c)).length = (flatC D).length := by
    have := congrArg Array.size e
    rw [setList_size] at this
    simpa using this.symm
  apply Array.ext_getElem?
  intro i
  have e2 : (setList (flatC D).toArray (k * 64) (cv c))[i]? = (flatC (D.set k c)).toArray[i]? := by rw [e]
  rw [setList_get (cv c) _ _ i (by rw [cv_length, hc]; simp; omega), List.getElem?_toArray, List.getElem?_toArray] at e2
  rw [setList_get (cv c) _ _ i (by rw [cv_length, hc]; simp; omega), List.getElem?_toArray, List.getElem?_toArray]
  by_cases hi : i < (flatC D).length
  · rw [List.getElem?_append_left (by omega), List.getElem?_append_left (by omega)]; exact e2
  · rw [if_neg (by rw [cv_length, hc]; omega), List.getElem?_append_right (by omega), List.getElem?_append_right (by omega), hl']
theorem DiskAt.setBlock {w : World} {d : Nat} {Pv : Value} {D : DiskR} (h : DiskAt w d Pv D) (k : Nat) (hk : k < 64) (c : Clus) (hc : c.length = 64) : DiskAt (w.setCells d (k * 64) (cv c)) d Pv { D with C := D.C.set k c } := by
  have hkl : k < D.C.length := by have := h.cont.len; omega
  have hkept : Kept (fun x => x = d) w (w.setCells d (k * 64) (cv c)) := (Kept.refl (fun x => x = d) w).setCells (b := d) (Or.inl rfl) _ _
  refine ⟨?_, ownsRow_kept hkept h.row h.neP, ⟨?_, by simp [h.cont.len]⟩, h.pics⟩
  · rw [heap_setCells_same _ _ _ _ _ _ _ h.blk]
    rw [diskCells, setList_flatC_tail D.C h.cont.all k hkl c hc]
    rfl
  · intro x hx
    rcases List.mem_or_eq_of_mem_set hx with y | y
    · exact h.cont.all x y
    · rw [y]; exact hc

def refWriteR (D : DiskR) (n : Int) (c : Clus) : DiskR × Nat := if blockB n then ({ D with C := D.C.set n.toNat c }, 0) else (D, 1)
set_option maxHeartbeats 1000000 in
set_option maxRecDepth 100000 in
theorem refWrite_any (w : World) (d : Nat) (Pv : Value) (D : DiskR) (h : DiskAt w d Pv D) (n : Int) (c : Clus) (hc : c.length = 64) :
    Calls Tryz.prog 118 #[.pointer (some ⟨d, 0, none⟩), .int .i64 n, .agg (cv c).toArray] w fun e w' =>
      e = .returned (.int .i64 ((refWriteR D n c).2 : Nat)) ∧ DiskAt w' d Pv (refWriteR D n c).1 ∧ Kept (fun x => x = d) w w' := by
  have hB : Below w.heap.size w (w.alloc (.cells (cv c).toArray 38)) := (Below.refl _ _).alloc (Nat.le_refl _) _
  have hW := h.below hB
  have hbx : (w.alloc (.cells (cv c).toArray 38)).heap[w.heap.size]? = some (.cells (cv c).toArray 38 (0, 0)) := heap_alloc_new _ _
  have Hi := hide (isBlock_any n (w.alloc (.cells (cv c).toArray 38)))
  have Hr : Hid (refWriteR D n c = if blockB n then ({ D with C := D.C.set n.toNat c }, 0) else (D, 1)) := rfl
  cases hb : blockB n with
  | false =>
    rw [hb] at Hi Hr
    rw [if_neg (by decide)] at Hr
    have HW := hide hW
    have HB := hide hB
    clear hW hbx hB
    go_enter Tryz.func118, Tryz.ntmps118
    go_wp2_with fail
    refine (unhide Hi).mono ?_
    rintro e w1 ⟨rfl, rfl⟩
    go_wp2
    go_ret
    rw [unhide Hr]
    exact ⟨rfl, unhide HW, Kept.of_below (unhide HB)⟩
  | true =>
    rw [hb] at Hi Hr
    rw [if_pos rfl] at Hr
    have hn : 0 ≤ n ∧ n < 64 := by simpa [blockB] using hb
    obtain ⟨k, rfl⟩ := Int.eq_ofNat_of_zero_le hn.1
    rw [Int.toNat_natCast] at Hr
    have hk : k < 64 := by omega
    have hki : (k : Int) < 64 := by omega
    have HW := hide hW
    have HB := hide hB
    clear hb hn
    have l1 : HasAt (w.alloc (.cells (cv c).toArray 38)).drew w.heap.size 0 64 := box_has hbx hc
    have l2 : cellsAt (w.alloc (.cells (cv c).toArray 38)).drew w.heap.size 0 64 = cv c := box_cells hbx hc
    have ht : (w.alloc (.cells (cv c).toArray 38)).drew.there d (k * 64) 64 := there_blk (w := w.alloc (.cells (cv c).toArray 38)) hW.blk _ _ (by simp [diskCells, hW.cont.flat]; omega)
    have Hs := hide ((unhide HW).kept (S := fun _ => False) ((Kept.refl _ _).drew) id (fun _ _ => id))
    clear hW hbx hB
    go_enter Tryz.func118, Tryz.ntmps118
    go_wp2_with fail
    refine (unhide Hi).mono ?_
    rintro e w1 ⟨rfl, rfl⟩
    clear Hi
    generalize w.alloc (.cells (cv c).toArray 38) = W at *
    go_wp2
    go_region
    all_goals
      go_wp2
      go_ret
      rw [unhide Hr]
      exact ⟨rfl, (unhide Hs).setBlock k hk c hc, Kept.setCells (S := fun x => x = d) (Kept.of_below (unhide HB)).drew (b := d) (Or.inl rfl) _ _⟩

set_option maxHeartbeats 1000000 in
set_option maxRecDepth 100000 in
theorem copied_none (w : World) (d : Nat) (Pv : Value) (D : DiskR) (h : DiskAt w d Pv D) (h0 : D.L = []) :
    Calls Tryz.prog 58 #[.pointer (some ⟨d, 0, none⟩)] w fun e w' =>
      e = .returned (.pointer (some ⟨w.heap.size, 0, none⟩)) ∧ DiskAt w' w.heap.size (.slice none 0 0) D ∧ Below w.heap.size w w' := by
  obtain ⟨C, L⟩ := D
  simp only at h0
  subst h0
  have l1 := h.has
  have l2 := h.cells
  have hA := h.cont.all
  have hl := h.cont.len
  obtain ⟨a, cap, hPv⟩ := row_form h.row
  subst hPv
  have c0 := h.cPv
  have c1 : ∀ o, (w.alloc o).cell? ⟨d, 4096, none⟩ = some (.slice a 0 cap) := fun o => by rw [World.cell?_alloc_lt _ _ _ h.lt]; exact c0
  have hN : DiskAt (w.alloc (.cells (diskCells ⟨C, []⟩ (.slice none 0 0)).toArray 70)) w.heap.size (.slice none 0 0) ⟨C, []⟩ := ⟨heap_alloc_new _ _, World.ownsRow_nil _ _ _ _, h.cont, fun p hp => by cases hp⟩
  have HN := hide hN
  clear hN h
  simp only at l2 hA hl
  go_enter Tryz.func58, Tryz.ntmps58
  go_wp2
  go_loopw [4] (fun i w' => i = .int .i64 0 ∧ w' = w.alloc (.cells (diskCells ⟨C, []⟩ (.slice none 0 0)).toArray 70)) (fun _ _ => 0)
  case atStart => exact ⟨rfl, rfl⟩
  case round =>
    obtain ⟨rfl, rfl⟩ := hrel
    go_wp2
    go_ret
    exact ⟨rfl, unhide HN, (Below.refl _ _).alloc (Nat.le_refl _) _⟩

def sameB (D E : DiskR) : Bool := decide (D.C = E.C)
set_option maxHeartbeats 1000000 in
set_option maxRecDepth 100000 in
theorem same_none (w : World) (d e' : Nat) (Pv Qv : Value) (D E : DiskR) (h : DiskAt w d Pv D) (k : DiskAt w e' Qv E) (h0 : D.L = []) (k0 : E.L = []) :
    Calls Tryz.prog 59 #[.pointer (some ⟨d, 0, none⟩), .pointer (some ⟨e', 0, none⟩)] w fun e w' =>
      e = .returned (.bool (sameB D E)) ∧ Below w.heap.size w w' := by
  obtain ⟨C, L⟩ := D
  obtain ⟨C2, L2⟩ := E
  simp only at h0 k0
  subst h0
  subst k0
  obtain ⟨a, cap, hPv⟩ := row_form h.row
  subst hPv
  obtain ⟨a2, cap2, hQv⟩ := row_form k.row
  subst hQv
  have c0 := h.cPv
  have c1 := k.cPv
  have l1 : ∀ n, HasAt (w.drewN n) d 0 4096 := fun n => h.has
  have l2 : ∀ n, cellsAt (w.drewN n) d 0 4096 = flatC C := fun n => h.cells
  have l3 : ∀ n, HasAt (w.drewN n) e' 0 4096 := fun n => k.has
  have l4 : ∀ n, cellsAt (w.drewN n) e' 0 4096 = flatC C2 := fun n => k.cells
  have he : ∀ w, (eqCont (.agg (flatC C).toArray) (.agg (flatC C2).toArray)).run Tryz.prog w = .ok (decide (C = C2)) w := fun w => run_eqCont h.cont.all k.cont.all h.cont.len k.cont.len w
  have Hs : Hid (sameB ⟨C, []⟩ ⟨C2, []⟩ = decide (C = C2)) := rfl
  clear h k
  by_cases hcc : C = C2
  · rw [decide_eq_true hcc] at he Hs
    clear hcc
    go_enter Tryz.func59, Tryz.ntmps59
    go_wp2
    go_quiet (fail)
    go_wp2
    go_loopw [5] (fun i w' => i = .int .i64 0 ∧ w' = w.drewN nq) (fun _ _ => 0)
    case atStart => exact ⟨rfl, rfl⟩
    case round =>
      obtain ⟨rfl, rfl⟩ := hrel
      go_wp2
      go_ret
      exact ⟨by rw [unhide Hs]; rfl, ((Kept.refl (fun _ => False) w).drewN nq).below⟩
  · rw [decide_eq_false hcc] at he Hs
    clear hcc
    go_enter Tryz.func59, Tryz.ntmps59
    go_wp2
    go_quiet (fail)
    go_wp2
    go_ret
    exact ⟨by rw [unhide Hs]; rfl, ((Kept.refl (fun _ => False) w).drewN nq).below⟩

def diskOf (R : FileR) : DiskR := ⟨contentOf R.L (rootOf R 0).N, (List.range (R.roots.length - 1)).map fun i => ⟨(rootOf R (i + 1)).name, contentOf R.L (rootOf R (i + 1)).N⟩⟩
set_option maxHeartbeats 1000000 in
set_option maxRecDepth 100000 in
theorem disk_none (w : World) (f : Nat) (Lv Rv : Value) (R : FileR) (h : FileAt w f Lv Rv R) (hin : InFile R.L (rootOf R 0).N) (hLL : R.L.length ≤ 256) (hr : R.roots.length = 1) :
    Calls Tryz.prog 43 #[.pointer (some ⟨f, 0, none⟩)] w fun e w' =>
      ∃ d, e = .returned (.pointer (some ⟨d, 0, none⟩)) ∧ w.heap.size ≤ d ∧ DiskAt w' d (.slice none 0 0) (diskOf R) ∧ Below w.heap.size w w' := by
  have hlens : ∀ c ∈ contentOf R.L (rootOf R 0).N, c.length = 64 := by rw [← contTo_all]; exact contTo_lens h.lens hin 64
  have hl64 : (contentOf R.L (rootOf R 0).N).length = 64 := by simp [contentOf]
  have hA : All64 (contentOf R.L (rootOf R 0).N) := hlens
  have hd : diskOf R = ⟨contentOf R.L (rootOf R 0).N, []⟩ := by unfold diskOf; rw [hr]; rfl
  have Hd := hide hd
  obtain ⟨g2, cap2, rfl, _⟩ := row_some h.rowR (by omega)
  have c1 := h.cRv
  have r0 := root_cell h.rowR 0 (by omega) 0 (by omega)
  have r1 := root_cell h.rowR 0 (by omega) 1 (by omega)
  have r2 := root_cell h.rowR 0 (by omega) 2 (by omega)
  rw [show R.roots.getD 0 ⟨0, 0, []⟩ = rootOf R 0 from rfl] at r0 r1 r2
  simp only [rootCells, List.getElem?_cons_zero, List.getElem?_cons_succ, Nat.add_zero, Nat.zero_mul, Nat.zero_add] at r0 r1 r2
  have hri : (R.roots.length : Int) = 1 := by omega
  have Hc := hide (content_any w f Lv _ R (rootOf R 0) h hin hLL)
  unfold rootCells at Hc
  rw [hr] at c1
  have Hh := hide h
  clear h hlens hd hri
  go_enter Tryz.func43, Tryz.ntmps43
  go_wp2_with fail
  refine (unhide Hc).mono ?_
  rintro e w1 ⟨rfl, hb⟩
  have hF1 := (unhide Hh).below hb
  have c2 := hF1.cRv
  rw [hr] at c2
  have c3 : ∀ o, (w1.alloc o).cell? ⟨f, 1, none⟩ = some (.slice (some ⟨g2, 0, none⟩) 1 cap2) := fun o => by rw [World.cell?_alloc_lt _ _ _ hF1.lt]; exact c2
  have hN : DiskAt (w1.alloc (.cells (diskCells ⟨contentOf R.L (rootOf R 0).N, []⟩ (.slice none 0 0)).toArray 70)) w1.heap.size (.slice none 0 0) ⟨contentOf R.L (rootOf R 0).N, []⟩ := ⟨heap_alloc_new _ _, World.ownsRow_nil _ _ _ _, ⟨hA, hl64⟩, fun p hp => by cases hp⟩
  have HN := hide hN
  have HB := hide hb
  clear hN Hc r0 r1 r2 c1 hb hF1 Hh
  generalize contentOf R.L (rootOf R 0).N = C at *
  go_wp2
  go_loopw [4] (fun i w' => i = .int .i64 1 ∧ w' = w1.alloc (.cells (diskCells ⟨C, []⟩ (.slice none 0 0)).toArray 70)) (fun _ _ => 0)
  case atStart => exact ⟨rfl, rfl⟩
  case round =>
    obtain ⟨rfl, rfl⟩ := hrel
    go_wp2
    go_ret
    refine ⟨w1.heap.size, rfl, (unhide HB).size, by rw [unhide Hd]; exact unhide HN, (unhide HB).alloc (unhide HB).size _⟩
end Go.Proofs.YtknjjjenklfeoaaGreatDoor
