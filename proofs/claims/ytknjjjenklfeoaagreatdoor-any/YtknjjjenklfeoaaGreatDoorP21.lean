import Derived.Test.YtknjjjenklfeoaaGreatDoorP20
/-
  Plain: a file that differs from an exact one in blocks alone is exact.
-/
namespace Go.Proofs.YtknjjjenklfeoaaGreatDoor

theorem inTells_same {L L' : List Clus} {t : Nat} (h : cl L' t = cl L t) : ∀ m k, inTells L' t m k = inTells L t m k
  | 0, _ => rfl
  | m + 1, k => by rw [inTells, inTells, h, inTells_same h m (k + 1)]
theorem outTells_same {L L' : List Clus} {t : Nat} (h : cl L' t = cl L t) : ∀ m i, (∀ x ∈ outTells L t m i, x.2 = 2 → cl L' x.1 = cl L x.1) → outTells L' t m i = outTells L t m i
  | 0, _, _ => rfl
  | m + 1, i, hx => by
    rw [outTells] at hx
    rw [outTells, outTells, h, outTells_same h m (i + 1) (fun x hm => hx x (List.mem_append.2 (Or.inr hm)))]
    by_cases h0 : num (cl L t) (2 * i) = 0
    · rw [if_pos h0, if_pos h0]
    · rw [if_neg h0] at hx
      rw [if_neg h0, if_neg h0, inTells_same (hx (num (cl L t) (2 * i) % 32768, 2) (by simp) rfl)]
/-- Two files of one length, alike in all tables that are told, and in the six. -/
structure Alike (L L' : List Clus) (ts : Tells) : Prop where
  len : L'.length = L.length
  six : ∀ t, t < 6 → cl L' t = cl L t
  tab : ∀ x ∈ ts, (x.2 = 1 ∨ x.2 = 2) → cl L' x.1 = cl L x.1
theorem treeTells_same {L L' : List Clus} {t : Nat} (h : ∀ x ∈ treeTells L t, (x.2 = 1 ∨ x.2 = 2) → cl L' x.1 = cl L x.1) : treeTells L' t = treeTells L t := by
  unfold treeTells at h ⊢
  rw [outTells_same (h (t, 1) (by simp) (Or.inl rfl)) 32 0 (fun x hx h2 => h x (by simp [hx]) (Or.inr h2))]
theorem allTells_same {L L' : List Clus} {rs : List RootR} : ∀ m i, (∀ x ∈ allTells L rs m i, (x.2 = 1 ∨ x.2 = 2) → cl L' x.1 = cl L x.1) → allTells L' rs m i = allTells L rs m i
  | 0, _, _ => rfl
  | m + 1, i, h => by
    rw [allTells] at h
    rw [allTells, allTells, treeTells_same (fun x hx => h x (List.mem_append.2 (Or.inl hx))), allTells_same m (i + 1) (fun x hx => h x (List.mem_append.2 (Or.inr hx)))]
theorem countOf_same {L L' : List Clus} (h : ∀ t, t < 6 → cl L' t = cl L t) (n : Nat) (hn : n < 256) : countOf L' n = countOf L n := by
  unfold countOf
  rw [h (1 + n / 64) (by omega)]
theorem first_told (L : List Clus) (rs : List RootR) (i : Nat) (hi : i < rs.length) : ((rs.getD i ⟨0, 0, []⟩).N, 1) ∈ allTells L rs rs.length 0 :=
  allTells_mem L rs rs.length 0 i (by omega) (by omega) _ (by unfold treeTells; simp)
theorem second_told (L : List Clus) (rs : List RootR) (i : Nat) (hi : i < rs.length) (j : Nat) (hj : j < 32) (h0 : num (cl L (rs.getD i ⟨0, 0, []⟩).N) (2 * j) ≠ 0) : (num (cl L (rs.getD i ⟨0, 0, []⟩).N) (2 * j) % 32768, 2) ∈ allTells L rs rs.length 0 :=
  allTells_mem L rs rs.length 0 i (by omega) (by omega) _ (List.mem_cons.2 (Or.inr (outTells_mem L _ 32 0 j (by omega) (by omega) h0 _ (Or.inl rfl))))
theorem block_told (L : List Clus) (rs : List RootR) (i : Nat) (hi : i < rs.length) (j : Nat) (hj : j < 32) (h0 : num (cl L (rs.getD i ⟨0, 0, []⟩).N) (2 * j) ≠ 0) (k : Nat) (hk : k < 32) (h1 : num (cl L (num (cl L (rs.getD i ⟨0, 0, []⟩).N) (2 * j) % 32768)) (2 * k) ≠ 0) :
    (num (cl L (num (cl L (rs.getD i ⟨0, 0, []⟩).N) (2 * j) % 32768)) (2 * k) % 32768, 3) ∈ allTells L rs rs.length 0 :=
  allTells_mem L rs rs.length 0 i (by omega) (by omega) _ (List.mem_cons.2 (Or.inr (outTells_mem L _ 32 0 j (by omega) (by omega) h0 _ (Or.inr (inTells_mem L _ 32 0 k (by omega) (by omega) h1)))))

theorem getD_of_mem {rs : List RootR} {r : RootR} (h : r ∈ rs) : ∃ i, i < rs.length ∧ rs.getD i ⟨0, 0, []⟩ = r := by
  obtain ⟨i, hi, e⟩ := List.mem_iff_getElem.1 h
  exact ⟨i, hi, by rw [List.getD_eq_getElem?_getD, List.getElem?_eq_getElem hi, e]; rfl⟩

theorem ExactL.alike {L L' : List Clus} {rs : List RootR} (h : ExactL L rs) (ha : Alike L L' (allTells L rs rs.length 0)) : ExactL L' rs := by
  have e := allTells_same rs.length 0 ha.tab
  have hc := fun n hn => countOf_same ha.six n hn
  have hl := h.len
  have hf : ∀ i, i < rs.length → cl L' (rs.getD i ⟨0, 0, []⟩).N = cl L (rs.getD i ⟨0, 0, []⟩).N := fun i hi => ha.tab _ (first_told L rs i hi) (Or.inl rfl)
  refine ⟨by rw [ha.len]; exact h.len, by rw [ha.len]; exact h.six, ?_, ?_, ?_, ?_, ?_⟩
  · rw [e]
    exact ⟨fun x hx => by rw [ha.len]; exact h.ok.lo x hx, h.ok.kind, h.ok.once⟩
  · intro r hr i h1 h2
    obtain ⟨j, hj, rfl⟩ := getD_of_mem hr
    rw [hf j hj]
    exact h.zero _ hr i h1 h2
  · intro n hn
    rw [hc n hn, e]
    exact h.cnt n hn
  · intro n hn
    rw [hc n hn]
    exact h.top n hn
  · intro i hi j hj
    rw [hf i hi]
    have hm := h.mark i hi j hj
    refine ⟨fun h0 => ?_, fun h0 k hk h1 => ?_⟩
    · have hb := (h.ok.lo _ (second_told L rs i hi j (by omega) h0)).2.1
      simp only at hb
      rw [hc _ (by omega)]
      exact hm.1 h0
    · have hs := ha.tab _ (second_told L rs i hi j (by omega) h0) (Or.inr rfl)
      simp only at hs
      rw [hs] at h1 ⊢
      have hb := (h.ok.lo _ (block_told L rs i hi j (by omega) h0 k hk h1)).2.1
      simp only at hb
      rw [hc _ (by omega)]
      exact hm.2 h0 k hk h1
/-- A block is written over. -/
theorem ExactL.setBlock {L : List Clus} {rs : List RootR} (h : ExactL L rs) (n : Nat) (hn : (n, 3) ∈ allTells L rs rs.length 0) (data : Clus) : ExactL (L.set n data) rs := by
  have hb := h.ok.lo _ hn
  simp only at hb
  refine h.alike ⟨by simp, fun t ht => ?_, fun x hx h2 => ?_⟩
  · unfold cl
    rw [List.getD_eq_getElem?_getD, List.getElem?_set, if_neg (by omega), ← List.getD_eq_getElem?_getD]
  · have hne : n ≠ x.1 := by
      intro e
      have := h.ok.kind _ hn x hx e
      simp only at this
      omega
    unfold cl
    rw [List.getD_eq_getElem?_getD, List.getElem?_set, if_neg hne, ← List.getD_eq_getElem?_getD]
end Go.Proofs.YtknjjjenklfeoaaGreatDoor

/-
  Plain: counts and numbers as bytes and back; letting nothing go leaves an exact volume as it is.
-/
namespace Go.Proofs.YtknjjjenklfeoaaGreatDoor
open Go.RowKit

theorem setPart_get (k : List UInt8) (p : Nat) (c : Clus) (hk : k.length = 256) (hc : c.length = 64) (hp : p < 4) (j : Nat) : (setPart k p c)[j]? = if j < 64 * p then k[j]? else if j < 64 * p + 64 then c[j - 64 * p]? else k[j]? := by
  unfold setPart
  have hl : (k.take (64 * p)).length = 64 * p := by rw [List.length_take, hk]; omega
  rw [List.append_assoc, List.getElem?_append, hl]
  by_cases h1 : j < 64 * p
  · rw [if_pos h1, if_pos h1, List.getElem?_take, if_pos h1]
  · rw [if_neg h1, if_neg h1, List.getElem?_append, hc]
    by_cases h2 : j < 64 * p + 64
    · rw [if_pos h2, if_pos (by omega)]
    · rw [if_neg h2, if_neg (by omega), List.getElem?_drop]
      congr 1
      omega
theorem cntsTo_get (C : List Clus) (hl : ∀ c ∈ C, c.length = 64) (h5 : 5 ≤ C.length) : ∀ k, k ≤ 4 → ∀ j, j < 64 * k → (cntsTo C k)[j]? = (cl C (1 + j / 64))[j % 64]?
  | 0, _, j, hj => by omega
  | k + 1, hk, j, hj => by
    rw [cntsTo, setPart_get _ _ _ (cntsTo_length C hl h5 k (by omega)) (cl_length hl (by omega)) (by omega)]
    by_cases h1 : j < 64 * k
    · rw [if_pos h1]; exact cntsTo_get C hl h5 k (by omega) j h1
    · rw [if_neg h1, if_pos (by omega), show j / 64 = k by omega, show j % 64 = j - 64 * k by omega]
theorem byteAt_cnts {C : List Clus} (hl : ∀ c ∈ C, c.length = 64) (h5 : 5 ≤ C.length) (n : Nat) (hn : n < 256) : byteAt (cntsOf C) n = countOf C n := by
  unfold byteAt countOf cntsOf byteAt
  rw [List.getD_eq_getElem?_getD, cntsTo_get C hl h5 4 (by omega) n (by omega), List.getD_eq_getElem?_getD]
theorem part_cnts {C : List Clus} (hl : ∀ c ∈ C, c.length = 64) (h5 : 5 ≤ C.length) (p : Nat) (hp : p < 4) : partOf (cntsOf C) p = cl C (1 + p) := by
  refine List.ext_getElem? fun j => ?_
  have hcl := cl_length hl (show 1 + p < C.length by omega)
  by_cases hj : j < 64
  · unfold partOf cntsOf
    rw [List.getElem?_take, if_pos hj, List.getElem?_drop, cntsTo_get C hl h5 4 (by omega) _ (by omega), show (64 * p + j) / 64 = p by omega, show (64 * p + j) % 64 = j by omega]
  · rw [List.getElem?_eq_none (by rw [partOf_length _ _ (cntsOf_length C hl h5) hp]; omega), List.getElem?_eq_none (by omega)]
theorem putV_same (V : VolR) (n : Nat) (h : n < V.C.length) : putV V n (cl V.C n) = V := by unfold putV; rw [if_pos ⟨h, rfl⟩]
theorem putCnt_same {V : VolR} (hl : ∀ c ∈ V.C, c.length = 64) (h5 : 5 ≤ V.C.length) : ∀ p, p ≤ 4 → putCnt V (cntsOf V.C) p = V
  | 0, _ => rfl
  | p + 1, hp => by
    rw [putCnt, putCnt_same hl h5 p (by omega), part_cnts hl h5 p (by omega)]
    exact putV_same V (1 + p) (by omega)
theorem flushV_same {V : VolR} (h : V.loose = false) : flushV V = V := by unfold flushV; rw [if_neg (by rw [h]; decide)]

theorem clus_ext {c d : Clus} (hc : c.length = 64) (hd : d.length = 64) (h : ∀ i, i < 32 → num c (2 * i) = num d (2 * i)) : c = d := by
  have hb : ∀ i, i < 32 → byteAt c (2 * i) = byteAt d (2 * i) ∧ byteAt c (2 * i + 1) = byteAt d (2 * i + 1) := fun i hi => by
    have h0 := h i hi
    have h1 := byteAt_lt c (2 * i + 1)
    have h2 := byteAt_lt d (2 * i + 1)
    unfold num at h0
    omega
  refine List.ext_getElem (by rw [hc, hd]) fun j h1 h2 => ?_
  have hj : byteAt c j = byteAt d j := by
    obtain ⟨x, y⟩ := hb (j / 2) (by omega)
    by_cases e : j % 2 = 0
    · rw [show j = 2 * (j / 2) by omega]; exact x
    · rw [show j = 2 * (j / 2) + 1 by omega]; exact y
  unfold byteAt at hj
  rw [List.getD_eq_getElem?_getD, List.getD_eq_getElem?_getD, List.getElem?_eq_getElem h1, List.getElem?_eq_getElem h2] at hj
  exact UInt8.toNat_inj.1 hj
theorem bytes_nums {c : Clus} (hc : c.length = 64) : bytesOf (numsOf c) = c := by
  refine clus_ext (bytesOf_length _) hc fun i hi => ?_
  rw [num_bytesOf _ (fun i => numsOf_lt c i) i hi, numsOf_get c i hi]
theorem renumTab_nothing {ch : Nat → Nat} {V : VolR} {t : Nat} (ht : t < V.C.length) (hl : ∀ c ∈ V.C, c.length = 64) (h : ∀ i, i < 32 → num (cl V.C t) (2 * i) ≠ 0 → ch (num (cl V.C t) (2 * i)) = num (cl V.C t) (2 * i)) : renumTab ch V t = V := by
  have e : chgT ch (numsOf (cl V.C t)) = numsOf (cl V.C t) := by
    unfold chgT
    conv => rhs; rw [← List.map_id (numsOf (cl V.C t))]
    refine List.map_congr_left fun n hn => ?_
    obtain ⟨i, hi, rfl⟩ := List.mem_map.1 hn
    by_cases h0 : num (cl V.C t) (2 * i) = 0
    · rw [if_pos h0, h0]; rfl
    · rw [if_neg h0, h i (List.mem_range.1 hi) h0]; rfl
  unfold renumTab
  rw [e, bytes_nums (cl_length hl ht)]
  exact putV_same V t ht
theorem renumV_nothing {ch : Nat → Nat} {V : VolR} : ∀ ts : List Nat, (∀ t ∈ ts, renumTab ch V t = V) → renumV ch V ts = V
  | [], _ => rfl
  | t :: ts, h => by
    have h1 := renumV_nothing ts (fun x hx => h x (by simp [hx]))
    unfold renumV at h1 ⊢
    rw [List.foldl_cons, h t (by simp)]
    exact h1
theorem loneV_nothing {k : List UInt8} {V : VolR} : ∀ fs : List Nat, (∀ f ∈ fs, ∀ t ∈ tabsOf V f, renumTab (loneOf k) V t = V) → loneV k V fs = V
  | [], _ => rfl
  | f :: fs, h => by
    have h1 := loneV_nothing fs (fun x hx => h x (by simp [hx]))
    unfold loneV at h1 ⊢
    rw [List.foldl_cons, renumV_nothing _ (h f (by simp))]
    exact h1
theorem lone_right {C : List Clus} (hl : ∀ c ∈ C, c.length = 64) (h5 : 5 ≤ C.length) {x : Nat} (hx : x < 65536) (h0 : x ≠ 0) (hn : x % 32768 < 256) (hr : Right C x) : loneOf (cntsOf C) x = x := by
  have h := hr h0
  unfold loneOf
  rw [byteAt_cnts hl h5 _ hn]
  by_cases e : countOf C (x % 32768) = 1
  · have := h.2 e
    rw [if_pos e]
    omega
  · rw [if_neg e]
/-- The lone numbers of an exact file are marked already. -/
theorem ExactL.lone {V : VolR} {rs : List RootR} (h : ExactL V.C rs) (hl : ∀ c ∈ V.C, c.length = 64) (fs : List Nat) (hf : ∀ f ∈ fs, ∃ i, i < rs.length ∧ f = (rs.getD i ⟨0, 0, []⟩).N) : loneV (cntsOf V.C) V fs = V := by
  have h6 := h.six
  have h256 := h.len
  refine loneV_nothing fs fun f hfm t ht => ?_
  obtain ⟨i, hi, rfl⟩ := hf f hfm
  have hfirst := (h.ok.lo _ (first_told V.C rs i hi)).2.1
  have hz := h.zero (rs.getD i ⟨0, 0, []⟩) (by rw [List.getD_eq_getElem?_getD, List.getElem?_eq_getElem hi]; exact List.getElem_mem hi)
  rcases List.mem_cons.1 ht with rfl | ht
  · refine renumTab_nothing hfirst hl fun j hj h0 => ?_
    have hj2 : j < 2 := by
      rcases Nat.lt_or_ge j 2 with x | x
      · exact x
      · exact absurd (hz j (by omega) hj) h0
    have hs := (h.ok.lo _ (second_told V.C rs i hi j hj h0)).2.1
    simp only at hs
    exact lone_right hl (by omega) (num_lt _ _) h0 (by omega) (h.mark i hi j hj2).1
  · obtain ⟨x, hx, rfl⟩ := List.mem_map.1 ht
    obtain ⟨hx, hx0⟩ := List.mem_filter.1 hx
    obtain ⟨j, hj, rfl⟩ := List.mem_map.1 hx
    have hj := List.mem_range.1 hj
    have h0 : num (cl V.C (rs.getD i ⟨0, 0, []⟩).N) (2 * j) ≠ 0 := by simpa using hx0
    have hj2 : j < 2 := by
      rcases Nat.lt_or_ge j 2 with x | x
      · exact x
      · exact absurd (hz j (by omega) hj) h0
    have hs := (h.ok.lo _ (second_told V.C rs i hi j hj h0)).2.1
    simp only at hs
    refine renumTab_nothing hs hl fun k hk h1 => ?_
    have hb := (h.ok.lo _ (block_told V.C rs i hi j hj h0 k hk h1)).2.1
    simp only at hb
    exact lone_right hl (by omega) (num_lt _ _) h1 (by omega) ((h.mark i hi j hj2).2 h0 k hk)
/-- Nothing is let go, of an exact volume: it stays as it is. -/
theorem ExactL.letGo_nil {V : VolR} {rs : List RootR} (h : ExactL V.C rs) (hl : ∀ c ∈ V.C, c.length = 64) (hs : V.loose = false) (hf : ∀ f ∈ firstsOf V, ∃ i, i < rs.length ∧ f = (rs.getD i ⟨0, 0, []⟩).N) : letGoV1 V [] = V ∧ letGoV V [] = V := by
  have h6 := h.six
  have e1 : letGoV1 V [] = V := by
    unfold letGoV1
    rw [show minus (cntsOf V.C) [] = cntsOf V.C from rfl, putCnt_same hl (by omega) 4 (by omega), flushV_same hs]
  refine ⟨e1, ?_⟩
  unfold letGoV
  rw [e1]
  unfold markLoneV
  rw [h.lone hl _ hf, flushV_same hs]
end Go.Proofs.YtknjjjenklfeoaaGreatDoor

/-
  Plain: what an exact file gives the walks: all numbers lie in the file, tables are tables; a block written over is the content's.
-/
namespace Go.Proofs.YtknjjjenklfeoaaGreatDoor
open Go.RowKit

section
variable {L : List Clus} {rs : List RootR}
theorem ExactL.two (h : ExactL L rs) (i : Nat) (hi : i < rs.length) (j : Nat) (hj : j < 32) (h0 : num (cl L (rs.getD i ⟨0, 0, []⟩).N) (2 * j) ≠ 0) : j < 2 := by
  have hz := h.zero (rs.getD i ⟨0, 0, []⟩) (by rw [List.getD_eq_getElem?_getD, List.getElem?_eq_getElem hi]; exact List.getElem_mem hi)
  rcases Nat.lt_or_ge j 2 with x | x
  · exact x
  · exact absurd (hz j (by omega) hj) h0
theorem ExactL.inFile (h : ExactL L rs) (i : Nat) (hi : i < rs.length) : InFile L (rs.getD i ⟨0, 0, []⟩).N := by
  have h6 := h.six
  refine ⟨(h.ok.lo _ (first_told L rs i hi)).2.1, fun j hj h0 => (h.ok.lo _ (second_told L rs i hi j (by omega) h0)).2.1, fun j hj h0 k hk => ?_⟩
  by_cases h1 : num (cl L (num (cl L (rs.getD i ⟨0, 0, []⟩).N) (2 * j) % 32768)) (2 * k) = 0
  · rw [h1]; omega
  · exact (h.ok.lo _ (block_told L rs i hi j (by omega) h0 k hk h1)).2.1
end
theorem ExactL.firstOK {V : VolR} {rs : List RootR} (h : ExactL V.C rs) (i : Nat) (hi : i < rs.length) : FirstOK V (rs.getD i ⟨0, 0, []⟩).N := by
  have h256 := h.len
  have hf := h.ok.lo _ (first_told V.C rs i hi)
  simp only at hf
  have hsec : ∀ j, j < 32 → num (cl V.C (rs.getD i ⟨0, 0, []⟩).N) (2 * j) ≠ 0 → 6 ≤ num (cl V.C (rs.getD i ⟨0, 0, []⟩).N) (2 * j) % 32768 ∧ num (cl V.C (rs.getD i ⟨0, 0, []⟩).N) (2 * j) % 32768 < V.C.length := fun j hj h0 => by
    have := h.ok.lo _ (second_told V.C rs i hi j hj h0)
    exact ⟨this.1, this.2.1⟩
  have hblk : ∀ j, j < 32 → num (cl V.C (rs.getD i ⟨0, 0, []⟩).N) (2 * j) ≠ 0 → ∀ k, k < 32 → num (cl V.C (num (cl V.C (rs.getD i ⟨0, 0, []⟩).N) (2 * j) % 32768)) (2 * k) ≠ 0 → InR V (num (cl V.C (num (cl V.C (rs.getD i ⟨0, 0, []⟩).N) (2 * j) % 32768)) (2 * k) % 32768) := fun j hj h0 k hk h1 => by
    have := h.ok.lo _ (block_told V.C rs i hi j hj h0 k hk h1)
    exact ⟨this.1, this.2.1⟩
  have nums : ∀ (Pc : Nat → Prop) (t : Nat), (∀ j, j < 32 → num (cl V.C t) (2 * j) ≠ 0 → Pc (num (cl V.C t) (2 * j) % 32768)) → NumsOK Pc V.C t := by
    intro Pc t hp j
    by_cases hj : j < 32
    · rw [numsOf_get _ _ hj]; exact ⟨num_lt _ _, hp j hj⟩
    · rw [List.getD_eq_getElem?_getD, List.getElem?_eq_none (by rw [numsOf_length]; omega)]
      exact ⟨by decide, fun x => absurd rfl x⟩
  exact ⟨⟨⟨hf.1, hf.2.1⟩, nums _ _ hsec⟩, nums _ _ fun j hj h0 => ⟨hsec j hj h0, nums _ _ (hblk j hj h0)⟩⟩

/-- Where in a second table a cluster is told. -/
theorem count_in (L : List Clus) (t n : Nat) : ∀ m k, ((inTells L t m k).map (·.1)).count n = (List.range' k m).countP (fun j => decide (num (cl L t) (2 * j) ≠ 0 ∧ num (cl L t) (2 * j) % 32768 = n))
  | 0, _ => rfl
  | m + 1, k => by
    rw [inTells, List.map_append, List.count_append, count_in L t n m (k + 1), List.range'_succ, List.countP_cons, Nat.add_comm]
    congr 1
    by_cases h0 : num (cl L t) (2 * k) = 0
    · rw [if_pos h0, if_neg (by simp [h0])]; rfl
    · rw [if_neg h0]
      by_cases h1 : num (cl L t) (2 * k) % 32768 = n
      · rw [if_pos (by simp [h0, h1])]; simp [h1]
      · rw [if_neg (by simp [h1])]; simp [h1]
end Go.Proofs.YtknjjjenklfeoaaGreatDoor

/-
  Plain: a cluster that is counted once is told in one place.
-/
namespace Go.Proofs.YtknjjjenklfeoaaGreatDoor
open Go.RowKit

theorem countP_one (p : Nat → Bool) : ∀ l : List Nat, ∀ a ∈ l, p a = true → 1 ≤ l.countP p := by
  intro l a ha hp
  have := List.countP_pos_iff.2 ⟨a, ha, hp⟩
  omega
theorem countP_two (p : Nat → Bool) : ∀ l : List Nat, ∀ a ∈ l, ∀ b ∈ l, a ≠ b → p a = true → p b = true → 2 ≤ l.countP p
  | [], a, ha, _, _, _, _, _ => by simp at ha
  | x :: l, a, ha, b, hb, hne, hpa, hpb => by
    rw [List.countP_cons]
    rcases List.mem_cons.1 ha with rfl | ha'
    · rcases List.mem_cons.1 hb with rfl | hb'
      · exact absurd rfl hne
      · have := countP_one p l b hb' hpb
        rw [if_pos hpa]; omega
    · rcases List.mem_cons.1 hb with rfl | hb'
      · have := countP_one p l a ha' hpa
        rw [if_pos hpb]; omega
      · have := countP_two p l a ha' b hb' hne hpa hpb
        omega

/-- The number that stands for block b below the first table t. -/
def numAt (L : List Clus) (t b : Nat) : Nat := if num (cl L t) (2 * (b / 32)) = 0 then 0 else num (cl L (num (cl L t) (2 * (b / 32)) % 32768)) (2 * (b % 32))
def secOf (L : List Clus) (t i : Nat) : Tells := if num (cl L t) (2 * i) = 0 then [] else (num (cl L t) (2 * i) % 32768, 2) :: inTells L (num (cl L t) (2 * i) % 32768) 32 0
theorem outTells_two (L : List Clus) (t : Nat) : outTells L t 32 0 = secOf L t 0 ++ (secOf L t 1 ++ outTells L t 30 2) := rfl
def occ (ts : Tells) (n : Nat) : Nat := (ts.map (·.1)).count n
theorem occ_append (a b : Tells) (n : Nat) : occ (a ++ b) n = occ a n + occ b n := by unfold occ; rw [List.map_append, List.count_append]
theorem occ_tree (L : List Clus) (t n : Nat) : occ (secOf L t 0) n + occ (secOf L t 1) n ≤ occ (treeTells L t) n := by
  have e : treeTells L t = [(t, 1)] ++ (secOf L t 0 ++ (secOf L t 1 ++ outTells L t 30 2)) := by rw [treeTells, outTells_two]; rfl
  rw [e, occ_append, occ_append, occ_append]
  omega
theorem occ_all (L : List Clus) (rs : List RootR) (n : Nat) : ∀ m i j, i ≤ j → j < i + m → occ (treeTells L (rs.getD j ⟨0, 0, []⟩).N) n ≤ occ (allTells L rs m i) n
  | 0, _, _, h1, h2 => by omega
  | m + 1, i, j, h1, h2 => by
    rw [allTells, occ_append]
    by_cases e : j = i
    · subst e; omega
    · have := occ_all L rs n m (i + 1) j (by omega) (by omega)
      omega
theorem occ_sec (L : List Clus) (t i n : Nat) (h0 : num (cl L t) (2 * i) ≠ 0) :
    (List.range' 0 32).countP (fun j => decide (num (cl L (num (cl L t) (2 * i) % 32768)) (2 * j) ≠ 0 ∧ num (cl L (num (cl L t) (2 * i) % 32768)) (2 * j) % 32768 = n)) ≤ occ (secOf L t i) n := by
  rw [← count_in]
  unfold secOf occ
  rw [if_neg h0, List.map_cons, List.count_cons]
  omega
theorem numAt_ne {L : List Clus} {t b : Nat} (h : numAt L t b ≠ 0) : num (cl L t) (2 * (b / 32)) ≠ 0 ∧ numAt L t b = num (cl L (num (cl L t) (2 * (b / 32)) % 32768)) (2 * (b % 32)) := by
  unfold numAt at h ⊢
  by_cases e : num (cl L t) (2 * (b / 32)) = 0
  · rw [if_pos e] at h; exact absurd rfl h
  · rw [if_neg e]; exact ⟨e, rfl⟩
theorem occ_pos {L : List Clus} {t b n : Nat} (hb0 : numAt L t b ≠ 0) (hn : numAt L t b % 32768 = n) : 1 ≤ occ (secOf L t (b / 32)) n := by
  obtain ⟨b1, b2⟩ := numAt_ne hb0
  refine Nat.le_trans (countP_one _ _ (b % 32) ?_ ?_) (occ_sec L t (b / 32) n b1)
  · rw [List.mem_range'_1]; omega
  · rw [decide_eq_true_iff, ← b2]; exact ⟨hb0, hn⟩
theorem occ_two {L : List Clus} {t b c n : Nat} (hne : b ≠ c) (hq : b / 32 = c / 32) (hb0 : numAt L t b ≠ 0) (hc0 : numAt L t c ≠ 0) (hb : numAt L t b % 32768 = n) (hc : numAt L t c % 32768 = n) : 2 ≤ occ (secOf L t (b / 32)) n := by
  obtain ⟨b1, b2⟩ := numAt_ne hb0
  obtain ⟨c1, c2⟩ := numAt_ne hc0
  rw [← hq] at c2
  refine Nat.le_trans (countP_two _ _ (b % 32) ?_ (c % 32) ?_ (by omega) ?_ ?_) (occ_sec L t (b / 32) n b1)
  · rw [List.mem_range'_1]; omega
  · rw [List.mem_range'_1]; omega
  · rw [decide_eq_true_iff, ← b2]; exact ⟨hb0, hb⟩
  · rw [decide_eq_true_iff, ← c2]; exact ⟨hc0, hc⟩
theorem ExactL.numAt_told {L : List Clus} {rs : List RootR} (i : Nat) (hi : i < rs.length) (b : Nat) (hb : b < 64) (hb0 : numAt L (rs.getD i ⟨0, 0, []⟩).N b ≠ 0) : (numAt L (rs.getD i ⟨0, 0, []⟩).N b % 32768, 3) ∈ allTells L rs rs.length 0 := by
  obtain ⟨b1, b2⟩ := numAt_ne hb0
  rw [b2] at hb0 ⊢
  exact block_told L rs i hi (b / 32) (by omega) b1 (b % 32) (by omega) hb0
/-- A block's cluster that is counted once stands for that block alone. -/
theorem ExactL.blk_once {L : List Clus} {rs : List RootR} (h : ExactL L rs) (i : Nat) (hi : i < rs.length) (b c : Nat) (hb : b < 64) (hc : c < 64) (hne : b ≠ c)
    (hb0 : numAt L (rs.getD i ⟨0, 0, []⟩).N b ≠ 0) (hc0 : numAt L (rs.getD i ⟨0, 0, []⟩).N c ≠ 0) (h1 : countOf L (numAt L (rs.getD i ⟨0, 0, []⟩).N b % 32768) = 1) :
    numAt L (rs.getD i ⟨0, 0, []⟩).N c % 32768 ≠ numAt L (rs.getD i ⟨0, 0, []⟩).N b % 32768 := by
  intro e
  have hl := h.len
  have hlt := (h.ok.lo _ (ExactL.numAt_told i hi b hb hb0)).2.1
  have h6 := (h.ok.lo _ (ExactL.numAt_told i hi b hb hb0)).1
  simp only at hlt h6
  have hcnt := h.cnt _ (show numAt L (rs.getD i ⟨0, 0, []⟩).N b % 32768 < 256 by omega)
  rw [h1] at hcnt
  have ho : occ (allTells L rs rs.length 0) (numAt L (rs.getD i ⟨0, 0, []⟩).N b % 32768) ≤ 1 := by unfold occ; omega
  have h2 := occ_all L rs (numAt L (rs.getD i ⟨0, 0, []⟩).N b % 32768) rs.length 0 i (by omega) (by omega)
  have h3 := occ_tree L (rs.getD i ⟨0, 0, []⟩).N (numAt L (rs.getD i ⟨0, 0, []⟩).N b % 32768)
  have h4 := occ_pos hb0 rfl
  have h5 := occ_pos hc0 e
  by_cases hq : b / 32 = c / 32
  · have h7 := occ_two hne hq hb0 hc0 rfl e
    rcases (show b / 32 = 0 ∨ b / 32 = 1 by omega) with x | x <;> rw [x] at h7 <;> omega
  · rcases (show (b / 32 = 0 ∧ c / 32 = 1) ∨ (b / 32 = 1 ∧ c / 32 = 0) by omega) with ⟨x, y⟩ | ⟨x, y⟩ <;> rw [x] at h4 <;> rw [y] at h5 <;> omega
end Go.Proofs.YtknjjjenklfeoaaGreatDoor

/-
  Plain: a block's own cluster is written over: the content turns at that block.
-/
namespace Go.Proofs.YtknjjjenklfeoaaGreatDoor
open Go.RowKit

theorem blkOf_numAt (L : List Clus) (t b : Nat) : blkOf L t b = if numAt L t b = 0 then zc else cl L (numAt L t b % 32768) := by
  unfold blkOf numAt
  by_cases h0 : num (cl L t) (2 * (b / 32)) = 0
  · rw [if_pos h0, if_pos h0, if_pos rfl]
  · rw [if_neg h0, if_neg h0]
theorem cl_setN (L : List Clus) (n : Nat) (data : Clus) (t : Nat) (hn : n < L.length) : cl (L.set n data) t = if n = t then data else cl L t := by
  unfold cl
  rw [List.getD_eq_getElem?_getD, List.getElem?_set]
  by_cases e : n = t
  · subst e; rw [if_pos rfl, if_pos hn, if_pos rfl]; rfl
  · rw [if_neg e, if_neg e, List.getD_eq_getElem?_getD]
theorem contentOf_get (L : List Clus) (t b : Nat) (hb : b < 64) : (contentOf L t)[b]? = some (blkOf L t b) := by
  unfold contentOf
  rw [List.getElem?_map, List.getElem?_range hb]; rfl
theorem contentOf_length (L : List Clus) (t : Nat) : (contentOf L t).length = 64 := by unfold contentOf; simp

theorem ExactL.numAt_set {L : List Clus} {rs : List RootR} (h : ExactL L rs) (n : Nat) (hn : (n, 3) ∈ allTells L rs rs.length 0) (data : Clus) (i : Nat) (hi : i < rs.length) (b : Nat) (hb : b < 64) :
    numAt (L.set n data) (rs.getD i ⟨0, 0, []⟩).N b = numAt L (rs.getD i ⟨0, 0, []⟩).N b := by
  have hlt := (h.ok.lo _ hn).2.1
  simp only at hlt
  have ne : ∀ x ∈ allTells L rs rs.length 0, x.2 ≠ 3 → n ≠ x.1 := fun x hx h3 e => h3 (h.ok.kind _ hn x hx e).symm
  have e1 : cl (L.set n data) (rs.getD i ⟨0, 0, []⟩).N = cl L (rs.getD i ⟨0, 0, []⟩).N := by
    rw [cl_setN _ _ _ _ hlt, if_neg (ne _ (first_told L rs i hi) (by simp))]
  unfold numAt
  rw [e1]
  by_cases h0 : num (cl L (rs.getD i ⟨0, 0, []⟩).N) (2 * (b / 32)) = 0
  · rw [if_pos h0, if_pos h0]
  · rw [if_neg h0, if_neg h0, cl_setN _ _ _ _ hlt, if_neg (ne _ (second_told L rs i hi (b / 32) (by omega) h0) (by simp))]
theorem ExactL.content_set {L : List Clus} {rs : List RootR} (h : ExactL L rs) (i : Nat) (hi : i < rs.length) (b : Nat) (hb : b < 64) (hb0 : numAt L (rs.getD i ⟨0, 0, []⟩).N b ≠ 0) (h1 : countOf L (numAt L (rs.getD i ⟨0, 0, []⟩).N b % 32768) = 1) (data : Clus) :
    contentOf (L.set (numAt L (rs.getD i ⟨0, 0, []⟩).N b % 32768) data) (rs.getD i ⟨0, 0, []⟩).N = (contentOf L (rs.getD i ⟨0, 0, []⟩).N).set b data := by
  have ht := ExactL.numAt_told i hi b hb hb0
  have hlt := (h.ok.lo _ ht).2.1
  simp only at hlt
  refine List.ext_getElem? fun c => ?_
  by_cases hc : c < 64
  · rw [contentOf_get _ _ _ hc, List.getElem?_set, contentOf_get _ _ _ hc, blkOf_numAt, h.numAt_set _ ht data i hi c hc]
    by_cases e : b = c
    · subst e
      rw [if_neg hb0, cl_setN _ _ _ _ hlt, if_pos rfl, if_pos rfl, if_pos (by rw [contentOf_length]; exact hb)]
    · rw [if_neg e, blkOf_numAt]
      by_cases hc0 : numAt L (rs.getD i ⟨0, 0, []⟩).N c = 0
      · rw [if_pos hc0, if_pos hc0]
      · rw [if_neg hc0, if_neg hc0, cl_setN _ _ _ _ hlt, if_neg (fun x => h.blk_once i hi b c hb hc e hb0 hc0 h1 x.symm)]
  · rw [List.getElem?_eq_none (by rw [contentOf_length]; omega), List.getElem?_eq_none (by rw [List.length_set, contentOf_length]; omega)]
end Go.Proofs.YtknjjjenklfeoaaGreatDoor

/-
  Plain: a sound file, said by its numbers; how often a cluster is used, as sums.
-/
namespace Go.Proofs.YtknjjjenklfeoaaGreatDoor

abbrev nm (L : List Clus) (t k : Nat) : Nat := num (cl L t) (2 * k)
def hit (x n : Nat) : Nat := if x ≠ 0 ∧ x % 32768 = n then 1 else 0
def sumFrom (f : Nat → Nat) : Nat → Nat → Nat
  | 0, _ => 0
  | m + 1, k => f k + sumFrom f m (k + 1)
theorem sumFrom_congr {f g : Nat → Nat} : ∀ m k, (∀ j, k ≤ j → j < k + m → f j = g j) → sumFrom f m k = sumFrom g m k
  | 0, _, _ => rfl
  | m + 1, k, h => by rw [sumFrom, sumFrom, h k (by omega) (by omega), sumFrom_congr m (k + 1) (fun j h1 h2 => h j (by omega) (by omega))]
theorem sumFrom_one {f g : Nat → Nat} {a : Nat} : ∀ m k, k ≤ a → a < k + m → (∀ j, k ≤ j → j < k + m → j ≠ a → f j = g j) → sumFrom f m k + g a = sumFrom g m k + f a
  | 0, _, h1, h2, _ => by omega
  | m + 1, k, h1, h2, h => by
    rw [sumFrom, sumFrom]
    by_cases e : k = a
    · subst e
      rw [sumFrom_congr m (k + 1) (fun j h3 h4 => h j (by omega) (by omega) (by omega))]
      omega
    · have := sumFrom_one m (k + 1) (by omega) (by omega) (fun j h3 h4 h5 => h j (by omega) (by omega) h5)
      have := h k (by omega) (by omega) e
      omega
theorem sumFrom_ge {f : Nat → Nat} {a : Nat} : ∀ m k, k ≤ a → a < k + m → f a ≤ sumFrom f m k
  | 0, _, h1, h2 => by omega
  | m + 1, k, h1, h2 => by
    rw [sumFrom]
    by_cases e : k = a
    · subst e; omega
    · have := sumFrom_ge (f := f) m (k + 1) (a := a) (by omega) (by omega); omega
theorem sumFrom_two {f : Nat → Nat} {a b : Nat} (hab : a < b) : ∀ m k, k ≤ a → b < k + m → f a + f b ≤ sumFrom f m k
  | 0, _, h1, h2 => by omega
  | m + 1, k, h1, h2 => by
    rw [sumFrom]
    by_cases e : k = a
    · subst e
      have := sumFrom_ge (f := f) m (k + 1) (a := b) (by omega) (by omega); omega
    · have := sumFrom_two (f := f) hab m (k + 1) (by omega) (by omega); omega
theorem sumFrom_zero {f : Nat → Nat} : ∀ m k, (∀ j, k ≤ j → j < k + m → f j = 0) → sumFrom f m k = 0
  | 0, _, _ => rfl
  | m + 1, k, h => by rw [sumFrom, h k (by omega) (by omega), sumFrom_zero m (k + 1) (fun j h1 h2 => h j (by omega) (by omega))]
theorem sumFrom_pos {f : Nat → Nat} : ∀ m k, 0 < sumFrom f m k → ∃ j, k ≤ j ∧ j < k + m ∧ 0 < f j
  | 0, _, h => by simp [sumFrom] at h
  | m + 1, k, h => by
    rw [sumFrom] at h
    by_cases e : 0 < f k
    · exact ⟨k, by omega, by omega, e⟩
    · obtain ⟨j, h1, h2, h3⟩ := sumFrom_pos m (k + 1) (f := f) (by omega)
      exact ⟨j, by omega, by omega, h3⟩
theorem hit_pos {x n : Nat} : 0 < hit x n ↔ x ≠ 0 ∧ x % 32768 = n := by
  unfold hit
  split
  · rename_i h; exact ⟨fun _ => h, fun _ => by omega⟩
  · rename_i h; exact ⟨fun x => by omega, fun x => absurd x h⟩
theorem hit_one {x n : Nat} (h0 : x ≠ 0) (h : x % 32768 = n) : hit x n = 1 := by unfold hit; rw [if_pos ⟨h0, h⟩]
theorem hit_le (x n : Nat) : hit x n ≤ 1 := by unfold hit; split <;> omega
theorem hit_zero (n : Nat) : hit 0 n = 0 := by unfold hit; rw [if_neg (by simp)]
/-- Numbers that differ in the mark alone. -/
def SameN (x y : Nat) : Prop := (x = 0 ↔ y = 0) ∧ x % 32768 = y % 32768
theorem SameN.hit {x y : Nat} (h : SameN x y) (n : Nat) : hit x n = hit y n := by
  unfold Go.Proofs.YtknjjjenklfeoaaGreatDoor.hit
  by_cases e : x ≠ 0 ∧ x % 32768 = n
  · rw [if_pos e, if_pos ⟨fun z => e.1 (h.1.2 z), by rw [← h.2]; exact e.2⟩]
  · rw [if_neg e, if_neg (fun z => e ⟨fun y0 => z.1 (h.1.1 y0), by rw [h.2]; exact z.2⟩)]
theorem SameN.refl (x : Nat) : SameN x x := ⟨Iff.rfl, rfl⟩
theorem SameN.symm {x y : Nat} (h : SameN x y) : SameN y x := ⟨h.1.symm, h.2.symm⟩
theorem SameN.trans {x y z : Nat} (h : SameN x y) (k : SameN y z) : SameN x z := ⟨h.1.trans k.1, h.2.trans k.2⟩

/-- How often a second table uses a cluster; a first table by one of its numbers; a whole tree; all. -/
def inOcc (L : List Clus) (s n : Nat) : Nat := sumFrom (fun k => hit (nm L s k) n) 32 0
def secOcc (L : List Clus) (t j n : Nat) : Nat := if nm L t j = 0 then 0 else hit (nm L t j) n + inOcc L (nm L t j % 32768) n
def treeOcc (L : List Clus) (t n : Nat) : Nat := (if t = n then 1 else 0) + (secOcc L t 0 n + secOcc L t 1 n)
def useOf (L : List Clus) (rs : List RootR) (n : Nat) : Nat := (rs.map fun r => treeOcc L r.N n).sum

theorem occ_nil (n : Nat) : occ [] n = 0 := rfl
theorem occ_cons (x : Nat × Nat) (ts : Tells) (n : Nat) : occ (x :: ts) n = (if x.1 = n then 1 else 0) + occ ts n := by
  unfold occ
  rw [List.map_cons, List.count_cons, Nat.add_comm]
  simp
theorem occ_inTells (L : List Clus) (t n : Nat) : ∀ m k, occ (inTells L t m k) n = sumFrom (fun k => hit (nm L t k) n) m k
  | 0, _ => rfl
  | m + 1, k => by
    rw [inTells, sumFrom, occ_append, occ_inTells L t n m (k + 1)]
    congr 1
    by_cases h : num (cl L t) (2 * k) = 0
    · rw [if_pos h, occ_nil]; unfold nm; rw [h, hit_zero]
    · rw [if_neg h, occ_cons, occ_nil, Nat.add_zero]
      unfold hit
      by_cases e : num (cl L t) (2 * k) % 32768 = n
      · rw [if_pos e, if_pos ⟨h, e⟩]
      · rw [if_neg e, if_neg (fun x => e x.2)]
theorem occ_secOf (L : List Clus) (t j n : Nat) : occ (secOf L t j) n = secOcc L t j n := by
  unfold secOf secOcc
  by_cases h : num (cl L t) (2 * j) = 0
  · rw [if_pos h, if_pos h]; rfl
  · rw [if_neg h, if_neg h, occ_cons, occ_inTells]
    unfold inOcc hit nm
    by_cases e : num (cl L t) (2 * j) % 32768 = n
    · rw [if_pos e, if_pos ⟨h, e⟩]
    · rw [if_neg e, if_neg (fun x => e x.2)]
theorem outTells_none (L : List Clus) (t : Nat) : ∀ m i, (∀ j, i ≤ j → j < i + m → num (cl L t) (2 * j) = 0) → outTells L t m i = []
  | 0, _, _ => rfl
  | m + 1, i, h => by rw [outTells, if_pos (h i (by omega) (by omega)), outTells_none L t m (i + 1) (fun j h1 h2 => h j (by omega) (by omega))]; rfl
theorem treeTells_two {L : List Clus} {t : Nat} (hz : ∀ i, 1 < i → i < 32 → num (cl L t) (2 * i) = 0) : treeTells L t = (t, 1) :: (secOf L t 0 ++ secOf L t 1) := by
  rw [treeTells, outTells_two, outTells_none L t 30 2 (fun j h1 h2 => hz j (by omega) (by omega)), List.append_nil]
theorem occ_treeTells {L : List Clus} {t : Nat} (hz : ∀ i, 1 < i → i < 32 → num (cl L t) (2 * i) = 0) (n : Nat) : occ (treeTells L t) n = treeOcc L t n := by
  rw [treeTells_two hz, occ_cons, occ_append, occ_secOf, occ_secOf]; rfl
theorem allTells_flat (L : List Clus) (rs : List RootR) : ∀ m i, i + m = rs.length → allTells L rs m i = (rs.drop i).flatMap fun r => treeTells L r.N
  | 0, i, h => by rw [List.drop_of_length_le (by omega)]; rfl
  | m + 1, i, h => by
    rw [allTells, allTells_flat L rs m (i + 1) (by omega)]
    have hi : i < rs.length := by omega
    rw [List.drop_eq_getElem_cons hi, List.flatMap_cons, List.getD_eq_getElem?_getD, List.getElem?_eq_getElem hi]
    rfl
theorem allTells_all (L : List Clus) (rs : List RootR) : allTells L rs rs.length 0 = rs.flatMap fun r => treeTells L r.N := by
  rw [allTells_flat L rs rs.length 0 (by omega), List.drop_zero]
theorem occ_flat (L : List Clus) (n : Nat) : ∀ rs : List RootR, (∀ r ∈ rs, ∀ i, 1 < i → i < 32 → num (cl L r.N) (2 * i) = 0) → occ (rs.flatMap fun r => treeTells L r.N) n = useOf L rs n
  | [], _ => rfl
  | r :: rs, hz => by
    rw [List.flatMap_cons, occ_append, occ_flat L n rs (fun x hx => hz x (by simp [hx])), occ_treeTells (hz r (by simp))]
    simp [useOf]
theorem occ_allTells {L : List Clus} {rs : List RootR} (hz : ∀ r ∈ rs, ∀ i, 1 < i → i < 32 → num (cl L r.N) (2 * i) = 0) (n : Nat) : occ (allTells L rs rs.length 0) n = useOf L rs n := by
  rw [allTells_all, occ_flat L n rs hz]

def IsFst (rs : List RootR) (t : Nat) : Prop := ∃ r ∈ rs, r.N = t
def IsSec (L : List Clus) (rs : List RootR) (s : Nat) : Prop := ∃ r ∈ rs, ∃ j, j < 2 ∧ nm L r.N j ≠ 0 ∧ nm L r.N j % 32768 = s
def IsBlk (L : List Clus) (rs : List RootR) (n : Nat) : Prop := ∃ s, IsSec L rs s ∧ ∃ k, k < 32 ∧ nm L s k ≠ 0 ∧ nm L s k % 32768 = n

/-- A sound file with the first tables rs. -/
structure SoundL (L : List Clus) (rs : List RootR) : Prop where
  len : L.length ≤ 256
  six : 6 ≤ L.length
  fst : ∀ r ∈ rs, 6 ≤ r.N ∧ r.N < L.length
  nodup : (rs.map (·.N)).Nodup
  zero : ∀ r ∈ rs, ∀ i, 1 < i → i < 32 → nm L r.N i = 0
  sec : ∀ s, IsSec L rs s → 6 ≤ s ∧ s < L.length
  blk : ∀ n, IsBlk L rs n → 6 ≤ n ∧ n < L.length
  fs : ∀ t, IsFst rs t → ¬ IsSec L rs t
  fb : ∀ t, IsFst rs t → ¬ IsBlk L rs t
  sb : ∀ t, IsSec L rs t → ¬ IsBlk L rs t
  cnt : ∀ n, n < 256 → base6 n + useOf L rs n ≤ countOf L n
  top : ∀ n, n < 256 → countOf L n < 255
  none : ∀ n, n < 256 → L.length ≤ n → countOf L n = 0
  mark1 : ∀ r ∈ rs, ∀ j, j < 2 → 32768 ≤ nm L r.N j → countOf L (nm L r.N j % 32768) = 1
  mark2 : ∀ s, IsSec L rs s → ∀ k, k < 32 → 32768 ≤ nm L s k → countOf L (nm L s k % 32768) = 1
/-- And the counts are just the uses, and what is used once has its mark. -/
structure ExactS (L : List Clus) (rs : List RootR) : Prop where
  eq : ∀ n, n < 256 → countOf L n = base6 n + useOf L rs n
  lone1 : ∀ r ∈ rs, ∀ j, j < 2 → nm L r.N j ≠ 0 → countOf L (nm L r.N j % 32768) = 1 → 32768 ≤ nm L r.N j
  lone2 : ∀ s, IsSec L rs s → ∀ k, k < 32 → nm L s k ≠ 0 → countOf L (nm L s k % 32768) = 1 → 32768 ≤ nm L s k

theorem mem_inTells (L : List Clus) (t : Nat) (x : Nat × Nat) : ∀ m k, x ∈ inTells L t m k ↔ ∃ j, k ≤ j ∧ j < k + m ∧ nm L t j ≠ 0 ∧ x = (nm L t j % 32768, 3)
  | 0, k => by
    rw [inTells]
    exact ⟨fun h => by simp at h, fun ⟨j, h1, h2, _⟩ => by omega⟩
  | m + 1, k => by
    rw [inTells, List.mem_append, mem_inTells L t x m (k + 1)]
    constructor
    · rintro (h | ⟨j, h1, h2, h3⟩)
      · split at h
        · simp at h
        · rename_i h0
          exact ⟨k, by omega, by omega, h0, by simpa using h⟩
      · exact ⟨j, by omega, by omega, h3⟩
    · rintro ⟨j, h1, h2, h3, h4⟩
      by_cases e : j = k
      · subst e; left; rw [if_neg h3]; simpa using h4
      · right; exact ⟨j, by omega, by omega, h3, h4⟩
theorem mem_secOf (L : List Clus) (t j : Nat) (x : Nat × Nat) : x ∈ secOf L t j ↔ nm L t j ≠ 0 ∧ (x = (nm L t j % 32768, 2) ∨ ∃ k, k < 32 ∧ nm L (nm L t j % 32768) k ≠ 0 ∧ x = (nm L (nm L t j % 32768) k % 32768, 3)) := by
  unfold secOf
  by_cases h : num (cl L t) (2 * j) = 0
  · rw [if_pos h]
    exact ⟨fun h => by simp at h, fun z => absurd h z.1⟩
  · rw [if_neg h, List.mem_cons, mem_inTells]
    constructor
    · rintro (e | ⟨k, _, h2, h3, h4⟩)
      · exact ⟨h, Or.inl e⟩
      · exact ⟨h, Or.inr ⟨k, by omega, h3, h4⟩⟩
    · rintro ⟨_, e | ⟨k, h2, h3, h4⟩⟩
      · exact Or.inl e
      · exact Or.inr ⟨k, by omega, by omega, h3, h4⟩
section
variable {L : List Clus} {rs : List RootR}
theorem mem_all (hz : ∀ r ∈ rs, ∀ i, 1 < i → i < 32 → nm L r.N i = 0) (x : Nat × Nat) :
    x ∈ allTells L rs rs.length 0 ↔ (x.2 = 1 ∧ IsFst rs x.1) ∨ (x.2 = 2 ∧ IsSec L rs x.1) ∨ (x.2 = 3 ∧ IsBlk L rs x.1) := by
  rw [allTells_all, List.mem_flatMap]
  constructor
  · rintro ⟨r, hr, hx⟩
    rw [treeTells_two (hz r hr), List.mem_cons, List.mem_append, mem_secOf, mem_secOf] at hx
    rcases hx with rfl | ⟨h0, rfl | ⟨k, hk, h1, rfl⟩⟩ | ⟨h0, rfl | ⟨k, hk, h1, rfl⟩⟩
    · exact Or.inl ⟨rfl, r, hr, rfl⟩
    · exact Or.inr (Or.inl ⟨rfl, r, hr, 0, by omega, h0, rfl⟩)
    · exact Or.inr (Or.inr ⟨rfl, _, ⟨r, hr, 0, by omega, h0, rfl⟩, k, hk, h1, rfl⟩)
    · exact Or.inr (Or.inl ⟨rfl, r, hr, 1, by omega, h0, rfl⟩)
    · exact Or.inr (Or.inr ⟨rfl, _, ⟨r, hr, 1, by omega, h0, rfl⟩, k, hk, h1, rfl⟩)
  · have key : ∀ r ∈ rs, ∀ j, j < 2 → ∀ y, y ∈ secOf L r.N j → y ∈ treeTells L r.N := by
      intro r hr j hj y hy
      rw [treeTells_two (hz r hr), List.mem_cons, List.mem_append]
      have : j = 0 ∨ j = 1 := by omega
      rcases this with rfl | rfl
      · exact Or.inr (Or.inl hy)
      · exact Or.inr (Or.inr hy)
    rintro (⟨h2, r, hr, e⟩ | ⟨h2, r, hr, j, hj, h0, e⟩ | ⟨h2, s, ⟨r, hr, j, hj, h0, e⟩, k, hk, h1, e2⟩)
    · refine ⟨r, hr, ?_⟩
      rw [treeTells_two (hz r hr), List.mem_cons]
      exact Or.inl (Prod.ext e.symm h2)
    · exact ⟨r, hr, key r hr j hj x ((mem_secOf _ _ _ _).2 ⟨h0, Or.inl (Prod.ext e.symm h2)⟩)⟩
    · subst e
      exact ⟨r, hr, key r hr j hj x ((mem_secOf _ _ _ _).2 ⟨h0, Or.inr ⟨k, hk, h1, Prod.ext e2.symm h2⟩⟩)⟩
theorem count_inTells1 (L : List Clus) (t n : Nat) (m k : Nat) : (inTells L t m k).count (n, 1) = 0 := by
  rw [List.count_eq_zero]
  intro h
  obtain ⟨j, _, _, _, e⟩ := (mem_inTells L t _ m k).1 h
  simp at e
theorem count_tree1 {t : Nat} (hz : ∀ i, 1 < i → i < 32 → nm L t i = 0) (n : Nat) : (treeTells L t).count (n, 1) = if t = n then 1 else 0 := by
  have key : ∀ j, (secOf L t j).count (n, 1) = 0 := by
    intro j
    rw [List.count_eq_zero]
    intro h
    obtain ⟨_, e | ⟨k, _, _, e⟩⟩ := (mem_secOf L t j _).1 h <;> simp at e
  rw [treeTells_two hz, List.count_cons, List.count_append, key, key]
  by_cases e : t = n <;> simp [e]
theorem count_all1 (n : Nat) : ∀ rs : List RootR, (∀ r ∈ rs, ∀ i, 1 < i → i < 32 → nm L r.N i = 0) → (rs.flatMap fun r => treeTells L r.N).count (n, 1) = (rs.map (·.N)).count n
  | [], _ => rfl
  | r :: rs, hz => by
    rw [List.flatMap_cons, List.count_append, count_all1 n rs (fun x hx => hz x (by simp [hx])), count_tree1 (hz r (by simp)), List.map_cons, List.count_cons, Nat.add_comm]
    simp
theorem SoundL.ok (h : SoundL L rs) : OkT L (allTells L rs rs.length 0) := by
  refine ⟨fun x hx => ?_, fun x hx y hy e => ?_, fun n => ?_⟩
  · rcases (mem_all h.zero x).1 hx with ⟨h2, r, hr, e⟩ | ⟨h2, hs⟩ | ⟨h2, hs⟩
    · have := h.fst r hr; omega
    · have := h.sec _ hs; omega
    · have := h.blk _ hs; omega
  · rcases (mem_all h.zero x).1 hx with ⟨h2, hf⟩ | ⟨h2, hs⟩ | ⟨h2, hs⟩
    · rcases (mem_all h.zero y).1 hy with ⟨k2, kf⟩ | ⟨k2, ks⟩ | ⟨k2, ks⟩
      · omega
      · rw [e] at hf; exact absurd ks (h.fs _ hf)
      · rw [e] at hf; exact absurd ks (h.fb _ hf)
    · rcases (mem_all h.zero y).1 hy with ⟨k2, kf⟩ | ⟨k2, ks⟩ | ⟨k2, ks⟩
      · rw [← e] at kf; exact absurd hs (h.fs _ kf)
      · omega
      · rw [e] at hs; exact absurd ks (h.sb _ hs)
    · rcases (mem_all h.zero y).1 hy with ⟨k2, kf⟩ | ⟨k2, ks⟩ | ⟨k2, ks⟩
      · rw [← e] at kf; exact absurd hs (h.fb _ kf)
      · rw [← e] at ks; exact absurd hs (h.sb _ ks)
      · omega
  · rw [allTells_all, count_all1 n rs h.zero]
    exact List.nodup_iff_count.1 h.nodup n
/-- What is used is counted; what has no count is not used. -/
theorem useOf_tree {r : RootR} (hr : r ∈ rs) (n : Nat) : treeOcc L r.N n ≤ useOf L rs n := by
  unfold useOf
  induction rs with
  | nil => simp at hr
  | cons a l ih =>
    rw [List.map_cons, List.sum_cons]
    rcases List.mem_cons.1 hr with rfl | h
    · omega
    · have := ih h; omega
theorem use_fst {t : Nat} (h : IsFst rs t) : 1 ≤ useOf L rs t := by
  obtain ⟨r, hr, rfl⟩ := h
  have := useOf_tree (L := L) hr r.N
  unfold treeOcc at this
  rw [if_pos rfl] at this
  omega
theorem secOcc_tree (L : List Clus) (t j n : Nat) (hj : j < 2) : secOcc L t j n ≤ treeOcc L t n := by
  unfold treeOcc
  have : j = 0 ∨ j = 1 := by omega
  rcases this with rfl | rfl <;> omega
theorem use_sec {s : Nat} (h : IsSec L rs s) : 1 ≤ useOf L rs s := by
  obtain ⟨r, hr, j, hj, h0, e⟩ := h
  have h1 := useOf_tree (L := L) hr s
  have h2 := secOcc_tree L r.N j s hj
  unfold secOcc at h2
  rw [if_neg h0, hit_one h0 e] at h2
  omega
theorem use_blk {n : Nat} (h : IsBlk L rs n) : 1 ≤ useOf L rs n := by
  obtain ⟨s, ⟨r, hr, j, hj, h0, e⟩, k, hk, h3, e2⟩ := h
  have h1 := useOf_tree (L := L) hr n
  have h2 := secOcc_tree L r.N j n hj
  have h4 := sumFrom_ge (f := fun k => hit (nm L s k) n) (a := k) 32 0 (by omega) (by omega)
  unfold secOcc inOcc at h2
  rw [if_neg h0, e] at h2
  simp only [hit_one h3 e2] at h4
  omega
end
end Go.Proofs.YtknjjjenklfeoaaGreatDoor
