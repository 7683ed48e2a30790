import Derived.Test.YtknjjjenklfeoaaGreatDoorP17
import Derived.Test.YtknjjjenklfeoaaGreatDoorP14
import Derived.Test.YtknjjjenklfeoaaGreatDoorP05
import Derived.Test.YtknjjjenklfeoaaGreatDoorP16
import Derived.Test.YtknjjjenklfeoaaGreatDoorP09
/-
  Plain: a new second table: what the file uses and holds then.
-/
namespace Go.Proofs.YtknjjjenklfeoaaGreatDoor
section
variable {L L' : List Clus} {rs : List RootR} {r : RootR} {j s k n : Nat}
theorem use_none (h : SoundL L rs) {n : Nat} (un : ¬ IsFst rs n ∧ ¬ IsSec L rs n ∧ ¬ IsBlk L rs n) : useOf L rs n = 0 := by
  by_cases z : useOf L rs n = 0
  · exact z
  · exfalso
    have h4 : 0 < useOf L rs n := by omega
    rw [← occ_allTells h.zero] at h4
    unfold occ at h4
    obtain ⟨y, hy, e⟩ := List.mem_map.1 (List.count_pos_iff.1 h4)
    rcases (mem_all h.zero y).1 hy with ⟨_, k1⟩ | ⟨_, k1⟩ | ⟨_, k1⟩
    · rw [e] at k1; exact un.1 k1
    · rw [e] at k1; exact un.2.1 k1
    · rw [e] at k1; exact un.2.2 k1
/-- The number in the elder second table; 0, if there is none. -/
def oldNum (L : List Clus) (t j q : Nat) : Nat := if nm L t j = 0 then 0 else nm L (nm L t j % 32768) q
/-- A new second table s, like the elder one but for its k-th number, that of a new block. -/
structure TabIn (L L' : List Clus) (rs : List RootR) (r : RootR) (j s k n : Nat) : Prop where
  put : PutN L L' r.N j (s + 32768)
  hr : r ∈ rs
  hj : j < 2
  hk : k < 32
  tk : nm L s k = n + 32768
  tq : ∀ q, q < 32 → q ≠ k → nm L s q = oldNum L r.N j q
  ne : s ≠ n
  sin : 6 ≤ s ∧ s < L.length
  nin : 6 ≤ n ∧ n < L.length
  cs : countOf L s = 1
  cn : countOf L n = 1
  us : ¬ IsFst rs s ∧ ¬ IsSec L rs s ∧ ¬ IsBlk L rs s
  un : ¬ IsFst rs n ∧ ¬ IsSec L rs n ∧ ¬ IsBlk L rs n
theorem TabIn.ls (b : TabIn L L' rs r j s k n) (hL : L.length ≤ 256) : (s + 32768) % 32768 = s := by have := b.sin; omega
theorem TabIn.ln (b : TabIn L L' rs r j s k n) (hL : L.length ≤ 256) : (n + 32768) % 32768 = n := by have := b.nin; omega
theorem TabIn.other (h : SoundL L rs) (b : TabIn L L' rs r j s k n) {x : Nat} (hx : IsSec L rs x ∨ x = s) : cl L' x = cl L x := by
  refine b.put.same x fun e => ?_
  rcases hx with y | y
  · exact h.fs _ ⟨r, b.hr, e.symm⟩ y
  · exact b.us.1 ⟨r, b.hr, by rw [← e]; exact y⟩
theorem TabIn.fst (b : TabIn L L' rs r j s k n) {r' : RootR} (hne : r'.N ≠ r.N) : cl L' r'.N = cl L r'.N := b.put.same _ hne
theorem TabIn.isSec (h : SoundL L rs) (b : TabIn L L' rs r j s k n) (x : Nat) (hx : IsSec L' rs x) : IsSec L rs x ∨ x = s := by
  obtain ⟨r', hr', q, hq, h0, e⟩ := hx
  by_cases e1 : r'.N = r.N
  · rw [e1] at h0 e
    by_cases e2 : q = j
    · subst e2
      rw [b.put.now, b.ls h.len] at e
      exact Or.inr e.symm
    · rw [b.put.oth q (by omega) e2] at h0 e
      exact Or.inl ⟨r, b.hr, q, hq, h0, e⟩
  · unfold nm at h0 e
    rw [b.fst e1] at h0 e
    exact Or.inl ⟨r', hr', q, hq, h0, e⟩
theorem TabIn.isBlk (h : SoundL L rs) (b : TabIn L L' rs r j s k n) (x : Nat) (hx : IsBlk L' rs x) : IsBlk L rs x ∨ x = n := by
  obtain ⟨s', hs', q, hq, h0, e⟩ := hx
  have hs := b.isSec h s' hs'
  unfold nm at h0 e
  rw [b.other h hs] at h0 e
  rcases hs with y | y
  · exact Or.inl ⟨s', y, q, hq, h0, e⟩
  · subst y
    by_cases e2 : q = k
    · subst e2
      have := b.tk
      unfold nm at this
      rw [this, b.ln h.len] at e
      exact Or.inr e.symm
    · have := b.tq q hq e2
      unfold nm oldNum at this
      rw [this] at h0 e
      split at h0
      · exact absurd rfl h0
      · rename_i h3
        rw [if_neg h3] at e
        exact Or.inl ⟨_, ⟨r, b.hr, j, b.hj, h3, rfl⟩, q, hq, h0, e⟩
theorem hit_plus {n m : Nat} (hn : (n + 32768) % 32768 = n) : hit (n + 32768) m = if n = m then 1 else 0 := by
  unfold hit
  rw [hn]
  by_cases e : n = m
  · rw [if_pos e, if_pos ⟨by omega, e⟩]
  · rw [if_neg e, if_neg (fun z => e z.2)]
theorem inOcc_old (L : List Clus) (t j m : Nat) : sumFrom (fun q => hit (oldNum L t j q) m) 32 0 = if nm L t j = 0 then 0 else inOcc L (nm L t j % 32768) m := by
  unfold oldNum inOcc
  by_cases e : nm L t j = 0
  · simp only [e, if_true]
    exact sumFrom_zero _ _ fun q _ _ => hit_zero m
  · simp only [e, if_false]
theorem TabIn.use (h : SoundL L rs) (b : TabIn L L' rs r j s k n) (m : Nat) :
    useOf L' rs m + (hit (nm L r.N j) m + hit (oldNum L r.N j k) m) = useOf L rs m + ((if s = m then 1 else 0) + if n = m then 1 else 0) := by
  have hin : inOcc L s m + hit (oldNum L r.N j k) m = (if nm L r.N j = 0 then 0 else inOcc L (nm L r.N j % 32768) m) + hit (n + 32768) m := by
    have := sumFrom_one (f := fun q => hit (nm L s q) m) (g := fun q => hit (oldNum L r.N j q) m) (a := k) 32 0 (by omega) (by have := b.hk; omega) (fun q _ hq hne => by rw [b.tq q (by omega) hne])
    simp only [b.tk] at this
    rw [inOcc_old] at this
    exact this
  have hsec : ∀ r' ∈ rs, ∀ q, q < 2 → (r'.N ≠ r.N ∨ q ≠ j) → secOcc L' r'.N q m = secOcc L r'.N q m := by
    intro r' hr' q hq hne
    have e : nm L' r'.N q = nm L r'.N q := by
      by_cases e1 : r'.N = r.N
      · rw [e1]; exact b.put.oth q (by omega) (by rcases hne with z | z; exact absurd e1 z; exact z)
      · unfold nm; rw [b.fst e1]
    refine secOcc_same (by rw [e]; exact SameN.refl _) fun h0 k' hk' => ?_
    unfold nm
    rw [b.other h (Or.inl ⟨r', hr', q, hq, h0, rfl⟩)]
    exact SameN.refl _
  have hat : secOcc L' r.N j m + (hit (nm L r.N j) m + hit (oldNum L r.N j k) m) = secOcc L r.N j m + ((if s = m then 1 else 0) + if n = m then 1 else 0) := by
    rw [← hit_plus (b.ls h.len), ← hit_plus (b.ln h.len)]
    have e : inOcc L' s m = inOcc L s m := inOcc_same fun q hq => by unfold nm; rw [b.other h (Or.inr rfl)]; exact SameN.refl _
    unfold secOcc
    rw [b.put.now, if_neg (by omega), b.ls h.len, e]
    by_cases z : nm L r.N j = 0
    · rw [if_pos z] at hin ⊢
      rw [z, hit_zero]
      omega
    · rw [if_neg z] at hin ⊢
      omega
  exact use_change h.nodup ⟨r, b.hr, rfl⟩ (fun r' hr' hne => by
    unfold treeOcc
    rw [hsec r' hr' 0 (by omega) (Or.inl hne), hsec r' hr' 1 (by omega) (Or.inl hne)]) (tree_change b.hj (fun q hq hne => hsec r b.hr q hq (Or.inr hne)) hat)
theorem TabIn.sound (h : SoundL L rs) (b : TabIn L L' rs r j s k n) : SoundL L' rs := by
  have hf := h.fst r b.hr
  have hc := fun m hm => b.put.count hf.1 m hm
  have hlen := h.len
  have hj := b.hj
  refine ⟨by rw [b.put.len]; exact h.len, by rw [b.put.len]; exact h.six, fun r' hr' => by rw [b.put.len]; exact h.fst r' hr', h.nodup, fun r' hr' i h1 h2 => ?_, fun x hx => ?_, fun x hx => ?_, fun t ht x => ?_, fun t ht x => ?_, fun t ht x => ?_, fun m hm => ?_, fun m hm => by rw [hc m hm]; exact h.top m hm, fun m hm hl => by rw [hc m hm]; exact h.none m hm (by rw [← b.put.len]; exact hl), fun r' hr' q hq hm => ?_, fun x hx q hq hm => ?_⟩
  · by_cases e1 : r'.N = r.N
    · rw [e1, b.put.oth i h2 (by omega), ← e1]; exact h.zero r' hr' i h1 h2
    · unfold nm; rw [b.fst e1]; exact h.zero r' hr' i h1 h2
  · rw [b.put.len]
    rcases b.isSec h x hx with y | y
    · exact h.sec x y
    · rw [y]; exact b.sin
  · rw [b.put.len]
    rcases b.isBlk h x hx with y | y
    · exact h.blk x y
    · rw [y]; exact b.nin
  · rcases b.isSec h t x with y | y
    · exact h.fs t ht y
    · rw [y] at ht; exact b.us.1 ht
  · rcases b.isBlk h t x with y | y
    · exact h.fb t ht y
    · rw [y] at ht; exact b.un.1 ht
  · rcases b.isSec h t ht with z | z
    · rcases b.isBlk h t x with y | y
      · exact h.sb t z y
      · rw [y] at z; exact b.un.2.1 z
    · rcases b.isBlk h t x with y | y
      · rw [z] at y; exact b.us.2.2 y
      · exact b.ne (z.symm.trans y)
  · rw [hc m hm]
    have h1 := b.use h m
    have h2 := h.cnt m hm
    have e1 := b.sin
    have e2 := b.nin
    have e3 := b.ne
    have e4 := b.cs
    have e5 := b.cn
    by_cases z : s = m
    · subst z
      rw [if_pos rfl, if_neg (fun e => e3 e.symm), use_none h b.us] at h1
      rw [base6_eq, if_neg (by omega)]
      omega
    · rw [if_neg z] at h1
      by_cases z2 : n = m
      · subst z2
        rw [if_pos rfl, use_none h b.un] at h1
        rw [base6_eq, if_neg (by omega)]
        omega
      · rw [if_neg z2] at h1; omega
  · by_cases e1 : r'.N = r.N
    · rw [e1] at hm ⊢
      by_cases e2 : q = j
      · subst e2
        rw [b.put.now, b.ls h.len, hc _ (by have := b.sin; omega)]
        exact b.cs
      · rw [b.put.oth q (by omega) e2] at hm ⊢
        have hx := h.sec _ ⟨r, b.hr, q, hq, by omega, rfl⟩
        rw [hc _ (by omega)]
        exact h.mark1 r b.hr q hq hm
    · have e : nm L' r'.N q = nm L r'.N q := by unfold nm; rw [b.fst e1]
      rw [e] at hm ⊢
      have hx := h.sec _ ⟨r', hr', q, hq, by omega, rfl⟩
      rw [hc _ (by omega)]
      exact h.mark1 r' hr' q hq hm
  · have hs := b.isSec h x hx
    have e : nm L' x q = nm L x q := by unfold nm; rw [b.other h hs]
    rw [e] at hm ⊢
    rcases hs with y | y
    · have hy := h.blk _ ⟨x, y, q, hq, by omega, rfl⟩
      rw [hc _ (by omega)]
      exact h.mark2 x y q hq hm
    · subst y
      by_cases e2 : q = k
      · subst e2
        rw [b.tk, b.ln h.len, hc _ (by have := b.nin; omega)]
        exact b.cn
      · rw [b.tq q hq e2] at hm ⊢
        unfold oldNum at hm ⊢
        split at hm
        · omega
        · rename_i h3
          rw [if_neg h3]
          have hss : IsSec L rs (nm L r.N j % 32768) := ⟨r, b.hr, j, b.hj, h3, rfl⟩
          have hy := h.blk _ ⟨_, hss, q, hq, by omega, rfl⟩
          rw [hc _ (by omega)]
          exact h.mark2 _ hss q hq hm
theorem TabIn.content (h : SoundL L rs) (b : TabIn L L' rs r j s k n) {r' : RootR} (hr' : r' ∈ rs) :
    contentOf L' r'.N = if r'.N = r.N then (contentOf L r'.N).set (32 * j + k) (cl L n) else contentOf L r'.N := by
  have hbl : ∀ x, IsBlk L rs x → cl L' x = cl L x := fun x hx => b.put.same x fun e => h.fb _ ⟨r, b.hr, e.symm⟩ hx
  have hn : cl L' n = cl L n := b.put.same n fun e => b.un.1 ⟨r, b.hr, e.symm⟩
  have hj := b.hj
  have hk := b.hk
  have hss := b.other h (Or.inr rfl : IsSec L rs s ∨ s = s)
  have key : ∀ c, c < 64 → (r'.N ≠ r.N ∨ c ≠ 32 * j + k) → blkOf L' r'.N c = blkOf L r'.N c := by
    intro c hc hne
    have e : numAt L' r'.N c = numAt L r'.N c := by
      by_cases e1 : r'.N = r.N
      · by_cases e2 : c / 32 = j
        · have hq : c % 32 ≠ k := by rcases hne with z | z; exact absurd e1 z; omega
          have h1 := b.put.now
          have h2 := b.tq (c % 32) (by omega) hq
          unfold nm oldNum at h2
          unfold nm at h1
          unfold numAt
          rw [e1, e2, h1, if_neg (by omega), b.ls h.len, hss, h2]
        · have h1 := b.put.oth (c / 32) (by omega) e2
          unfold nm at h1
          unfold numAt
          rw [e1, h1]
          by_cases h0 : num (cl L r.N) (2 * (c / 32)) = 0
          · rw [if_pos h0, if_pos h0]
          · rw [if_neg h0, if_neg h0, b.other h (Or.inl ⟨r, b.hr, c / 32, by omega, h0, rfl⟩)]
      · unfold numAt
        rw [b.fst e1]
        by_cases h0 : num (cl L r'.N) (2 * (c / 32)) = 0
        · rw [if_pos h0, if_pos h0]
        · rw [if_neg h0, if_neg h0, b.other h (Or.inl ⟨r', hr', c / 32, by omega, h0, rfl⟩)]
    exact blkOf_same (by rw [e]; exact SameN.refl _) (fun h0 => hbl _ (numAt_isBlk hr' hc h0))
  by_cases e : r'.N = r.N
  · rw [if_pos e]
    apply List.ext_getElem?
    intro c
    rw [List.getElem?_set]
    by_cases hc : c < 64
    · by_cases e2 : 32 * j + k = c
      · rw [if_pos e2, if_pos (by rw [contentOf_length]; omega), contentOf_get _ _ _ hc, blkOf_numAt]
        have e3 : numAt L' r'.N c = n + 32768 := by
          have h1 := b.put.now
          have h2 := b.tk
          unfold nm at h1 h2
          unfold numAt
          rw [e, show c / 32 = j by omega, show c % 32 = k by omega, h1, if_neg (by omega), b.ls h.len, hss]
          exact h2
        rw [e3, if_neg (by omega), b.ln h.len, hn]
      · rw [if_neg e2, contentOf_get _ _ _ hc, contentOf_get _ _ _ hc, key c hc (Or.inr (fun z => e2 z.symm))]
    · rw [if_neg (by omega), List.getElem?_eq_none (by rw [contentOf_length]; omega), List.getElem?_eq_none (by rw [contentOf_length]; omega)]
  · rw [if_neg e]
    exact content_ext fun c hc => key c hc (Or.inl e)
end
end Go.Proofs.YtknjjjenklfeoaaGreatDoor

/-
  Plain: what the reader says of a sound file, and of an exact one.
-/
namespace Go.Proofs.YtknjjjenklfeoaaGreatDoor
section
variable {L : List Clus} {rs : List RootR} {b : Int} {R : FileR}
theorem SoundL.isBlk1 {L : List Clus} {rs : List RootR} {r : RootR} (hr : r ∈ rs) {j k : Nat} (hj : j < 2) (hk : k < 32) (h0 : nm L r.N j ≠ 0) (h1 : nm L (nm L r.N j % 32768) k ≠ 0) : IsBlk L rs (nm L (nm L r.N j % 32768) k % 32768) :=
  ⟨_, ⟨r, hr, j, hj, h0, rfl⟩, k, hk, h1, rfl⟩
theorem SoundL.toExact (h : SoundL L rs) (x : ExactS L rs) : ExactL L rs := by
  refine ⟨h.len, h.six, h.ok, h.zero, fun n hn => ?_, h.top, fun i hi j hj => ?_⟩
  · rw [x.eq n hn, ← occ_allTells h.zero]; rfl
  · have hr : rs.getD i ⟨0, 0, []⟩ ∈ rs := by
      rw [List.getD_eq_getElem?_getD, List.getElem?_eq_getElem hi]
      exact List.getElem_mem hi
    refine ⟨fun h0 => ⟨fun hm => h.mark1 _ hr j hj hm, fun hc => x.lone1 _ hr j hj h0 hc⟩, fun h0 k hk h1 => ?_⟩
    have hs : IsSec L rs (nm L (rs.getD i ⟨0, 0, []⟩).N j % 32768) := ⟨_, hr, j, hj, h0, rfl⟩
    exact ⟨fun hm => h.mark2 _ hs k hk hm, fun hc => x.lone2 _ hs k hk h1 hc⟩
theorem SoundL.used (h : SoundL L rs) (hT : Told L rs b base6 (allTells L rs rs.length 0) R) (n : Nat) (hn : n < 256) : R.used.getD n 0 = base6 n + useOf L rs n := by
  rw [hT.used n hn, ← occ_allTells h.zero]; rfl
theorem SoundL.counts (h : SoundL L rs) (hT : Told L rs b base6 (allTells L rs rs.length 0) R) : countsFrom R 256 0 = -1 := by
  refine countsFrom_good 256 0 fun j _ hj => ?_
  have h1 := h.used hT j (by omega)
  have h2 := h.top j (by omega)
  have h3 := h.cnt j (by omega)
  unfold badCount usedOf
  rw [h1, hT.hL]
  have e1 : decide (countOf L j < base6 j + useOf L rs j) = false := by simp; omega
  have e2 : (countOf L j == 255) = false := by rw [beq_eq_false_iff_ne]; omega
  rw [e1, e2, Bool.and_false, Bool.false_or, Bool.false_or]
  by_cases hl : L.length ≤ j
  · rw [h.none j (by omega) hl]; simp
  · rw [decide_eq_false hl]; rfl
theorem notBad (h : SoundL L rs) (hT : Told L rs b base6 (allTells L rs rs.length 0) R) (x : Nat) (hx : x % 32768 < 256) (hu : 1 ≤ useOf L rs (x % 32768)) (hm : 32768 ≤ x → countOf L (x % 32768) = 1) : markBad R x = false := by
  unfold markBad
  by_cases e : 32768 ≤ x
  · have h1 := h.used hT _ hx
    have h2 := h.cnt _ hx
    have h3 := hm e
    rw [if_pos e, hT.hL, h3, show R.used.getD (x % 32768) 0 = 1 by omega]
    rfl
  · rw [if_neg e]
theorem markedIn_sound (t : Nat) (hx : ∀ k, k < 32 → num (cl R.L t) (2 * k) ≠ 0 → markBad R (num (cl R.L t) (2 * k)) = false) : ∀ (m k acc : Nat), k + m ≤ 32 → ∃ a, markedIn R t m k acc = some a
  | 0, _, acc, _ => ⟨acc, rfl⟩
  | m + 1, k, acc, hm => by
    rw [markedIn]
    by_cases h0 : num (cl R.L t) (2 * k) = 0
    · rw [if_pos h0]; exact markedIn_sound t hx m (k + 1) acc (by omega)
    · rw [if_neg h0, hx k (by omega) h0]
      exact markedIn_sound t hx m (k + 1) _ (by omega)
theorem markedOut_sound (t : Nat) (hx : ∀ i, i < 2 → num (cl R.L t) (2 * i) ≠ 0 → markBad R (num (cl R.L t) (2 * i)) = false ∧ ∀ k, k < 32 → num (cl R.L (num (cl R.L t) (2 * i) % 32768)) (2 * k) ≠ 0 → markBad R (num (cl R.L (num (cl R.L t) (2 * i) % 32768)) (2 * k)) = false) : ∀ (m i acc : Nat), i + m ≤ 2 → (markedOut R t m i acc).1 = -1
  | 0, _, _, _ => rfl
  | m + 1, i, acc, hm => by
    rw [markedOut]
    by_cases h0 : num (cl R.L t) (2 * i) = 0
    · rw [if_pos h0]; exact markedOut_sound t hx m (i + 1) acc (by omega)
    · obtain ⟨h1, h2⟩ := hx i (by omega) h0
      obtain ⟨a, ha⟩ := markedIn_sound (R := R) _ h2 32 0 (acc + markNone R (num (cl R.L t) (2 * i))) (by omega)
      rw [if_neg h0, h1, ha]
      exact markedOut_sound t hx m (i + 1) a (by omega)
theorem SoundL.marked (h : SoundL L rs) (hT : Told L rs b base6 (allTells L rs rs.length 0) R) (i : Nat) (hi : i < rs.length) : (marked R (rootOf R i)).1 = -1 := by
  have hr : rootOf R i = rs.getD i ⟨0, 0, []⟩ := by unfold rootOf; rw [hT.hR]
  have hmem : rs.getD i ⟨0, 0, []⟩ ∈ rs := by
    rw [List.getD_eq_getElem?_getD, List.getElem?_eq_getElem hi]
    exact List.getElem_mem hi
  have hl := h.len
  unfold Go.Proofs.YtknjjjenklfeoaaGreatDoor.marked
  refine markedOut_sound _ (fun j hj h0 => ?_) 2 0 0 (by omega)
  rw [hr] at h0 ⊢
  rw [hT.hL] at h0 ⊢
  have hs : IsSec L rs (nm L (rs.getD i ⟨0, 0, []⟩).N j % 32768) := ⟨_, hmem, j, hj, h0, rfl⟩
  have hsr := h.sec _ hs
  refine ⟨notBad h hT _ (by unfold nm at hsr; omega) (use_sec hs) (fun hm => h.mark1 _ hmem j hj hm), fun k hk h1 => ?_⟩
  have hb := SoundL.isBlk1 hmem hj hk h0 h1
  have hbr := h.blk _ hb
  exact notBad h hT _ (by unfold nm at hbr; omega) (use_blk hb) (fun hm => h.mark2 _ hs k hk hm)
theorem SoundL.marks (h : SoundL L rs) (hT : Told L rs b base6 (allTells L rs rs.length 0) R) : ∀ (m i : Nat), i + m ≤ rs.length → marksFrom R m i (-1) = -1
  | 0, _, _ => rfl
  | m + 1, i, hm => by
    rw [marksFrom, if_pos (by decide), h.marked hT i (by omega)]
    exact h.marks hT m (i + 1) (by omega)
theorem look_sound {file : List Clus} (hh : headGood file = true) (hl : (listOf (R1of file)).1 = true) (hx : SoundL (R1of file).L (listOf (R1of file)).2) :
    (look file).bad = -1 ∧ (look file).L = (R1of file).L ∧ (look file).roots = (listOf (R1of file)).2 ∧ (∀ n, n < 256 → (look file).used.getD n 0 = base6 n + useOf (R1of file).L (listOf (R1of file)).2 n) ∧ Low 1000 (look file) := by
  have T0 : Told (R1of file).L (listOf (R1of file)).2 (-1) base6 [] (R2of file) :=
    ⟨rfl, rfl, rfl, zeros256_length, used6_length, fun x hx => by simp at hx, fun n _ => by
      show zeros256.getD n 0 = 0
      unfold zeros256
      rw [List.getD_eq_getElem?_getD, List.getElem?_replicate]
      split <;> rfl, fun n _ => rfl⟩
  obtain ⟨h1, h2⟩ := treesFrom_told hx.len hx.zero (listOf (R1of file)).2.length 0 [] (R2of file) (by omega) T0 hx.ok
  rw [List.nil_append] at h2
  have h1' : (R3of file).1 = true := h1
  have h2' : Told (R1of file).L (listOf (R1of file)).2 (-1) base6 (allTells (R1of file).L (listOf (R1of file)).2 (listOf (R1of file)).2.length 0) (R3of file).2 := h2
  have e : look file = { (R3of file).2 with bad := marksFrom (R3of file).2 (R3of file).2.roots.length 0 (countsFrom (R3of file).2 256 0) } := by
    unfold look
    rw [if_neg (by rw [hh]; decide), if_neg (by rw [hl]; decide), if_neg (by rw [h1']; decide)]
  clear h1 h2 T0 h1'
  generalize R3of file = Q at h2' e
  have h3 : Told (R1of file).L (listOf (R1of file)).2 (-1) base6 (allTells (R1of file).L (listOf (R1of file)).2 (listOf (R1of file)).2.length 0) (look file) := by
    rw [e, hx.counts h2', h2'.hR, hx.marks h2' _ 0 (by omega)]
    exact ⟨h2'.hL, h2'.hR, rfl, h2'.tl, h2'.ul, h2'.told, h2'.none, h2'.used⟩
  refine ⟨h3.hB, h3.hL, h3.hR, fun n hn => hx.used h3 n hn, fun n => ?_⟩
  by_cases hn : n < 256
  · rw [hx.used h3 n hn]
    have := hx.top n hn
    have := hx.cnt n hn
    omega
  · rw [List.getD_eq_getElem?_getD, List.getElem?_eq_none (by rw [h3.ul]; omega)]
    exact Nat.zero_le _
theorem SoundL.inFile (h : SoundL L rs) {r : RootR} (hr : r ∈ rs) : InFile L r.N := by
  refine ⟨(h.fst r hr).2, fun i hi h0 => (h.sec _ ⟨r, hr, i, hi, h0, rfl⟩).2, fun i hi h0 k hk => ?_⟩
  by_cases h1 : nm L (nm L r.N i % 32768) k = 0
  · unfold nm at h1
    rw [h1]
    have := h.six
    omega
  · exact (h.blk _ (SoundL.isBlk1 hr hi hk h0 h1)).2
end
end Go.Proofs.YtknjjjenklfeoaaGreatDoor

/-
  Plain: the list of pictures as bytes, and as the reader and the program read it.
-/
namespace Go.Proofs.YtknjjjenklfeoaaGreatDoor
open Go.RowKit

def entBytes (e : EntR) : Clus := UInt8.ofNat (e.first / 256) :: UInt8.ofNat (e.first % 256) :: (e.name ++ List.replicate (14 - e.name.length) 0)
def pad4 (E : List EntR) : List EntR := E ++ List.replicate (4 - E.length) ze
def listBytes (E : List EntR) : Clus := (pad4 E).flatMap entBytes
structure EntOK (e : EntR) : Prop where
  name : isNameB e.name = true
  pos : e.first ≠ 0
  lt : e.first < 65536
structure EntsOK (E : List EntR) : Prop where
  len : E.length ≤ 4
  all : ∀ e ∈ E, EntOK e
  nodup : (E.map (·.name)).Nodup
theorem name_le {l : List UInt8} (h : isNameB l = true) : 1 ≤ l.length ∧ l.length ≤ 12 := by
  unfold isNameB at h
  simp at h
  omega
theorem name_letter {l : List UInt8} (h : isNameB l = true) : ∀ b ∈ l, b ≠ 0 := by
  intro b hb e
  unfold isNameB at h
  rw [Bool.and_eq_true, List.all_eq_true] at h
  have := h.1 b hb
  rw [e] at this
  revert this
  decide
theorem EntOK.le {e : EntR} (h : EntOK e) : e.name.length ≤ 12 := (name_le h.name).2
theorem entBytes_length {e : EntR} (h : e.name.length ≤ 12) : (entBytes e).length = 16 := by simp [entBytes]; omega
theorem pad4_length {E : List EntR} (h : E.length ≤ 4) : (pad4 E).length = 4 := by simp [pad4]; omega
theorem pad4_mem {E : List EntR} {e : EntR} (h : e ∈ pad4 E) : e ∈ E ∨ e = ze := by
  rcases List.mem_append.1 h with x | x
  · exact Or.inl x
  · exact Or.inr (List.eq_of_mem_replicate x)
theorem EntsOK.short {E : List EntR} (h : EntsOK E) : ∀ e ∈ pad4 E, e.name.length ≤ 12 := by
  intro e he
  rcases pad4_mem he with x | x
  · exact (h.all e x).le
  · rw [x]; decide
theorem flat16_length : ∀ E : List EntR, (∀ e ∈ E, e.name.length ≤ 12) → (E.flatMap entBytes).length = 16 * E.length
  | [], _ => rfl
  | e :: r, h => by
    rw [List.flatMap_cons, List.length_append, entBytes_length (h e (by simp)), flat16_length r (fun x hx => h x (by simp [hx])), List.length_cons]
    omega
theorem flat16_get : ∀ (E : List EntR), (∀ e ∈ E, e.name.length ≤ 12) → ∀ i, i < E.length → ∀ j, j < 16 → (E.flatMap entBytes).getD (16 * i + j) 0 = (entBytes (E.getD i ze)).getD j 0
  | [], _, i, hi, _, _ => by simp at hi
  | e :: r, h, i, hi, j, hj => by
    have hl := entBytes_length (h e (by simp))
    rw [List.flatMap_cons, List.getD_eq_getElem?_getD]
    cases i with
    | zero => rw [List.getElem?_append_left (by omega), List.getD_eq_getElem?_getD]; simp
    | succ i =>
      have ih := flat16_get r (fun x hx => h x (by simp [hx])) i (by simpa using hi) j hj
      rw [List.getElem?_append_right (by rw [hl]; omega), hl, show 16 * (i + 1) + j - 16 = 16 * i + j by omega, ← List.getD_eq_getElem?_getD, ih]
      rfl
section
variable {E : List EntR}
theorem EntsOK.length (h : EntsOK E) : (listBytes E).length = 64 := by
  unfold listBytes
  rw [flat16_length _ h.short, pad4_length h.len]
theorem EntsOK.get (h : EntsOK E) (i : Nat) (hi : i < 4) (j : Nat) (hj : j < 16) : (listBytes E).getD (16 * i + j) 0 = (entBytes ((pad4 E).getD i ze)).getD j 0 :=
  flat16_get _ h.short i (by rw [pad4_length h.len]; exact hi) j hj
theorem pad4_get (i : Nat) (hi : i < E.length) : (pad4 E).getD i ze = E.getD i ze := by
  unfold pad4
  rw [List.getD_eq_getElem?_getD, List.getElem?_append_left hi, List.getD_eq_getElem?_getD]
theorem pad4_past (i : Nat) (hi : E.length ≤ i) : (pad4 E).getD i ze = ze := by
  unfold pad4
  rw [List.getD_eq_getElem?_getD, List.getElem?_append_right hi, List.getElem?_replicate]
  split <;> rfl
theorem EntsOK.at (h : EntsOK E) (i : Nat) : (pad4 E).getD i ze = ze ∨ (i < E.length ∧ EntOK ((pad4 E).getD i ze)) := by
  by_cases hi : i < E.length
  · right
    refine ⟨hi, ?_⟩
    rw [pad4_get i hi]
    apply h.all
    rw [List.getD_eq_getElem?_getD, List.getElem?_eq_getElem hi]
    exact List.getElem_mem hi
  · exact Or.inl (pad4_past i (by omega))
theorem EntsOK.lt (h : EntsOK E) (i : Nat) : ((pad4 E).getD i ze).first < 65536 := by
  rcases h.at i with x | ⟨_, x⟩
  · rw [x]; decide
  · exact x.lt
theorem EntsOK.num (h : EntsOK E) (i : Nat) (hi : i < 4) : num (listBytes E) (16 * i) = ((pad4 E).getD i ze).first := by
  have hlt := h.lt i
  have h0 := h.get i hi 0 (by omega)
  have h1 := h.get i hi 1 (by omega)
  rw [Nat.add_zero] at h0
  unfold Go.Proofs.YtknjjjenklfeoaaGreatDoor.num byteAt
  rw [h0, h1]
  show 256 * (UInt8.ofNat (((pad4 E).getD i ze).first / 256)).toNat + (UInt8.ofNat (((pad4 E).getD i ze).first % 256)).toNat = _
  rw [UInt8.toNat_ofNat', UInt8.toNat_ofNat']
  omega
theorem entBytes_name (e : EntR) (j : Nat) : (entBytes e).getD (j + 2) 0 = e.name.getD j 0 := by
  show (e.name ++ List.replicate (14 - e.name.length) 0).getD j 0 = _
  rw [List.getD_eq_getElem?_getD, List.getD_eq_getElem?_getD]
  by_cases hj : j < e.name.length
  · rw [List.getElem?_append_left hj]
  · rw [List.getElem?_append_right (by omega), List.getElem?_replicate, List.getElem?_eq_none (show e.name.length ≤ j by omega)]
    split <;> rfl
theorem EntsOK.byte (h : EntsOK E) (i : Nat) (hi : i < 4) (j : Nat) (hj : j < 14) : (listBytes E).getD (16 * i + 2 + j) 0 = ((pad4 E).getD i ze).name.getD j 0 := by
  rw [Nat.add_assoc, Nat.add_comm 2 j, h.get i hi (j + 2) (by omega), entBytes_name]

/-- The reader reads a name. -/
theorem nameFrom_over (c : Clus) (a : Nat) (acc : List UInt8) : ∀ m i, (∀ j, i ≤ j → j < i + m → c.getD (a + j) 0 = 0) → nameFrom c a m i true acc = some acc
  | 0, _, _ => rfl
  | m + 1, i, h => by
    rw [nameFrom, if_pos (by unfold byteAt; rw [h i (by omega) (by omega)]; rfl)]
    exact nameFrom_over c a acc m (i + 1) (fun j h1 h2 => h j (by omega) (by omega))
theorem toNat_ne {b : UInt8} (h : b ≠ 0) : b.toNat ≠ 0 := fun e => h (UInt8.toNat_inj.1 (by simpa using e))
theorem nameFrom_name (c : Clus) (a : Nat) (s : List UInt8) (hs : ∀ b ∈ s, b ≠ 0) (h : ∀ j, j < 12 → c.getD (a + j) 0 = s.getD j 0) : ∀ m i, i + m = 12 → i ≤ s.length → s.length ≤ 12 → nameFrom c a m i false (s.take i) = some s
  | 0, i, h1, h2, h3 => by rw [nameFrom, List.take_of_length_le (by omega)]
  | m + 1, i, h1, h2, h3 => by
    rw [nameFrom]
    by_cases hi : i < s.length
    · have e : c.getD (a + i) 0 = s[i] := by rw [h i (by omega), List.getD_eq_getElem?_getD, List.getElem?_eq_getElem hi]; rfl
      have hne := toNat_ne (hs _ (List.getElem_mem hi))
      rw [if_neg (by unfold byteAt; rw [e]; exact hne), if_neg (by decide), e, ← List.take_succ_eq_append_getElem hi]
      exact nameFrom_name c a s hs h m (i + 1) (by omega) (by omega) h3
    · have hz : ∀ j, i ≤ j → j < 12 → c.getD (a + j) 0 = 0 := fun j k1 k2 => by rw [h j k2, List.getD_eq_getElem?_getD, List.getElem?_eq_none (by omega)]; rfl
      rw [if_pos (by unfold byteAt; rw [hz i (by omega) (by omega)]; rfl), List.take_of_length_le (by omega)]
      exact nameFrom_over c a s m (i + 1) (fun j k1 k2 => hz j (by omega) (by omega))
theorem EntsOK.nameOf (h : EntsOK E) (i : Nat) (hi : i < E.length) : nameOf (listBytes E) (16 * i + 2) = ((E.getD i ze).name, true) := by
  have h4 := h.len
  have ok : EntOK (E.getD i ze) := by
    rcases h.at i with x | ⟨_, x⟩
    · rw [pad4_get i hi] at x
      have := h.all (E.getD i ze) (by rw [List.getD_eq_getElem?_getD, List.getElem?_eq_getElem hi]; exact List.getElem_mem hi)
      exact this
    · rw [pad4_get i hi] at x; exact x
  have e := nameFrom_name (listBytes E) (16 * i + 2) (E.getD i ze).name (name_letter ok.name) (fun j hj => by rw [h.byte i (by omega) j (by omega), pad4_get i hi]) 12 0 (by omega) (by omega) ok.le
  unfold Go.Proofs.YtknjjjenklfeoaaGreatDoor.nameOf
  rw [List.take_zero] at e
  rw [e]
  simp only
  rw [ok.name]

def rootE (e : EntR) : RootR := ⟨e.first, 5, e.name⟩
theorem nameIn_none (Q : List RootR) (s : List UInt8) : ∀ m k, (∀ j, k ≤ j → j < k + m → (Q.getD j ⟨0, 0, []⟩).name ≠ s) → nameIn Q s m k = false
  | 0, _, _ => rfl
  | m + 1, k, h => by rw [nameIn, if_neg (h k (by omega) (by omega))]; exact nameIn_none Q s m (k + 1) (fun j h1 h2 => h j (by omega) (by omega))
theorem EntsOK.zero (h : EntsOK E) (i : Nat) (hi : i < 4) (hE : E.length ≤ i) : restZero (listBytes E) 16 (16 * i) = true := by
  have hb : ∀ j, j < 16 → byteAt (listBytes E) (16 * i + j) = 0 := fun j hj => by
    unfold byteAt
    rw [h.get i hi j hj, pad4_past i hE]
    have : ∀ j : Fin 16, ((entBytes ze).getD j.val 0).toNat = 0 := by decide
    exact this ⟨j, hj⟩
  have key : ∀ m k, k + m = 16 → restZero (listBytes E) m (16 * i + k) = true := by
    intro m
    induction m with
    | zero => intro k _; rfl
    | succ m ih =>
      intro k hk
      rw [restZero, if_pos (hb k (by omega)), Nat.add_assoc]
      exact ih (k + 1) (by omega)
  exact key 16 0 rfl
theorem EntsOK.listFrom_past (h : EntsOK E) (Q : List RootR) : ∀ m i over, i + m = 4 → E.length ≤ i → listFrom (listBytes E) m i over Q = (true, Q)
  | 0, _, _, _, _ => rfl
  | m + 1, i, over, h1, h2 => by
    rw [listFrom, if_pos (by rw [h.num i (by omega), pad4_past i h2]; rfl), if_pos (h.zero i (by omega) h2)]
    exact h.listFrom_past Q m (i + 1) true (by omega) (by omega)
theorem EntsOK.listFrom (h : EntsOK E) (r0 : RootR) : ∀ m i, i + m = 4 → i ≤ E.length → Go.Proofs.YtknjjjenklfeoaaGreatDoor.listFrom (listBytes E) m i false (r0 :: (E.take i).map rootE) = (true, r0 :: E.map rootE)
  | 0, i, h1, h2 => by rw [Go.Proofs.YtknjjjenklfeoaaGreatDoor.listFrom, List.take_of_length_le (by have := h.len; omega)]
  | m + 1, i, h1, h2 => by
    by_cases hi : i < E.length
    · have hE : E.getD i ze = E[i] := by rw [List.getD_eq_getElem?_getD, List.getElem?_eq_getElem hi]; rfl
      have ok : EntOK E[i] := h.all _ (List.getElem_mem hi)
      have hn := h.nameOf i hi
      have hnum : Go.Proofs.YtknjjjenklfeoaaGreatDoor.num (listBytes E) (16 * i) = E[i].first := by rw [h.num i (by omega), pad4_get i hi, hE]
      have hbad : entryBad (listBytes E) i false = false := by
        unfold entryBad
        rw [hn]
        have e1 : byteAt (listBytes E) (16 * i + 14) = 0 := by
          unfold byteAt
          rw [show 16 * i + 14 = 16 * i + 2 + 12 by omega, h.byte i (by omega) 12 (by omega), pad4_get i hi, hE, List.getD_eq_getElem?_getD, List.getElem?_eq_none (by have := ok.le; omega)]
          rfl
        have e2 : byteAt (listBytes E) (16 * i + 15) = 0 := by
          unfold byteAt
          rw [show 16 * i + 15 = 16 * i + 2 + 13 by omega, h.byte i (by omega) 13 (by omega), pad4_get i hi, hE, List.getD_eq_getElem?_getD, List.getElem?_eq_none (by have := ok.le; omega)]
          rfl
        rw [e1, e2]
        rfl
      have hin : nameIn (r0 :: (E.take i).map rootE) E[i].name ((r0 :: (E.take i).map rootE).length - 1) 1 = false := by
        refine nameIn_none _ _ _ _ fun j k1 k2 => ?_
        have hj : j - 1 < i := by simp at k2; omega
        obtain ⟨q, rfl⟩ : ∃ q, j = q + 1 := ⟨j - 1, by omega⟩
        rw [List.getD_cons_succ, List.getD_eq_getElem?_getD, List.getElem?_map, List.getElem?_take_of_lt (by omega), List.getElem?_eq_getElem (by omega)]
        show E[q].name ≠ E[i].name
        intro e
        have hnd := h.nodup
        rw [List.nodup_iff_pairwise_ne, List.pairwise_map, List.pairwise_iff_getElem] at hnd
        exact hnd q i (by omega) hi (by omega) e
      rw [Go.Proofs.YtknjjjenklfeoaaGreatDoor.listFrom, if_neg (by rw [hnum]; exact ok.pos), hbad, hn]
      simp only [hE, Bool.false_eq_true, if_false, hin]
      rw [hnum]
      have e : (r0 :: (E.take i).map rootE) ++ [⟨E[i].first, 5, E[i].name⟩] = r0 :: (E.take (i + 1)).map rootE := by
        rw [List.take_succ_eq_append_getElem hi, List.map_append]; rfl
      rw [e]
      exact h.listFrom r0 m (i + 1) (by omega) (by omega)
    · rw [List.take_of_length_le (by omega)]
      exact h.listFrom_past _ (m + 1) i false h1 (by omega)

/-- The program reads the same. -/
theorem cutLen_name (s : List UInt8) (k : Nat) (hs : ∀ b ∈ s, b ≠ 0) : cutLen (s ++ List.replicate k 0) = s.length := by
  have h1 : ∀ k, Lib.indexByte (List.replicate k (0 : UInt8)) 0 = if k = 0 then -1 else 0 := fun k => by
    cases k with
    | zero => rfl
    | succ k => simp [List.replicate_succ, Lib.indexByte]
  have key : ∀ s : List UInt8, (∀ b ∈ s, b ≠ 0) → Lib.indexByte (s ++ List.replicate k 0) 0 = if k = 0 then -1 else (s.length : Int) := by
    intro s
    induction s with
    | nil => intro _; rw [List.nil_append, h1]; split <;> rfl
    | cons b r ih =>
      intro hs
      have := ih (fun x hx => hs x (by simp [hx]))
      have hb : (b == (0 : UInt8)) = false := by simpa using hs b (by simp)
      rw [List.cons_append, Lib.indexByte, hb, this]
      by_cases hk : k = 0
      · simp [hk]
      · have hne : (((r.length : Nat) : Int) == -1) = false := by rw [beq_eq_false_iff_ne]; omega
        simp only [hk, if_false, hne, Bool.false_eq_true, List.length_cons]
        omega
  unfold cutLen zeroAt
  rw [key s hs]
  by_cases hk : k = 0
  · rw [if_pos hk, if_neg (by decide), hk]; simp
  · rw [if_neg hk, if_pos (by omega)]; simp
theorem EntsOK.entOf (h : EntsOK E) (i : Nat) (hi : i < 4) : entOf (listBytes E) i = (pad4 E).getD i ze := by
  have hl := h.length
  have hshort : ((pad4 E).getD i ze).name.length ≤ 12 := by
    rcases h.at i with x | ⟨_, x⟩
    · rw [x]; decide
    · exact x.le
  have hlet : ∀ b ∈ ((pad4 E).getD i ze).name, b ≠ 0 := by
    rcases h.at i with x | ⟨_, x⟩
    · rw [x]; intro b hb; cases hb
    · exact name_letter x.name
  have e : nameBytes (listBytes E) i = ((pad4 E).getD i ze).name ++ List.replicate (12 - ((pad4 E).getD i ze).name.length) 0 := by
    unfold nameBytes
    apply List.ext_getElem?
    intro j
    by_cases hj : j < 12
    · have hb := h.byte i hi j (by omega)
      rw [List.getElem?_take_of_lt hj, List.getElem?_drop, List.getElem?_eq_getElem (by omega)]
      rw [List.getD_eq_getElem?_getD, List.getElem?_eq_getElem (by omega), List.getD_eq_getElem?_getD] at hb
      simp only [Option.getD_some] at hb
      rw [hb]
      by_cases hn : j < ((pad4 E).getD i ze).name.length
      · rw [List.getElem?_append_left hn, List.getElem?_eq_getElem hn]; rfl
      · rw [List.getElem?_append_right (by omega), List.getElem?_replicate, if_pos (by omega), List.getElem?_eq_none (by omega)]; rfl
    · rw [List.getElem?_eq_none (by rw [List.length_take]; omega), List.getElem?_eq_none (by rw [List.length_append, List.length_replicate]; omega)]
  unfold Go.Proofs.YtknjjjenklfeoaaGreatDoor.entOf
  rw [e, cutLen_name _ _ hlet, List.take_left, h.num i hi]
theorem EntsOK.entsOf (h : EntsOK E) : entsOf (listBytes E) = pad4 E := by
  apply List.ext_getElem?
  intro i
  unfold Go.Proofs.YtknjjjenklfeoaaGreatDoor.entsOf
  rw [List.getElem?_map]
  by_cases hi : i < 4
  · rw [List.getElem?_range hi, Option.map_some, h.entOf i hi, List.getD_eq_getElem?_getD, List.getElem?_eq_getElem (by rw [pad4_length h.len]; exact hi)]; rfl
  · rw [List.getElem?_eq_none (by simpa using hi), List.getElem?_eq_none (by rw [pad4_length h.len]; omega)]; rfl
theorem lenFrom_pad (h : EntsOK E) : ∀ m k, k + m = 4 → k ≤ E.length → lenFrom (pad4 E) m k = E.length
  | 0, k, h1, h2 => by rw [lenFrom]; have := h.len; omega
  | m + 1, k, h1, h2 => by
    rw [lenFrom]
    by_cases hk : k < E.length
    · rw [if_neg]
      · exact lenFrom_pad h m (k + 1) (by omega) (by omega)
      · rcases h.at k with x | ⟨_, x⟩
        · rw [pad4_get k hk] at x ⊢
          exact (h.all (E.getD k ze) (by rw [List.getD_eq_getElem?_getD, List.getElem?_eq_getElem hk]; exact List.getElem_mem hk)).pos
        · exact x.pos
    · rw [if_pos (by rw [pad4_past k (by omega)]; rfl)]
      omega
theorem EntsOK.lenOf (h : EntsOK E) : lenOf (pad4 E) = E.length := lenFrom_pad h 4 0 rfl (Nat.zero_le _)
theorem pad4_take : (pad4 E).take E.length = E := by unfold pad4; rw [List.take_left]
theorem EntsOK.picFirsts {C : List Clus} (h : EntsOK E) (hc : cl C 5 = listBytes E) : picFirsts C = E.map (·.first) := by
  unfold Go.Proofs.YtknjjjenklfeoaaGreatDoor.picFirsts
  rw [hc, h.entsOf, h.lenOf, pad4_take]
end
end Go.Proofs.YtknjjjenklfeoaaGreatDoor

/-
  Plain: what is in a file behind puts: the clusters, the counts, the head.
-/
namespace Go.Proofs.YtknjjjenklfeoaaGreatDoor
open Go.RowKit

theorem growTo_same {l : List Clus} {n : Nat} (h : n ≤ l.length) : growTo l n = l := by
  unfold growTo
  rw [show n - l.length = 0 by omega]
  simp
theorem cl_growTo {l : List Clus} (n t : Nat) (ht : t < l.length) : cl (growTo l n) t = cl l t := by
  unfold cl growTo
  rw [List.getD_eq_getElem?_getD, List.getElem?_append_left ht, List.getD_eq_getElem?_getD]
theorem set_cl {l : List Clus} {n : Nat} (h : n < l.length) : l.set n (cl l n) = l := by
  apply List.ext_getElem?
  intro i
  rw [List.getElem?_set]
  by_cases e : n = i
  · subst e
    rw [if_pos rfl, if_pos h, cl, List.getD_eq_getElem?_getD, List.getElem?_eq_getElem h]
    rfl
  · rw [if_neg e]
theorem putV_C (V : VolR) (n : Nat) (d : Clus) : (putV V n d).C = (growTo V.C (n + 1)).set n d := by
  unfold putV
  by_cases hc : n < V.C.length ∧ cl V.C n = d
  · rw [if_pos hc, growTo_same (by omega), ← hc.2, set_cl hc.1]
  · rw [if_neg hc]; rfl
theorem cl_putV_at (V : VolR) (n : Nat) (d : Clus) : cl (putV V n d).C n = d := by
  rw [putV_C, cl_setN _ _ _ _ (by rw [growTo_length]; omega), if_pos rfl]
theorem cl_putV_ne (V : VolR) (n : Nat) (d : Clus) (t : Nat) (ht : t < V.C.length) (hne : n ≠ t) : cl (putV V n d).C t = cl V.C t := by
  rw [putV_C, cl_setN _ _ _ _ (by rw [growTo_length]; omega), if_neg hne, cl_growTo _ _ ht]
theorem putCnt_len {V : VolR} (k : List UInt8) (h5 : 5 ≤ V.C.length) : ∀ p, p ≤ 4 → (putCnt V k p).C.length = V.C.length
  | 0, _ => rfl
  | p + 1, hp => by
    rw [putCnt, putV_lenC, putCnt_len k h5 p (by omega)]
    omega
theorem cl_putCnt {V : VolR} (k : List UInt8) (h5 : 5 ≤ V.C.length) (t : Nat) (ht : t < V.C.length) : ∀ p, p ≤ 4 → cl (putCnt V k p).C t = if 1 ≤ t ∧ t ≤ p then partOf k (t - 1) else cl V.C t
  | 0, _ => by rw [if_neg (by omega)]; rfl
  | p + 1, hp => by
    have ih := cl_putCnt k h5 t ht p (by omega)
    rw [putCnt]
    by_cases e : 1 + p = t
    · subst e
      rw [cl_putV_at, if_pos (by omega), show 1 + p - 1 = p by omega]
    · rw [cl_putV_ne _ _ _ _ (by rw [putCnt_len k h5 p (by omega)]; exact ht) e, ih]
      by_cases h1 : 1 ≤ t ∧ t ≤ p
      · rw [if_pos h1, if_pos (by omega)]
      · rw [if_neg h1, if_neg (by omega)]
theorem byteAt_part (k : List UInt8) (n : Nat) : byteAt (partOf k (n / 64)) (n % 64) = byteAt k n := by
  unfold byteAt partOf
  rw [List.getD_eq_getElem?_getD, List.getElem?_take_of_lt (by omega), List.getElem?_drop, List.getD_eq_getElem?_getD]
  congr 3
  omega
theorem lowTo_zero (c : List UInt8) (want : Nat) : ∀ k, ∀ n ∈ lowTo c want k, byteAt c n = 0
  | 0, n, hn => by simp [lowTo] at hn
  | k + 1, n, hn => by
    rw [lowTo] at hn
    split at hn
    · exact lowTo_zero c want k n hn
    · split at hn
      · rename_i _ h0
        rcases List.mem_append.1 hn with h | h
        · exact lowTo_zero c want k n h
        · rw [List.mem_singleton.1 h]; exact h0
      · exact lowTo_zero c want k n hn
theorem lowFree_one {c : List UInt8} (h : 0 < (lowFree c 1).length) : ∃ n, lowFree c 1 = [n] ∧ n < 256 ∧ byteAt c n = 0 := by
  have h1 : (lowFree c 1).length ≤ 1 := (lowTo_le c 1 256).1
  obtain ⟨n, hn⟩ := List.length_eq_one_iff.1 (show (lowFree c 1).length = 1 by omega)
  exact ⟨n, hn, lowFree_lt c 1 n (by rw [hn]; simp), lowTo_zero c 1 256 n (by show n ∈ lowFree c 1; rw [hn]; simp)⟩
/-- Where fewer than wanted are found, those are all. -/
theorem lowTo_all (c : List UInt8) (want : Nat) : ∀ k, (lowTo c want k).length < want → (lowTo c want k).length = cntTo (fun m => byteAt c m == 0) k
  | 0, _ => rfl
  | k + 1, h => by
    rw [lowTo] at h ⊢
    simp only [cntTo]
    split at h
    · omega
    · rename_i hw
      rw [if_neg hw]
      have hk := (lowTo_le c want k).1
      have ih := lowTo_all c want k (by omega)
      split at h
      · rename_i h0
        rw [if_pos h0, if_pos (by simpa using h0), List.length_append, ih]; rfl
      · rename_i h0
        rw [if_neg h0, if_neg (by simpa using h0), ih]; rfl
end Go.Proofs.YtknjjjenklfeoaaGreatDoor

/-
  Plain: the head as it is written.
-/
namespace Go.Proofs.YtknjjjenklfeoaaGreatDoor
open Go.RowKit

def head0 : Clus := velm ++ List.replicate 60 0
theorem byteAt_putNum (c : Clus) (k n m : Nat) (hk : k + 1 < c.length) (hn : n < 65536) : byteAt (putNum c k n) m = if m = k then n / 256 else if m = k + 1 then n % 256 else byteAt c m := by
  have e1 : (UInt8.ofNat (n / 256)).toNat = n / 256 := by rw [UInt8.toNat_ofNat']; omega
  have e2 : (UInt8.ofNat (n % 256)).toNat = n % 256 := by rw [UInt8.toNat_ofNat']; omega
  unfold putNum
  rw [byteAt_set _ _ _ _ (by simpa using hk), byteAt_set _ _ _ _ (by omega), e1, e2]
  by_cases h1 : m = k
  · subst h1; rw [if_neg (by omega), if_pos rfl, if_pos rfl]
  · rw [if_neg h1]
    by_cases h2 : m = k + 1
    · subst h2; rw [if_pos rfl, if_pos rfl]
    · rw [if_neg (fun e => h2 e.symm), if_neg (fun e => h1 e.symm), if_neg h2]
section
variable {a b : Nat}
theorem byteAt_head (ha : a < 65536) (hb : b < 65536) (m : Nat) : byteAt (headBytes a b) m = if m = 6 then b / 256 else if m = 7 then b % 256 else if m = 4 then a / 256 else if m = 5 then a % 256 else byteAt head0 m := by
  unfold headBytes
  rw [byteAt_putNum _ 6 b m (by rw [putNum_length]; decide) hb, byteAt_putNum _ 4 a m (by decide) ha]
  rfl
theorem num_head4 (ha : a < 65536) (hb : b < 65536) : num (headBytes a b) 4 = a := by
  unfold num
  rw [byteAt_head ha hb, byteAt_head ha hb]
  simp only [show ¬ (4 = 6) by decide, show ¬ (4 = 7) by decide, show ¬ (4 + 1 = 6) by decide, show ¬ (4 + 1 = 7) by decide, show ¬ (4 + 1 = 4) by decide, if_true, if_false]
  omega
theorem num_head6 (ha : a < 65536) (hb : b < 65536) : num (headBytes a b) 6 = b := by
  unfold num
  rw [byteAt_head ha hb, byteAt_head ha hb]
  simp only [show ¬ (6 + 1 = 6) by decide, if_true, if_false]
  omega
theorem restZero_of (c : Clus) : ∀ m i, (∀ j, i ≤ j → j < i + m → byteAt c j = 0) → restZero c m i = true
  | 0, _, _ => rfl
  | m + 1, i, h => by
    rw [restZero, if_pos (h i (by omega) (by omega))]
    exact restZero_of c m (i + 1) (fun j h1 h2 => h j (by omega) (by omega))
theorem head0_rest : ∀ j : Fin 64, 8 ≤ j.val → byteAt head0 j.val = 0 := by decide
theorem head_rest (ha : a < 65536) (hb : b < 65536) : restZero (headBytes a b) 56 8 = true :=
  restZero_of _ _ _ fun j h1 h2 => by
    rw [byteAt_head ha hb, if_neg (by omega), if_neg (by omega), if_neg (by omega), if_neg (by omega)]
    exact head0_rest ⟨j, by omega⟩ h1
theorem head_velm : (headBytes a b).take 4 = velm := by
  unfold headBytes putNum
  rw [List.take_set_of_le (by omega), List.take_set_of_le (by omega), List.take_set_of_le (by omega), List.take_set_of_le (by omega)]
  rfl
end
theorem padTo_same {C : List Clus} : padTo C C.length = C := by
  unfold padTo
  apply List.ext_getElem?
  intro i
  rw [List.getElem?_map]
  by_cases h : i < C.length
  · rw [List.getElem?_range h, Option.map_some, if_pos h, cl, List.getD_eq_getElem?_getD, List.getElem?_eq_getElem h]; rfl
  · rw [List.getElem?_eq_none (by simpa using h), List.getElem?_eq_none (by omega)]; rfl

end Go.Proofs.YtknjjjenklfeoaaGreatDoor

/-
  The reference's Write; and, where there are no pictures, Copied, Same, and Disk of a file.
-/
namespace Go.Proofs.YtknjjjenklfeoaaGreatDoor
open Go.RowKit
attribute [local go_sem ↓] loadVar_clus storeVar_clus zeroValue_clus loadVar_cont storeVar_cont zeroValue_cont build_disk equalIn_cont
attribute [local go_sem] run_loadClus run_storeClus run_zeroClus run_storeClus_new run_loadClus_new zc_length run_loadCont run_storeCont run_zeroCont run_bDisk
def diskOf (R : FileR) : DiskR := ⟨contentOf R.L (rootOf R 0).N, (List.range (R.roots.length - 1)).map fun i => ⟨(rootOf R (i + 1)).name, contentOf R.L (rootOf R (i + 1)).N⟩⟩
end Go.Proofs.YtknjjjenklfeoaaGreatDoor
