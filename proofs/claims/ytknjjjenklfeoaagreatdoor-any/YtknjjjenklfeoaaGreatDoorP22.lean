import Derived.Test.YtknjjjenklfeoaaGreatDoorP21
/-
  Plain: sound files: what may differ in one (marks, counts, what nobody tells); other first tables.
-/
namespace Go.Proofs.YtknjjjenklfeoaaGreatDoor

/-- The tables tell the same, but for marks. -/
structure Shape (L L' : List Clus) (rs : List RootR) : Prop where
  t1 : ∀ r ∈ rs, ∀ j, j < 32 → SameN (nm L' r.N j) (nm L r.N j)
  t2 : ∀ s, IsSec L rs s → ∀ k, k < 32 → SameN (nm L' s k) (nm L s k)
section
variable {L L' L2 : List Clus} {rs : List RootR}
theorem Shape.isSec (h : Shape L L' rs) (s : Nat) : IsSec L' rs s ↔ IsSec L rs s := by
  constructor
  · rintro ⟨r, hr, j, hj, h0, e⟩
    have := h.t1 r hr j (by omega)
    exact ⟨r, hr, j, hj, fun x => h0 (this.1.2 x), by rw [← this.2]; exact e⟩
  · rintro ⟨r, hr, j, hj, h0, e⟩
    have := h.t1 r hr j (by omega)
    exact ⟨r, hr, j, hj, fun x => h0 (this.1.1 x), by rw [this.2]; exact e⟩
theorem Shape.isBlk (h : Shape L L' rs) (n : Nat) : IsBlk L' rs n ↔ IsBlk L rs n := by
  constructor
  · rintro ⟨s, hs, k, hk, h0, e⟩
    have hs' := (h.isSec s).1 hs
    have := h.t2 s hs' k hk
    exact ⟨s, hs', k, hk, fun x => h0 (this.1.2 x), by rw [← this.2]; exact e⟩
  · rintro ⟨s, hs, k, hk, h0, e⟩
    have := h.t2 s hs k hk
    exact ⟨s, (h.isSec s).2 hs, k, hk, fun x => h0 (this.1.1 x), by rw [this.2]; exact e⟩
theorem Shape.symm (h : Shape L L' rs) : Shape L' L rs := ⟨fun r hr j hj => (h.t1 r hr j hj).symm, fun s hs k hk => (h.t2 s ((h.isSec s).1 hs) k hk).symm⟩
theorem Shape.trans (h : Shape L L' rs) (k : Shape L' L2 rs) : Shape L L2 rs :=
  ⟨fun r hr j hj => (k.t1 r hr j hj).trans (h.t1 r hr j hj), fun s hs q hq => (k.t2 s ((h.isSec s).2 hs) q hq).trans (h.t2 s hs q hq)⟩
theorem Shape.of_same (h1 : ∀ r ∈ rs, cl L' r.N = cl L r.N) (h2 : ∀ s, IsSec L rs s → cl L' s = cl L s) : Shape L L' rs :=
  ⟨fun r hr j _ => by unfold nm; rw [h1 r hr]; exact SameN.refl _, fun s hs k _ => by unfold nm; rw [h2 s hs]; exact SameN.refl _⟩
theorem inOcc_same {s n : Nat} (h : ∀ k, k < 32 → SameN (nm L' s k) (nm L s k)) : inOcc L' s n = inOcc L s n :=
  sumFrom_congr 32 0 fun j _ hj => (h j (by omega)).hit n
theorem secOcc_same {t j n : Nat} (h : SameN (nm L' t j) (nm L t j)) (h2 : nm L t j ≠ 0 → ∀ k, k < 32 → SameN (nm L' (nm L t j % 32768) k) (nm L (nm L t j % 32768) k)) : secOcc L' t j n = secOcc L t j n := by
  unfold secOcc
  by_cases e : nm L t j = 0
  · rw [if_pos e, if_pos (h.1.2 e)]
  · rw [if_neg e, if_neg (fun x => e (h.1.1 x)), h.hit n, h.2, inOcc_same (h2 e)]
theorem Shape.tree (h : Shape L L' rs) {r : RootR} (hr : r ∈ rs) (n : Nat) : treeOcc L' r.N n = treeOcc L r.N n := by
  unfold treeOcc
  rw [secOcc_same (h.t1 r hr 0 (by omega)) (fun h0 => h.t2 _ ⟨r, hr, 0, by omega, h0, rfl⟩), secOcc_same (h.t1 r hr 1 (by omega)) (fun h0 => h.t2 _ ⟨r, hr, 1, by omega, h0, rfl⟩)]
theorem Shape.use (h : Shape L L' rs) (n : Nat) : useOf L' rs n = useOf L rs n := by
  unfold useOf
  rw [List.map_congr_left (fun r hr => h.tree hr n)]
/-- Marks and counts may be others. -/
theorem SoundL.shape (h : SoundL L rs) (hs : Shape L L' rs) (hl : L.length ≤ L'.length) (hl' : L'.length ≤ 256)
    (cnt : ∀ n, n < 256 → base6 n + useOf L rs n ≤ countOf L' n) (top : ∀ n, n < 256 → countOf L' n < 255) (none : ∀ n, n < 256 → L'.length ≤ n → countOf L' n = 0)
    (m1 : ∀ r ∈ rs, ∀ j, j < 2 → 32768 ≤ nm L' r.N j → countOf L' (nm L' r.N j % 32768) = 1) (m2 : ∀ s, IsSec L rs s → ∀ k, k < 32 → 32768 ≤ nm L' s k → countOf L' (nm L' s k % 32768) = 1) : SoundL L' rs where
  len := hl'
  six := Nat.le_trans h.six hl
  fst := fun r hr => ⟨(h.fst r hr).1, Nat.lt_of_lt_of_le (h.fst r hr).2 hl⟩
  nodup := h.nodup
  zero := fun r hr i h1 h2 => (hs.t1 r hr i h2).1.2 (h.zero r hr i h1 h2)
  sec := fun s x => by have := h.sec s ((hs.isSec s).1 x); omega
  blk := fun n x => by have := h.blk n ((hs.isBlk n).1 x); omega
  fs := fun t ht x => h.fs t ht ((hs.isSec t).1 x)
  fb := fun t ht x => h.fb t ht ((hs.isBlk t).1 x)
  sb := fun t ht x => h.sb t ((hs.isSec t).1 ht) ((hs.isBlk t).1 x)
  cnt := fun n hn => by rw [hs.use]; exact cnt n hn
  top := top
  none := none
  mark1 := m1
  mark2 := fun s x => m2 s ((hs.isSec s).1 x)
/-- What is not used is told by nobody. -/
theorem SoundL.untold (h : SoundL L rs) {n : Nat} (hn : n < 256) (h0 : countOf L n = 0) : ¬ IsFst rs n ∧ ¬ IsSec L rs n ∧ ¬ IsBlk L rs n := by
  have hc := h.cnt n hn
  refine ⟨fun x => ?_, fun x => ?_, fun x => ?_⟩
  · have := use_fst (L := L) x; omega
  · have := use_sec x; omega
  · have := use_blk x; omega
theorem SoundL.free_six (h : SoundL L rs) {n : Nat} (hn : n < 256) (h0 : countOf L n = 0) : 6 ≤ n := by
  have := h.cnt n hn
  rw [base6_eq, h0] at this
  by_cases e : n < 6
  · rw [if_pos e] at this; omega
  · omega

/-- What a first table holds depends on its tables and blocks alone. -/
theorem numAt_same {t b : Nat} (hb : b < 64) (h1 : ∀ j, j < 2 → SameN (nm L' t j) (nm L t j)) (h2 : ∀ j, j < 2 → nm L t j ≠ 0 → ∀ k, k < 32 → SameN (nm L' (nm L t j % 32768) k) (nm L (nm L t j % 32768) k)) : SameN (numAt L' t b) (numAt L t b) := by
  have hj := h1 (b / 32) (by omega)
  unfold numAt
  by_cases e : num (cl L t) (2 * (b / 32)) = 0
  · rw [if_pos e, if_pos (hj.1.2 e)]; exact SameN.refl _
  · rw [if_neg e, if_neg (fun x => e (hj.1.1 x))]
    have := h2 (b / 32) (by omega) e (b % 32) (by omega)
    have e2 : num (cl L' t) (2 * (b / 32)) % 32768 = num (cl L t) (2 * (b / 32)) % 32768 := hj.2
    rw [e2]; exact this
theorem content_ext {t t' : Nat} (h : ∀ b, b < 64 → blkOf L' t' b = blkOf L t b) : contentOf L' t' = contentOf L t := by
  apply List.ext_getElem?
  intro b
  by_cases hb : b < 64
  · rw [contentOf_get _ _ _ hb, contentOf_get _ _ _ hb, h b hb]
  · rw [List.getElem?_eq_none (by rw [contentOf_length]; omega), List.getElem?_eq_none (by rw [contentOf_length]; omega)]
theorem blkOf_same {t t' b : Nat} (h : SameN (numAt L' t' b) (numAt L t b)) (hc : numAt L t b ≠ 0 → cl L' (numAt L t b % 32768) = cl L (numAt L t b % 32768)) : blkOf L' t' b = blkOf L t b := by
  rw [blkOf_numAt, blkOf_numAt]
  by_cases e : numAt L t b = 0
  · rw [if_pos e, if_pos (h.1.2 e)]
  · rw [if_neg e, if_neg (fun x => e (h.1.1 x)), h.2, hc e]
theorem numAt_isBlk {r : RootR} (hr : r ∈ rs) {b : Nat} (hb : b < 64) (h0 : numAt L r.N b ≠ 0) : IsBlk L rs (numAt L r.N b % 32768) := by
  obtain ⟨h1, e⟩ := numAt_ne h0
  exact ⟨_, ⟨r, hr, b / 32, by omega, h1, rfl⟩, b % 32, by omega, by unfold nm; rw [← e]; exact h0, by unfold nm; rw [← e]⟩
theorem Shape.content (h : Shape L L' rs) (hb : ∀ n, IsBlk L rs n → cl L' n = cl L n) {r : RootR} (hr : r ∈ rs) : contentOf L' r.N = contentOf L r.N :=
  content_ext fun b hb64 => blkOf_same (numAt_same hb64 (fun j hj => h.t1 r hr j (by omega)) (fun j hj h0 => h.t2 _ ⟨r, hr, j, hj, h0, rfl⟩)) (fun h0 => hb _ (numAt_isBlk hr hb64 h0))

/-- Other first tables, each of which tells what one of the first tables tells. -/
theorem SoundL.roots {rs' : List RootR} (h : SoundL L rs)
    (hr : ∀ r' ∈ rs', (6 ≤ r'.N ∧ r'.N < L.length) ∧ ¬ IsSec L rs r'.N ∧ ¬ IsBlk L rs r'.N ∧ ∃ r ∈ rs, ∀ j, j < 32 → nm L r'.N j = nm L r.N j)
    (hn : (rs'.map (·.N)).Nodup) (cnt : ∀ n, n < 256 → base6 n + useOf L rs' n ≤ countOf L n) : SoundL L rs' := by
  have hsec : ∀ s, IsSec L rs' s → IsSec L rs s := by
    rintro s ⟨r', hr', j, hj, h0, e⟩
    obtain ⟨_, _, _, r, hr1, hs⟩ := hr r' hr'
    rw [hs j (by omega)] at h0 e
    exact ⟨r, hr1, j, hj, h0, e⟩
  have hblk : ∀ n, IsBlk L rs' n → IsBlk L rs n := fun n ⟨s, hs, x⟩ => ⟨s, hsec s hs, x⟩
  refine ⟨h.len, h.six, fun r' hr' => (hr r' hr').1, hn, fun r' hr' i h1 h2 => ?_, fun s hs => h.sec s (hsec s hs), fun n hn => h.blk n (hblk n hn), ?_, ?_, fun t ht x => h.sb t (hsec t ht) (hblk t x), cnt, h.top, h.none, fun r' hr' j hj hm => ?_, fun s hs => h.mark2 s (hsec s hs)⟩
  · obtain ⟨_, _, _, r, hr1, hs⟩ := hr r' hr'
    rw [hs i h2]; exact h.zero r hr1 i h1 h2
  · rintro t ⟨r', hr', rfl⟩ x
    exact (hr r' hr').2.1 (hsec _ x)
  · rintro t ⟨r', hr', rfl⟩ x
    exact (hr r' hr').2.2.1 (hblk _ x)
  · obtain ⟨_, _, _, r, hr1, hs⟩ := hr r' hr'
    rw [hs j (by omega)] at hm ⊢
    exact h.mark1 r hr1 j hj hm
theorem content_copy {t t' : Nat} (hs : ∀ j, j < 32 → nm L t' j = nm L t j) : contentOf L t' = contentOf L t := by
  refine content_ext fun b hb => ?_
  rw [blkOf_numAt, blkOf_numAt]
  have e : numAt L t' b = numAt L t b := by
    unfold numAt
    have := hs (b / 32) (by omega)
    unfold nm at this
    rw [this]
  rw [e]
end
end Go.Proofs.YtknjjjenklfeoaaGreatDoor

/-
  Plain: one number of a table is another: a new block; a new second table.
-/
namespace Go.Proofs.YtknjjjenklfeoaaGreatDoor
section
variable {L L' : List Clus} {rs : List RootR}
theorem use_roots {r r' : RootR} (hr : r ∈ rs) (hr' : r' ∈ rs) (hne : r.N ≠ r'.N) (n : Nat) : treeOcc L r.N n + treeOcc L r'.N n ≤ useOf L rs n := by
  unfold useOf
  induction rs with
  | nil => simp at hr
  | cons a l ih =>
    rw [List.map_cons, List.sum_cons]
    rcases List.mem_cons.1 hr with e | h
    · rcases List.mem_cons.1 hr' with e' | h'
      · rw [e, e'] at hne; exact absurd rfl hne
      · have := useOf_tree (L := L) h' n
        unfold useOf at this
        rw [e]; omega
    · rcases List.mem_cons.1 hr' with e' | h'
      · have := useOf_tree (L := L) h n
        unfold useOf at this
        rw [e']; omega
      · have := ih h h'; omega
/-- A second table that is used once is told in one place. -/
theorem sec_place {s : Nat} (h1 : useOf L rs s = 1) {r r' : RootR} {j j' : Nat} (hr : r ∈ rs) (hr' : r' ∈ rs) (hj : j < 2) (hj' : j' < 2) (h0 : nm L r.N j ≠ 0) (h0' : nm L r'.N j' ≠ 0) (e : nm L r.N j % 32768 = s) (e' : nm L r'.N j' % 32768 = s) : r'.N = r.N ∧ j' = j := by
  have key : ∀ (x : RootR) (q : Nat), nm L x.N q ≠ 0 → nm L x.N q % 32768 = s → 1 ≤ secOcc L x.N q s := by
    intro x q h0 e
    unfold secOcc
    rw [if_neg h0, hit_one h0 e]
    omega
  have k1 := key r j h0 e
  have k2 := key r' j' h0' e'
  by_cases hN : r'.N = r.N
  · refine ⟨hN, ?_⟩
    by_cases hq : j' = j
    · exact hq
    · have := useOf_tree (L := L) hr s
      rw [hN] at k2
      unfold treeOcc at this
      have : (j = 0 ∧ j' = 1) ∨ (j = 1 ∧ j' = 0) := by omega
      rcases this with ⟨rfl, rfl⟩ | ⟨rfl, rfl⟩ <;> omega
  · have := use_roots (L := L) hr hr' (fun x => hN x.symm) s
    have := secOcc_tree L r.N j s hj
    have := secOcc_tree L r'.N j' s hj'
    omega
/-- One tree uses otherwise. -/
theorem use_change {t a b n : Nat} (hn : (rs.map (·.N)).Nodup) (ht : IsFst rs t) (ho : ∀ r ∈ rs, r.N ≠ t → treeOcc L' r.N n = treeOcc L r.N n) (hc : treeOcc L' t n + a = treeOcc L t n + b) : useOf L' rs n + a = useOf L rs n + b := by
  unfold useOf
  induction rs with
  | nil => obtain ⟨r, hr, _⟩ := ht; simp at hr
  | cons x l ih =>
    rw [List.map_cons, List.sum_cons, List.map_cons, List.sum_cons]
    rw [List.map_cons, List.nodup_cons] at hn
    by_cases e : x.N = t
    · have : (l.map fun r => treeOcc L' r.N n) = l.map fun r => treeOcc L r.N n := List.map_congr_left fun r hr => ho r (by simp [hr]) (fun z => hn.1 (by rw [e, ← z]; exact List.mem_map.2 ⟨r, hr, rfl⟩))
      rw [this, e]; omega
    · have ht' : IsFst l t := by
        obtain ⟨r, hr, hN⟩ := ht
        rcases List.mem_cons.1 hr with z | z
        · rw [z] at hN; exact absurd hN e
        · exact ⟨r, z, hN⟩
      have := ih hn.2 ht' (fun r hr => ho r (by simp [hr]))
      rw [ho x (by simp) e]; omega
theorem tree_change {t j a b n : Nat} (hj : j < 2) (ho : ∀ q, q < 2 → q ≠ j → secOcc L' t q n = secOcc L t q n) (hc : secOcc L' t j n + a = secOcc L t j n + b) : treeOcc L' t n + a = treeOcc L t n + b := by
  unfold treeOcc
  have : j = 0 ∨ j = 1 := by omega
  rcases this with rfl | rfl
  · have := ho 1 (by omega) (by omega); omega
  · have := ho 0 (by omega) (by omega); omega

/-- The k-th number of table s is x. -/
structure PutN (L L' : List Clus) (s k x : Nat) : Prop where
  len : L'.length = L.length
  now : nm L' s k = x
  oth : ∀ q, q < 32 → q ≠ k → nm L' s q = nm L s q
  same : ∀ t, t ≠ s → cl L' t = cl L t
theorem PutN.count {s k x : Nat} (h : PutN L L' s k x) (hs : 6 ≤ s) (n : Nat) (hn : n < 256) : countOf L' n = countOf L n := by
  unfold countOf; rw [h.same _ (by omega)]

variable {r : RootR} {j s k n : Nat}
/-- A new block in a second table that is used once. -/
structure BlkIn (L L' : List Clus) (rs : List RootR) (r : RootR) (j s k n : Nat) : Prop where
  put : PutN L L' s k (n + 32768)
  hr : r ∈ rs
  hj : j < 2
  hk : k < 32
  h0 : nm L r.N j ≠ 0
  hs : nm L r.N j % 32768 = s
  one : countOf L s = 1
  nin : 6 ≤ n ∧ n < L.length
  cn : countOf L n = 1
  un : ¬ IsFst rs n ∧ ¬ IsSec L rs n ∧ ¬ IsBlk L rs n
theorem BlkIn.lt {n : Nat} (h : BlkIn L L' rs r j s k n) (hL : L.length ≤ 256) : (n + 32768) % 32768 = n := by have := h.nin; omega
theorem BlkIn.sec (b : BlkIn L L' rs r j s k n) : IsSec L rs s := ⟨r, b.hr, j, b.hj, b.h0, b.hs⟩
theorem BlkIn.use1 (h : SoundL L rs) (b : BlkIn L L' rs r j s k n) : useOf L rs s = 1 := by
  have h1 := use_sec b.sec
  have h2 := h.sec s b.sec
  have h3 := h.cnt s (by have := h.len; omega)
  have := b.one
  omega
theorem BlkIn.fst (h : SoundL L rs) (b : BlkIn L L' rs r j s k n) {r' : RootR} (hr' : r' ∈ rs) : cl L' r'.N = cl L r'.N :=
  b.put.same _ fun e => h.fs _ ⟨r', hr', e⟩ b.sec
theorem BlkIn.isSec (h : SoundL L rs) (b : BlkIn L L' rs r j s k n) (x : Nat) : IsSec L' rs x ↔ IsSec L rs x := by
  constructor
  · rintro ⟨r', hr', j', hj', h0, e⟩
    unfold nm at h0 e
    rw [b.fst h hr'] at h0 e
    exact ⟨r', hr', j', hj', h0, e⟩
  · rintro ⟨r', hr', j', hj', h0, e⟩
    refine ⟨r', hr', j', hj', ?_, ?_⟩
    · unfold nm; rw [b.fst h hr']; exact h0
    · unfold nm; rw [b.fst h hr']; exact e
theorem BlkIn.isBlk (h : SoundL L rs) (b : BlkIn L L' rs r j s k n) (x : Nat) (hx : IsBlk L' rs x) : IsBlk L rs x ∨ x = n := by
  obtain ⟨s', hs', q, hq, h0, e⟩ := hx
  rw [b.isSec h] at hs'
  by_cases e1 : s' = s
  · subst e1
    by_cases e2 : q = k
    · subst e2
      rw [b.put.now, b.lt h.len] at e
      exact Or.inr e.symm
    · rw [b.put.oth q hq e2] at h0 e
      exact Or.inl ⟨s', hs', q, hq, h0, e⟩
  · unfold nm at h0 e
    rw [b.put.same s' e1] at h0 e
    exact Or.inl ⟨s', hs', q, hq, h0, e⟩
theorem BlkIn.use (h : SoundL L rs) (b : BlkIn L L' rs r j s k n) (m : Nat) : useOf L' rs m + hit (nm L s k) m = useOf L rs m + if n = m then 1 else 0 := by
  have h1 := b.use1 h
  have hn := b.lt h.len
  have hx : hit (n + 32768) m = if n = m then 1 else 0 := by
    unfold hit
    rw [hn]
    by_cases e : n = m
    · rw [if_pos e, if_pos ⟨by omega, e⟩]
    · rw [if_neg e, if_neg (fun z => e z.2)]
  have hin : inOcc L' s m + hit (nm L s k) m = inOcc L s m + hit (n + 32768) m := by
    have := sumFrom_one (f := fun q => hit (nm L' s q) m) (g := fun q => hit (nm L s q) m) (a := k) 32 0 (by omega) (by have := b.hk; omega) (fun q _ hq hne => by rw [b.put.oth q (by omega) hne])
    simp only [b.put.now] at this
    exact this
  have hsec : ∀ r' ∈ rs, ∀ q, q < 2 → (r'.N ≠ r.N ∨ q ≠ j) → secOcc L' r'.N q m = secOcc L r'.N q m := by
    intro r' hr' q hq hne
    refine secOcc_same ?_ fun h0 k' hk' => ?_
    · unfold nm; rw [b.fst h hr']; exact SameN.refl _
    · unfold nm
      rw [b.put.same]
      · exact SameN.refl _
      · intro e
        have := sec_place h1 b.hr hr' b.hj hq b.h0 h0 b.hs e
        omega
  have hat : secOcc L' r.N j m + hit (nm L s k) m = secOcc L r.N j m + hit (n + 32768) m := by
    have e : nm L' r.N j = nm L r.N j := by unfold nm; rw [b.fst h b.hr]
    unfold secOcc
    rw [e, if_neg b.h0, if_neg b.h0, b.hs]
    omega
  rw [← hx]
  exact use_change h.nodup ⟨r, b.hr, rfl⟩ (fun r' hr' hne => by
    unfold treeOcc
    rw [hsec r' hr' 0 (by omega) (Or.inl hne), hsec r' hr' 1 (by omega) (Or.inl hne)]) (tree_change b.hj (fun q hq hne => hsec r b.hr q hq (Or.inr hne)) hat)
theorem BlkIn.sound (h : SoundL L rs) (b : BlkIn L L' rs r j s k n) : SoundL L' rs := by
  have h6 := (h.sec s b.sec).1
  have hc := fun m hm => b.put.count h6 m hm
  have hlen := h.len
  refine ⟨by rw [b.put.len]; exact h.len, by rw [b.put.len]; exact h.six, fun r' hr' => by rw [b.put.len]; exact h.fst r' hr', h.nodup, fun r' hr' i h1 h2 => ?_, fun x hx => ?_, fun x hx => ?_, fun t ht x => h.fs t ht ((b.isSec h t).1 x), fun t ht x => ?_, fun t ht x => ?_, fun m hm => ?_, fun m hm => by rw [hc m hm]; exact h.top m hm, fun m hm hl => by rw [hc m hm]; exact h.none m hm (by rw [← b.put.len]; exact hl), fun r' hr' q hq hm => ?_, fun x hx q hq hm => ?_⟩
  · unfold nm; rw [b.fst h hr']; exact h.zero r' hr' i h1 h2
  · rw [b.put.len]; exact h.sec x ((b.isSec h x).1 hx)
  · rw [b.put.len]
    rcases b.isBlk h x hx with y | y
    · exact h.blk x y
    · rw [y]; exact b.nin
  · rcases b.isBlk h t x with y | y
    · exact h.fb t ht y
    · rw [y] at ht; exact b.un.1 ht
  · rcases b.isBlk h t x with y | y
    · exact h.sb t ((b.isSec h t).1 ht) y
    · rw [y] at ht; exact b.un.2.1 ((b.isSec h n).1 ht)
  · rw [hc m hm]
    have h1 := b.use h m
    have h2 := h.cnt m hm
    by_cases e : n = m
    · subst e
      rw [if_pos rfl] at h1
      have h3 : useOf L rs n = 0 := by
        by_cases z : useOf L rs n = 0
        · exact z
        · exfalso
          have h4 : 0 < useOf L rs n := by omega
          rw [← occ_allTells h.zero] at h4
          unfold occ at h4
          obtain ⟨y, hy, e⟩ := List.mem_map.1 (List.count_pos_iff.1 h4)
          rcases (mem_all h.zero y).1 hy with ⟨_, k1⟩ | ⟨_, k1⟩ | ⟨_, k1⟩
          · rw [e] at k1; exact b.un.1 k1
          · rw [e] at k1; exact b.un.2.1 k1
          · rw [e] at k1; exact b.un.2.2 k1
      have := b.cn
      have := b.nin
      rw [base6_eq, if_neg (by omega)]
      omega
    · rw [if_neg e] at h1; omega
  · have e : nm L' r'.N q = nm L r'.N q := by unfold nm; rw [b.fst h hr']
    rw [e] at hm ⊢
    have hx := h.sec _ ⟨r', hr', q, hq, by omega, rfl⟩
    rw [hc _ (by omega)]
    exact h.mark1 r' hr' q hq hm
  · rw [b.isSec h] at hx
    by_cases e1 : x = s
    · subst e1
      by_cases e2 : q = k
      · subst e2
        rw [b.put.now, b.lt h.len, hc n (by have := b.nin; omega)]
        exact b.cn
      · rw [b.put.oth q hq e2] at hm ⊢
        have hy := h.blk _ ⟨x, hx, q, hq, by omega, rfl⟩
        rw [hc _ (by omega)]
        exact h.mark2 x hx q hq hm
    · have e : nm L' x q = nm L x q := by unfold nm; rw [b.put.same x e1]
      rw [e] at hm ⊢
      have hy := h.blk _ ⟨x, hx, q, hq, by omega, rfl⟩
      rw [hc _ (by omega)]
      exact h.mark2 x hx q hq hm
/-- What the first tables hold then. -/
theorem BlkIn.content (h : SoundL L rs) (b : BlkIn L L' rs r j s k n) {r' : RootR} (hr' : r' ∈ rs) :
    contentOf L' r'.N = if r'.N = r.N then (contentOf L r'.N).set (32 * j + k) (cl L n) else contentOf L r'.N := by
  have h1 := b.use1 h
  have hsn : n ≠ s := fun e => b.un.2.1 (by rw [e]; exact b.sec)
  have hbl : ∀ x, IsBlk L rs x → cl L' x = cl L x := fun x hx => b.put.same x fun e => h.sb s b.sec (by rw [← e]; exact hx)
  have hn : cl L' n = cl L n := b.put.same n hsn
  have hj := b.hj
  have hk := b.hk
  have key : ∀ c, c < 64 → (r'.N ≠ r.N ∨ c ≠ 32 * j + k) → blkOf L' r'.N c = blkOf L r'.N c := by
    intro c hc hne
    have e : numAt L' r'.N c = numAt L r'.N c := by
      unfold numAt
      rw [b.fst h hr']
      by_cases h0 : num (cl L r'.N) (2 * (c / 32)) = 0
      · rw [if_pos h0, if_pos h0]
      · rw [if_neg h0, if_neg h0]
        by_cases e1 : num (cl L r'.N) (2 * (c / 32)) % 32768 = s
        · have := sec_place h1 b.hr hr' b.hj (by omega) b.h0 h0 b.hs e1
          rw [e1]
          exact b.put.oth (c % 32) (by omega) (by omega)
        · rw [b.put.same _ e1]
    exact blkOf_same (by rw [e]; exact SameN.refl _) (fun h0 => hbl _ (numAt_isBlk hr' hc h0))
  by_cases e : r'.N = r.N
  · rw [if_pos e]
    apply List.ext_getElem?
    intro c
    rw [List.getElem?_set]
    by_cases hc : c < 64
    · by_cases e2 : 32 * j + k = c
      · rw [if_pos e2, if_pos (by rw [contentOf_length]; omega), contentOf_get _ _ _ hc, blkOf_numAt]
        have e3 : numAt L' r'.N c = n + 32768 := by
          unfold numAt
          rw [b.fst h hr', e, show c / 32 = j by omega, show c % 32 = k by omega, if_neg b.h0]
          have := b.put.now
          unfold nm at this
          have hs := b.hs
          unfold nm at hs
          rw [hs]; exact this
        rw [e3, if_neg (by omega), b.lt h.len, hn]
      · rw [if_neg e2, contentOf_get _ _ _ hc, contentOf_get _ _ _ hc, key c hc (Or.inr (fun z => e2 z.symm))]
    · rw [if_neg (by omega), List.getElem?_eq_none (by rw [contentOf_length]; omega), List.getElem?_eq_none (by rw [contentOf_length]; omega)]
  · rw [if_neg e]
    exact content_ext fun c hc => key c hc (Or.inl e)
end
end Go.Proofs.YtknjjjenklfeoaaGreatDoor

/-
  Plain: a new second table: what the file uses and holds then.
-/
namespace Go.Proofs.YtknjjjenklfeoaaGreatDoor
section
variable {L L' : List Clus} {rs : List RootR} {r : RootR} {j s k n : Nat}
theorem use_none (h : SoundL L rs) {n : Nat} (un : ¬ IsFst rs n ∧ ¬ IsSec L rs n ∧ ¬ IsBlk L rs n) : useOf L rs n = 0 := by
  by_cases z : useOf L rs n = 0
  · exact z
  · exfalso
    have h4 : 0 < useOf L rs n := by omega
    rw [← occ_allTells h.zero] at h4
    unfold occ at h4
    obtain ⟨y, hy, e⟩ := List.mem_map.1 (List.count_pos_iff.1 h4)
    rcases (mem_all h.zero y).1 hy with ⟨_, k1⟩ | ⟨_, k1⟩ | ⟨_, k1⟩
    · rw [e] at k1; exact un.1 k1
    · rw [e] at k1; exact un.2.1 k1
    · rw [e] at k1; exact un.2.2 k1
/-- The number in the elder second table; 0, if there is none. -/
def oldNum (L : List Clus) (t j q : Nat) : Nat := if nm L t j = 0 then 0 else nm L (nm L t j % 32768) q
/-- A new second table s, like the elder one but for its k-th number, that of a new block. -/
structure TabIn (L L' : List Clus) (rs : List RootR) (r : RootR) (j s k n : Nat) : Prop where
  put : PutN L L' r.N j (s + 32768)
  hr : r ∈ rs
  hj : j < 2
  hk : k < 32
  tk : nm L s k = n + 32768
  tq : ∀ q, q < 32 → q ≠ k → nm L s q = oldNum L r.N j q
  ne : s ≠ n
  sin : 6 ≤ s ∧ s < L.length
  nin : 6 ≤ n ∧ n < L.length
  cs : countOf L s = 1
  cn : countOf L n = 1
  us : ¬ IsFst rs s ∧ ¬ IsSec L rs s ∧ ¬ IsBlk L rs s
  un : ¬ IsFst rs n ∧ ¬ IsSec L rs n ∧ ¬ IsBlk L rs n
theorem TabIn.ls (b : TabIn L L' rs r j s k n) (hL : L.length ≤ 256) : (s + 32768) % 32768 = s := by have := b.sin; omega
theorem TabIn.ln (b : TabIn L L' rs r j s k n) (hL : L.length ≤ 256) : (n + 32768) % 32768 = n := by have := b.nin; omega
theorem TabIn.other (h : SoundL L rs) (b : TabIn L L' rs r j s k n) {x : Nat} (hx : IsSec L rs x ∨ x = s) : cl L' x = cl L x := by
  refine b.put.same x fun e => ?_
  rcases hx with y | y
  · exact h.fs _ ⟨r, b.hr, e.symm⟩ y
  · exact b.us.1 ⟨r, b.hr, by rw [← e]; exact y⟩
theorem TabIn.fst (b : TabIn L L' rs r j s k n) {r' : RootR} (hne : r'.N ≠ r.N) : cl L' r'.N = cl L r'.N := b.put.same _ hne
theorem TabIn.isSec (h : SoundL L rs) (b : TabIn L L' rs r j s k n) (x : Nat) (hx : IsSec L' rs x) : IsSec L rs x ∨ x = s := by
  obtain ⟨r', hr', q, hq, h0, e⟩ := hx
  by_cases e1 : r'.N = r.N
  · rw [e1] at h0 e
    by_cases e2 : q = j
    · subst e2
      rw [b.put.now, b.ls h.len] at e
      exact Or.inr e.symm
    · rw [b.put.oth q (by omega) e2] at h0 e
      exact Or.inl ⟨r, b.hr, q, hq, h0, e⟩
  · unfold nm at h0 e
    rw [b.fst e1] at h0 e
    exact Or.inl ⟨r', hr', q, hq, h0, e⟩
theorem TabIn.isBlk (h : SoundL L rs) (b : TabIn L L' rs r j s k n) (x : Nat) (hx : IsBlk L' rs x) : IsBlk L rs x ∨ x = n := by
  obtain ⟨s', hs', q, hq, h0, e⟩ := hx
  have hs := b.isSec h s' hs'
  unfold nm at h0 e
  rw [b.other h hs] at h0 e
  rcases hs with y | y
  · exact Or.inl ⟨s', y, q, hq, h0, e⟩
  · subst y
    by_cases e2 : q = k
    · subst e2
      have := b.tk
      unfold nm at this
      rw [this, b.ln h.len] at e
      exact Or.inr e.symm
    · have := b.tq q hq e2
      unfold nm oldNum at this
      rw [this] at h0 e
      split at h0
      · exact absurd rfl h0
      · rename_i h3
        rw [if_neg h3] at e
        exact Or.inl ⟨_, ⟨r, b.hr, j, b.hj, h3, rfl⟩, q, hq, h0, e⟩
theorem hit_plus {n m : Nat} (hn : (n + 32768) % 32768 = n) : hit (n + 32768) m = if n = m then 1 else 0 := by
  unfold hit
  rw [hn]
  by_cases e : n = m
  · rw [if_pos e, if_pos ⟨by omega, e⟩]
  · rw [if_neg e, if_neg (fun z => e z.2)]
theorem inOcc_old (L : List Clus) (t j m : Nat) : sumFrom (fun q => hit (oldNum L t j q) m) 32 0 = if nm L t j = 0 then 0 else inOcc L (nm L t j % 32768) m := by
  unfold oldNum inOcc
  by_cases e : nm L t j = 0
  · simp only [e, if_true]
    exact sumFrom_zero _ _ fun q _ _ => hit_zero m
  · simp only [e, if_false]
theorem TabIn.use (h : SoundL L rs) (b : TabIn L L' rs r j s k n) (m : Nat) :
    useOf L' rs m + (hit (nm L r.N j) m + hit (oldNum L r.N j k) m) = useOf L rs m + ((if s = m then 1 else 0) + if n = m then 1 else 0) := by
  have hin : inOcc L s m + hit (oldNum L r.N j k) m = (if nm L r.N j = 0 then 0 else inOcc L (nm L r.N j % 32768) m) + hit (n + 32768) m := by
    have := sumFrom_one (f := fun q => hit (nm L s q) m) (g := fun q => hit (oldNum L r.N j q) m) (a := k) 32 0 (by omega) (by have := b.hk; omega) (fun q _ hq hne => by rw [b.tq q (by omega) hne])
    simp only [b.tk] at this
    rw [inOcc_old] at this
    exact this
  have hsec : ∀ r' ∈ rs, ∀ q, q < 2 → (r'.N ≠ r.N ∨ q ≠ j) → secOcc L' r'.N q m = secOcc L r'.N q m := by
    intro r' hr' q hq hne
    have e : nm L' r'.N q = nm L r'.N q := by
      by_cases e1 : r'.N = r.N
      · rw [e1]; exact b.put.oth q (by omega) (by rcases hne with z | z; exact absurd e1 z; exact z)
      · unfold nm; rw [b.fst e1]
    refine secOcc_same (by rw [e]; exact SameN.refl _) fun h0 k' hk' => ?_
    unfold nm
    rw [b.other h (Or.inl ⟨r', hr', q, hq, h0, rfl⟩)]
    exact SameN.refl _
  have hat : secOcc L' r.N j m + (hit (nm L r.N j) m + hit (oldNum L r.N j k) m) = secOcc L r.N j m + ((if s = m then 1 else 0) + if n = m then 1 else 0) := by
    rw [← hit_plus (b.ls h.len), ← hit_plus (b.ln h.len)]
    have e : inOcc L' s m = inOcc L s m := inOcc_same fun q hq => by unfold nm; rw [b.other h (Or.inr rfl)]; exact SameN.refl _
    unfold secOcc
    rw [b.put.now, if_neg (by omega), b.ls h.len, e]
    by_cases z : nm L r.N j = 0
    · rw [if_pos z] at hin ⊢
      rw [z, hit_zero]
      omega
    · rw [if_neg z] at hin ⊢
      omega
  exact use_change h.nodup ⟨r, b.hr, rfl⟩ (fun r' hr' hne => by
    unfold treeOcc
    rw [hsec r' hr' 0 (by omega) (Or.inl hne), hsec r' hr' 1 (by omega) (Or.inl hne)]) (tree_change b.hj (fun q hq hne => hsec r b.hr q hq (Or.inr hne)) hat)
theorem TabIn.sound (h : SoundL L rs) (b : TabIn L L' rs r j s k n) : SoundL L' rs := by
  have hf := h.fst r b.hr
  have hc := fun m hm => b.put.count hf.1 m hm
  have hlen := h.len
  have hj := b.hj
  refine ⟨by rw [b.put.len]; exact h.len, by rw [b.put.len]; exact h.six, fun r' hr' => by rw [b.put.len]; exact h.fst r' hr', h.nodup, fun r' hr' i h1 h2 => ?_, fun x hx => ?_, fun x hx => ?_, fun t ht x => ?_, fun t ht x => ?_, fun t ht x => ?_, fun m hm => ?_, fun m hm => by rw [hc m hm]; exact h.top m hm, fun m hm hl => by rw [hc m hm]; exact h.none m hm (by rw [← b.put.len]; exact hl), fun r' hr' q hq hm => ?_, fun x hx q hq hm => ?_⟩
  · by_cases e1 : r'.N = r.N
    · rw [e1, b.put.oth i h2 (by omega), ← e1]; exact h.zero r' hr' i h1 h2
    · unfold nm; rw [b.fst e1]; exact h.zero r' hr' i h1 h2
  · rw [b.put.len]
    rcases b.isSec h x hx with y | y
    · exact h.sec x y
    · rw [y]; exact b.sin
  · rw [b.put.len]
    rcases b.isBlk h x hx with y | y
    · exact h.blk x y
    · rw [y]; exact b.nin
  · rcases b.isSec h t x with y | y
    · exact h.fs t ht y
    · rw [y] at ht; exact b.us.1 ht
  · rcases b.isBlk h t x with y | y
    · exact h.fb t ht y
    · rw [y] at ht; exact b.un.1 ht
  · rcases b.isSec h t ht with z | z
    · rcases b.isBlk h t x with y | y
      · exact h.sb t z y
      · rw [y] at z; exact b.un.2.1 z
    · rcases b.isBlk h t x with y | y
      · rw [z] at y; exact b.us.2.2 y
      · exact b.ne (z.symm.trans y)
  · rw [hc m hm]
    have h1 := b.use h m
    have h2 := h.cnt m hm
    have e1 := b.sin
    have e2 := b.nin
    have e3 := b.ne
    have e4 := b.cs
    have e5 := b.cn
    by_cases z : s = m
    · subst z
      rw [if_pos rfl, if_neg (fun e => e3 e.symm), use_none h b.us] at h1
      rw [base6_eq, if_neg (by omega)]
      omega
    · rw [if_neg z] at h1
      by_cases z2 : n = m
      · subst z2
        rw [if_pos rfl, use_none h b.un] at h1
        rw [base6_eq, if_neg (by omega)]
        omega
      · rw [if_neg z2] at h1; omega
  · by_cases e1 : r'.N = r.N
    · rw [e1] at hm ⊢
      by_cases e2 : q = j
      · subst e2
        rw [b.put.now, b.ls h.len, hc _ (by have := b.sin; omega)]
        exact b.cs
      · rw [b.put.oth q (by omega) e2] at hm ⊢
        have hx := h.sec _ ⟨r, b.hr, q, hq, by omega, rfl⟩
        rw [hc _ (by omega)]
        exact h.mark1 r b.hr q hq hm
    · have e : nm L' r'.N q = nm L r'.N q := by unfold nm; rw [b.fst e1]
      rw [e] at hm ⊢
      have hx := h.sec _ ⟨r', hr', q, hq, by omega, rfl⟩
      rw [hc _ (by omega)]
      exact h.mark1 r' hr' q hq hm
  · have hs := b.isSec h x hx
    have e : nm L' x q = nm L x q := by unfold nm; rw [b.other h hs]
    rw [e] at hm ⊢
    rcases hs with y | y
    · have hy := h.blk _ ⟨x, y, q, hq, by omega, rfl⟩
      rw [hc _ (by omega)]
      exact h.mark2 x y q hq hm
    · subst y
      by_cases e2 : q = k
      · subst e2
        rw [b.tk, b.ln h.len, hc _ (by have := b.nin; omega)]
        exact b.cn
      · rw [b.tq q hq e2] at hm ⊢
        unfold oldNum at hm ⊢
        split at hm
        · omega
        · rename_i h3
          rw [if_neg h3]
          have hss : IsSec L rs (nm L r.N j % 32768) := ⟨r, b.hr, j, b.hj, h3, rfl⟩
          have hy := h.blk _ ⟨_, hss, q, hq, by omega, rfl⟩
          rw [hc _ (by omega)]
          exact h.mark2 _ hss q hq hm
theorem TabIn.content (h : SoundL L rs) (b : TabIn L L' rs r j s k n) {r' : RootR} (hr' : r' ∈ rs) :
    contentOf L' r'.N = if r'.N = r.N then (contentOf L r'.N).set (32 * j + k) (cl L n) else contentOf L r'.N := by
  have hbl : ∀ x, IsBlk L rs x → cl L' x = cl L x := fun x hx => b.put.same x fun e => h.fb _ ⟨r, b.hr, e.symm⟩ hx
  have hn : cl L' n = cl L n := b.put.same n fun e => b.un.1 ⟨r, b.hr, e.symm⟩
  have hj := b.hj
  have hk := b.hk
  have hss := b.other h (Or.inr rfl : IsSec L rs s ∨ s = s)
  have key : ∀ c, c < 64 → (r'.N ≠ r.N ∨ c ≠ 32 * j + k) → blkOf L' r'.N c = blkOf L r'.N c := by
    intro c hc hne
    have e : numAt L' r'.N c = numAt L r'.N c := by
      by_cases e1 : r'.N = r.N
      · by_cases e2 : c / 32 = j
        · have hq : c % 32 ≠ k := by rcases hne with z | z; exact absurd e1 z; omega
          have h1 := b.put.now
          have h2 := b.tq (c % 32) (by omega) hq
          unfold nm oldNum at h2
          unfold nm at h1
          unfold numAt
          rw [e1, e2, h1, if_neg (by omega), b.ls h.len, hss, h2]
        · have h1 := b.put.oth (c / 32) (by omega) e2
          unfold nm at h1
          unfold numAt
          rw [e1, h1]
          by_cases h0 : num (cl L r.N) (2 * (c / 32)) = 0
          · rw [if_pos h0, if_pos h0]
          · rw [if_neg h0, if_neg h0, b.other h (Or.inl ⟨r, b.hr, c / 32, by omega, h0, rfl⟩)]
      · unfold numAt
        rw [b.fst e1]
        by_cases h0 : num (cl L r'.N) (2 * (c / 32)) = 0
        · rw [if_pos h0, if_pos h0]
        · rw [if_neg h0, if_neg h0, b.other h (Or.inl ⟨r', hr', c / 32, by omega, h0, rfl⟩)]
    exact blkOf_same (by rw [e]; exact SameN.refl _) (fun h0 => hbl _ (numAt_isBlk hr' hc h0))
  by_cases e : r'.N = r.N
  · rw [if_pos e]
    apply List.ext_getElem?
    intro c
    rw [List.getElem?_set]
    by_cases hc : c < 64
    · by_cases e2 : 32 * j + k = c
      · rw [if_pos e2, if_pos (by rw [contentOf_length]; omega), contentOf_get _ _ _ hc, blkOf_numAt]
        have e3 : numAt L' r'.N c = n + 32768 := by
          have h1 := b.put.now
          have h2 := b.tk
          unfold nm at h1 h2
          unfold numAt
          rw [e, show c / 32 = j by omega, show c % 32 = k by omega, h1, if_neg (by omega), b.ls h.len, hss]
          exact h2
        rw [e3, if_neg (by omega), b.ln h.len, hn]
      · rw [if_neg e2, contentOf_get _ _ _ hc, contentOf_get _ _ _ hc, key c hc (Or.inr (fun z => e2 z.symm))]
    · rw [if_neg (by omega), List.getElem?_eq_none (by rw [contentOf_length]; omega), List.getElem?_eq_none (by rw [contentOf_length]; omega)]
  · rw [if_neg e]
    exact content_ext fun c hc => key c hc (Or.inl e)
end
end Go.Proofs.YtknjjjenklfeoaaGreatDoor

/-
  Plain: what the reader says of a sound file, and of an exact one.
-/
namespace Go.Proofs.YtknjjjenklfeoaaGreatDoor
section
variable {L : List Clus} {rs : List RootR} {b : Int} {R : FileR}
theorem SoundL.isBlk1 {L : List Clus} {rs : List RootR} {r : RootR} (hr : r ∈ rs) {j k : Nat} (hj : j < 2) (hk : k < 32) (h0 : nm L r.N j ≠ 0) (h1 : nm L (nm L r.N j % 32768) k ≠ 0) : IsBlk L rs (nm L (nm L r.N j % 32768) k % 32768) :=
  ⟨_, ⟨r, hr, j, hj, h0, rfl⟩, k, hk, h1, rfl⟩
theorem SoundL.toExact (h : SoundL L rs) (x : ExactS L rs) : ExactL L rs := by
  refine ⟨h.len, h.six, h.ok, h.zero, fun n hn => ?_, h.top, fun i hi j hj => ?_⟩
  · rw [x.eq n hn, ← occ_allTells h.zero]; rfl
  · have hr : rs.getD i ⟨0, 0, []⟩ ∈ rs := by
      rw [List.getD_eq_getElem?_getD, List.getElem?_eq_getElem hi]
      exact List.getElem_mem hi
    refine ⟨fun h0 => ⟨fun hm => h.mark1 _ hr j hj hm, fun hc => x.lone1 _ hr j hj h0 hc⟩, fun h0 k hk h1 => ?_⟩
    have hs : IsSec L rs (nm L (rs.getD i ⟨0, 0, []⟩).N j % 32768) := ⟨_, hr, j, hj, h0, rfl⟩
    exact ⟨fun hm => h.mark2 _ hs k hk hm, fun hc => x.lone2 _ hs k hk h1 hc⟩
theorem SoundL.used (h : SoundL L rs) (hT : Told L rs b base6 (allTells L rs rs.length 0) R) (n : Nat) (hn : n < 256) : R.used.getD n 0 = base6 n + useOf L rs n := by
  rw [hT.used n hn, ← occ_allTells h.zero]; rfl
theorem SoundL.counts (h : SoundL L rs) (hT : Told L rs b base6 (allTells L rs rs.length 0) R) : countsFrom R 256 0 = -1 := by
  refine countsFrom_good 256 0 fun j _ hj => ?_
  have h1 := h.used hT j (by omega)
  have h2 := h.top j (by omega)
  have h3 := h.cnt j (by omega)
  unfold badCount usedOf
  rw [h1, hT.hL]
  have e1 : decide (countOf L j < base6 j + useOf L rs j) = false := by simp; omega
  have e2 : (countOf L j == 255) = false := by rw [beq_eq_false_iff_ne]; omega
  rw [e1, e2, Bool.and_false, Bool.false_or, Bool.false_or]
  by_cases hl : L.length ≤ j
  · rw [h.none j (by omega) hl]; simp
  · rw [decide_eq_false hl]; rfl
theorem notBad (h : SoundL L rs) (hT : Told L rs b base6 (allTells L rs rs.length 0) R) (x : Nat) (hx : x % 32768 < 256) (hu : 1 ≤ useOf L rs (x % 32768)) (hm : 32768 ≤ x → countOf L (x % 32768) = 1) : markBad R x = false := by
  unfold markBad
  by_cases e : 32768 ≤ x
  · have h1 := h.used hT _ hx
    have h2 := h.cnt _ hx
    have h3 := hm e
    rw [if_pos e, hT.hL, h3, show R.used.getD (x % 32768) 0 = 1 by omega]
    rfl
  · rw [if_neg e]
theorem markedIn_sound (t : Nat) (hx : ∀ k, k < 32 → num (cl R.L t) (2 * k) ≠ 0 → markBad R (num (cl R.L t) (2 * k)) = false) : ∀ (m k acc : Nat), k + m ≤ 32 → ∃ a, markedIn R t m k acc = some a
  | 0, _, acc, _ => ⟨acc, rfl⟩
  | m + 1, k, acc, hm => by
    rw [markedIn]
    by_cases h0 : num (cl R.L t) (2 * k) = 0
    · rw [if_pos h0]; exact markedIn_sound t hx m (k + 1) acc (by omega)
    · rw [if_neg h0, hx k (by omega) h0]
      exact markedIn_sound t hx m (k + 1) _ (by omega)
theorem markedOut_sound (t : Nat) (hx : ∀ i, i < 2 → num (cl R.L t) (2 * i) ≠ 0 → markBad R (num (cl R.L t) (2 * i)) = false ∧ ∀ k, k < 32 → num (cl R.L (num (cl R.L t) (2 * i) % 32768)) (2 * k) ≠ 0 → markBad R (num (cl R.L (num (cl R.L t) (2 * i) % 32768)) (2 * k)) = false) : ∀ (m i acc : Nat), i + m ≤ 2 → (markedOut R t m i acc).1 = -1
  | 0, _, _, _ => rfl
  | m + 1, i, acc, hm => by
    rw [markedOut]
    by_cases h0 : num (cl R.L t) (2 * i) = 0
    · rw [if_pos h0]; exact markedOut_sound t hx m (i + 1) acc (by omega)
    · obtain ⟨h1, h2⟩ := hx i (by omega) h0
      obtain ⟨a, ha⟩ := markedIn_sound (R := R) _ h2 32 0 (acc + markNone R (num (cl R.L t) (2 * i))) (by omega)
      rw [if_neg h0, h1, ha]
      exact markedOut_sound t hx m (i + 1) a (by omega)
theorem SoundL.marked (h : SoundL L rs) (hT : Told L rs b base6 (allTells L rs rs.length 0) R) (i : Nat) (hi : i < rs.length) : (marked R (rootOf R i)).1 = -1 := by
  have hr : rootOf R i = rs.getD i ⟨0, 0, []⟩ := by unfold rootOf; rw [hT.hR]
  have hmem : rs.getD i ⟨0, 0, []⟩ ∈ rs := by
    rw [List.getD_eq_getElem?_getD, List.getElem?_eq_getElem hi]
    exact List.getElem_mem hi
  have hl := h.len
  unfold Go.Proofs.YtknjjjenklfeoaaGreatDoor.marked
  refine markedOut_sound _ (fun j hj h0 => ?_) 2 0 0 (by omega)
  rw [hr] at h0 ⊢
  rw [hT.hL] at h0 ⊢
  have hs : IsSec L rs (nm L (rs.getD i ⟨0, 0, []⟩).N j % 32768) := ⟨_, hmem, j, hj, h0, rfl⟩
  have hsr := h.sec _ hs
  refine ⟨notBad h hT _ (by unfold nm at hsr; omega) (use_sec hs) (fun hm => h.mark1 _ hmem j hj hm), fun k hk h1 => ?_⟩
  have hb := SoundL.isBlk1 hmem hj hk h0 h1
  have hbr := h.blk _ hb
  exact notBad h hT _ (by unfold nm at hbr; omega) (use_blk hb) (fun hm => h.mark2 _ hs k hk hm)
theorem SoundL.marks (h : SoundL L rs) (hT : Told L rs b base6 (allTells L rs rs.length 0) R) : ∀ (m i : Nat), i + m ≤ rs.length → marksFrom R m i (-1) = -1
  | 0, _, _ => rfl
  | m + 1, i, hm => by
    rw [marksFrom, if_pos (by decide), h.marked hT i (by omega)]
    exact h.marks hT m (i + 1) (by omega)
theorem look_sound {file : List Clus} (hh : headGood file = true) (hl : (listOf (R1of file)).1 = true) (hx : SoundL (R1of file).L (listOf (R1of file)).2) :
    (look file).bad = -1 ∧ (look file).L = (R1of file).L ∧ (look file).roots = (listOf (R1of file)).2 ∧ (∀ n, n < 256 → (look file).used.getD n 0 = base6 n + useOf (R1of file).L (listOf (R1of file)).2 n) ∧ Low 1000 (look file) := by
  have T0 : Told (R1of file).L (listOf (R1of file)).2 (-1) base6 [] (R2of file) :=
    ⟨rfl, rfl, rfl, zeros256_length, used6_length, fun x hx => by simp at hx, fun n _ => by
      show zeros256.getD n 0 = 0
      unfold zeros256
      rw [List.getD_eq_getElem?_getD, List.getElem?_replicate]
      split <;> rfl, fun n _ => rfl⟩
  obtain ⟨h1, h2⟩ := treesFrom_told hx.len hx.zero (listOf (R1of file)).2.length 0 [] (R2of file) (by omega) T0 hx.ok
  rw [List.nil_append] at h2
  have h1' : (R3of file).1 = true := h1
  have h2' : Told (R1of file).L (listOf (R1of file)).2 (-1) base6 (allTells (R1of file).L (listOf (R1of file)).2 (listOf (R1of file)).2.length 0) (R3of file).2 := h2
  have e : look file = { (R3of file).2 with bad := marksFrom (R3of file).2 (R3of file).2.roots.length 0 (countsFrom (R3of file).2 256 0) } := by
    unfold look
    rw [if_neg (by rw [hh]; decide), if_neg (by rw [hl]; decide), if_neg (by rw [h1']; decide)]
  clear h1 h2 T0 h1'
  generalize R3of file = Q at h2' e
  have h3 : Told (R1of file).L (listOf (R1of file)).2 (-1) base6 (allTells (R1of file).L (listOf (R1of file)).2 (listOf (R1of file)).2.length 0) (look file) := by
    rw [e, hx.counts h2', h2'.hR, hx.marks h2' _ 0 (by omega)]
    exact ⟨h2'.hL, h2'.hR, rfl, h2'.tl, h2'.ul, h2'.told, h2'.none, h2'.used⟩
  refine ⟨h3.hB, h3.hL, h3.hR, fun n hn => hx.used h3 n hn, fun n => ?_⟩
  by_cases hn : n < 256
  · rw [hx.used h3 n hn]
    have := hx.top n hn
    have := hx.cnt n hn
    omega
  · rw [List.getD_eq_getElem?_getD, List.getElem?_eq_none (by rw [h3.ul]; omega)]
    exact Nat.zero_le _
theorem SoundL.inFile (h : SoundL L rs) {r : RootR} (hr : r ∈ rs) : InFile L r.N := by
  refine ⟨(h.fst r hr).2, fun i hi h0 => (h.sec _ ⟨r, hr, i, hi, h0, rfl⟩).2, fun i hi h0 k hk => ?_⟩
  by_cases h1 : nm L (nm L r.N i % 32768) k = 0
  · unfold nm at h1
    rw [h1]
    have := h.six
    omega
  · exact (h.blk _ (SoundL.isBlk1 hr hi hk h0 h1)).2
end
end Go.Proofs.YtknjjjenklfeoaaGreatDoor
