import Derived.Test.YtknjjjenklfeoaaGreatDoorP39
/-
  Plain: a picture is taken.
-/
namespace Go.Proofs.YtknjjjenklfeoaaGreatDoor
/-- Head and list may be others. -/
structure Kin (L L' : List Clus) : Prop where
  len : L'.length = L.length
  same : ∀ t, t ≠ 0 → t ≠ 5 → cl L' t = cl L t
section
variable {L L' : List Clus} {rs : List RootR}
theorem Kin.nm (h : Kin L L') {t : Nat} (h6 : 6 ≤ t) (q : Nat) : nm L' t q = nm L t q := by
  unfold Go.Proofs.YtknjjjenklfeoaaGreatDoor.nm; rw [h.same t (by omega) (by omega)]
theorem Kin.count (h : Kin L L') (n : Nat) (hn : n < 256) : countOf L' n = countOf L n := by
  unfold countOf; rw [h.same _ (by omega) (by omega)]
theorem Kin.shape (h : Kin L L') (hs : SoundL L rs) : Shape L L' rs :=
  Shape.of_same (fun r hr => h.same _ (by have := hs.fst r hr; omega) (by have := hs.fst r hr; omega)) (fun s hx => h.same _ (by have := hs.sec s hx; omega) (by have := hs.sec s hx; omega))
theorem Kin.sound (h : Kin L L') (hs : SoundL L rs) : SoundL L' rs := by
  have hlen := hs.len
  refine hs.shape (h.shape hs) (by rw [h.len]; exact Nat.le_refl _) (by rw [h.len]; exact hs.len) (fun n hn => by rw [h.count n hn]; exact hs.cnt n hn) (fun n hn => by rw [h.count n hn]; exact hs.top n hn) (fun n hn hl => by rw [h.count n hn]; exact hs.none n hn (by rw [← h.len]; exact hl)) (fun r hr j hj hm => ?_) (fun s hx k hk hm => ?_)
  · have h6 := hs.fst r hr
    rw [h.nm h6.1] at hm ⊢
    have := hs.num_in (Or.inl ⟨r, hr, rfl⟩) j (by omega) (by omega)
    rw [h.count _ (by omega)]
    exact hs.mark1 r hr j hj hm
  · have h6 := hs.sec s hx
    rw [h.nm h6.1] at hm ⊢
    have := hs.num_in (Or.inr hx) k hk (by omega)
    rw [h.count _ (by omega)]
    exact hs.mark2 s hx k hk hm
theorem Kin.content (h : Kin L L') (hs : SoundL L rs) {r : RootR} (hr : r ∈ rs) : contentOf L' r.N = contentOf L r.N :=
  (h.shape hs).content (fun n hn => h.same n (by have := hs.blk n hn; omega) (by have := hs.blk n hn; omega)) hr
theorem Kin.tree (h : Kin L L') (hs : SoundL L rs) {r : RootR} (hr : r ∈ rs) (m : Nat) : treeOcc L' r.N m = treeOcc L r.N m := (h.shape hs).tree hr m
theorem Kin.exact (h : Kin L L') (hs : SoundL L rs) (hx : ExactS L rs) : ExactS L' rs := by
  have hlen := hs.len
  refine ⟨fun n hn => by rw [h.count n hn, (h.shape hs).use]; exact hx.eq n hn, fun r hr j hj h0 h1 => ?_, fun s hx' k hk h0 h1 => ?_⟩
  · have h6 := hs.fst r hr
    rw [h.nm h6.1] at h0 h1 ⊢
    have := hs.num_in (Or.inl ⟨r, hr, rfl⟩) j (by omega) h0
    rw [h.count _ (by omega)] at h1
    exact hx.lone1 r hr j hj h0 h1
  · rw [(h.shape hs).isSec] at hx'
    have h6 := hs.sec s hx'
    rw [h.nm h6.1] at h0 h1 ⊢
    have := hs.num_in (Or.inr hx') k hk h0
    rw [h.count _ (by omega)] at h1
    exact hx.lone2 s hx' k hk h0 h1
end
theorem put_kin {C : List Clus} {p : Nat} {c : Clus} (hp : p < C.length) (h : p = 0 ∨ p = 5) : Kin C (putsC C [(p, c)]) ∧ cl (putsC C [(p, c)]) p = c ∧ ∀ t, t ≠ p → cl (putsC C [(p, c)]) t = cl C t := by
  have e : putsC C [(p, c)] = putC C (p, c) := rfl
  have hl : (putC C (p, c)).length = C.length := by rw [putC_length]; simp only; omega
  have ho : ∀ t, t ≠ p → cl (putC C (p, c)) t = cl C t := fun t ht => by
    by_cases htl : t < C.length
    · rw [← vw_at (by omega), vw_putC, if_neg (fun z => ht z.symm), vw_at htl]
    · rw [cl_past (by omega), cl_past (by omega)]
  rw [e]
  exact ⟨⟨hl, fun t h0 h5 => ho t (by omega)⟩, by rw [← vw_at (by omega), vw_putC, if_pos rfl], ho⟩
section
variable {base : List Clus} {V : VolR} {N0 : Nat} {E : List EntR} {f n : Nat}
/-- What is known of a call that changes the list or the head. -/
structure Came (base : List Clus) (V : VolR) (N0 : Nat) (E : List EntR) (V' : VolR) (N1 : Nat) (E' : List EntR) (D' : DiskR) : Prop where
  vol : Vol base V' N1 E'
  holds : dskOf V'.C N1 E' = D'
  exact : ExactS V.C (rsOf N0 E) → ExactS V'.C (rsOf N1 E')
/-- What two files with the same tables hold alike. -/
theorem dskOf_mem {L L' : List Clus} (hh : dskOf L' N0 E = dskOf L N0 E) : ∀ r ∈ rsOf N0 E, contentOf L' r.N = contentOf L r.N := by
  intro r hr
  rcases rsOf_mem.1 hr with z | ⟨x, hx, z⟩
  · rw [z]; exact congrArg DiskR.C hh
  · rw [z]
    obtain ⟨i, hi, rfl⟩ := List.getElem_of_mem hx
    have h2 : (E.map fun e => (⟨e.name, contentOf L' e.first⟩ : PicR)) = E.map fun e => ⟨e.name, contentOf L e.first⟩ := congrArg DiskR.L hh
    have h3 := congrArg (fun l => l[i]?) h2
    simp only [List.getElem?_map, List.getElem?_eq_getElem hi, Option.map_some, Option.some.injEq] at h3
    exact congrArg PicR.C h3
theorem puts_copy (V : VolR) (f n : Nat) : Puts V (copyV V f n) := by
  unfold copyV copy1
  exact ((puts_putCnt (puts_renum (puts_lengthen (Puts.refl V) [n]) sharedOf _).flush _ 4).put _ _).flush
/-- The copied tree. -/
theorem Vol.copyTree (h : Vol base V N0 E) (hf : f ∈ (rsOf N0 E).map (·.N)) (hn : n < 256) (h0 : countOf V.C n = 0) (hfit : fitsB (cntsOf V.C) (toldAll V.C f) = true) :
    SoundL (copyV V f n).C (rsOf N0 E) ∧ (∀ j, j < 32 → nm (copyV V f n).C n j = nm (copyV V f n).C f j) ∧ (∀ m, treeOcc (copyV V f n).C n m = (if n = m then 1 else 0) + (toldAll V.C f).count m) ∧
      (¬ IsFst (rsOf N0 E) n ∧ ¬ IsSec (copyV V f n).C (rsOf N0 E) n ∧ ¬ IsBlk (copyV V f n).C (rsOf N0 E) n) ∧ contentOf (copyV V f n).C n = contentOf (copyV V f n).C f ∧ (∀ r ∈ rsOf N0 E, contentOf (copyV V f n).C r.N = contentOf V.C r.N) ∧ (toldAll V.C f).count n = 0 := by
  obtain ⟨e, a1, a2, a3, a4, a5, a6, a7, a8⟩ := h.copied hf hn h0 hfit
  obtain ⟨k1, k2, k3⟩ := h.copy_cnt hf hn hfit
  have hun := h.sound.untold hn h0
  obtain ⟨r, hr, rfl⟩ := List.mem_map.1 hf
  have hr6 := h.sound.fst r hr
  have hrn : r.N ≠ n := fun z => hun.1 ⟨r, hr, z⟩
  have ec : cl (copyV V r.N n).C n = cl (copyV V r.N n).C r.N := by rw [a5, a6 r.N (by omega) hr6.2 hrn (by unfold ofTree; simp)]
  have en : ∀ j, nm (copyV V r.N n).C n j = nm (copyV V r.N n).C r.N j := fun j => by unfold nm; rw [ec]
  have hs := a2.sound
  rw [padTo_self a3] at hs
  have hun2 : ¬ IsFst (rsOf N0 E) n ∧ ¬ IsSec (copyV V r.N n).C (rsOf N0 E) n ∧ ¬ IsBlk (copyV V r.N n).C (rsOf N0 E) n := ⟨hun.1, fun x => hun.2.1 ((a8.isSec n).1 x), fun x => hun.2.2 ((a8.isBlk n).1 x)⟩
  have hh := a2.holds
  rw [padTo_self a3] at hh
  refine ⟨hs, fun j _ => en j, fun m => ?_, hun2, content_copy (fun j _ => en j), fun r' hr' => ?_, ?_⟩
  · have h1 : treeOcc (copyV V r.N n).C r.N m = treeOcc V.C r.N m := a8.tree hr m
    have h2 := count_told (h.sound.zero r hr) m
    unfold treeOcc at h1 ⊢
    have h3 : ∀ j, secOcc (copyV V r.N n).C n j m = secOcc (copyV V r.N n).C r.N j m := fun j => by unfold secOcc; rw [en j]
    rw [h3 0, h3 1, h2]
    omega
  · exact dskOf_mem hh r' hr'
  · refine List.count_eq_zero.2 fun x => ?_
    obtain ⟨j, hj, hj0, y | ⟨k, hk, hk0, y⟩⟩ := mem_toldAll (h.sound.zero r hr) x
    · exact hun.2.1 ⟨r, hr, j, hj, hj0, y⟩
    · exact hun.2.2 ⟨_, ⟨r, hr, j, hj, hj0, rfl⟩, k, hk, hk0, y⟩
/-- What is used once has its mark behind the copy, if it had before. -/
theorem Vol.copyLone (h : Vol base V N0 E) (hf : f ∈ (rsOf N0 E).map (·.N)) (hn : n < 256) (h0 : countOf V.C n = 0) (hfit : fitsB (cntsOf V.C) (toldAll V.C f) = true) (hx : ExactS V.C (rsOf N0 E)) {t : Nat} (ht : IsFst (rsOf N0 E) t ∨ IsSec V.C (rsOf N0 E) t) (q : Nat) (hq : q < 32) (hne : nm (copyV V f n).C t q ≠ 0)
    (h1 : countOf (copyV V f n).C (nm (copyV V f n).C t q % 32768) = 1) : 32768 ≤ nm (copyV V f n).C t q := by
  obtain ⟨e, a1, a2, a3, a4, a5, a6, a7, a8⟩ := h.copied hf hn h0 hfit
  have hun := h.sound.untold hn h0
  have hlen := h.sound.len
  have ht6 := h.sound.tab_lt ht
  have htn : t ≠ n := fun z => by
    rw [z] at ht
    rcases ht with y | y
    · exact hun.1 y
    · exact hun.2.1 y
  obtain ⟨r, hr, rfl⟩ := List.mem_map.1 hf
  have same : SameN (nm (copyV V r.N n).C t q) (nm V.C t q) := by
    rcases ht with ⟨r', hr', rfl⟩ | y
    · exact a8.t1 r' hr' q hq
    · exact a8.t2 t y q hq
  have hv0 : nm V.C t q ≠ 0 := fun z => hne (same.1.2 z)
  have hin := h.sound.num_in ht q hq hv0
  have hus := h.sound.used1 ht q hq hv0
  have hcn := h.sound.cnt _ (show nm V.C t q % 32768 < 256 by omega)
  have hcc : nm V.C t q % 32768 ≠ n := fun z => by rw [z] at hcn hus; omega
  rw [same.2, a4 _ (by omega), if_neg (fun z => hcc z.symm)] at h1
  by_cases ho : ofTree V.C r.N t
  · exfalso
    have hmem : nm V.C t q % 32768 ∈ toldAll V.C r.N := by
      rcases List.mem_cons.1 ho with z | z
      · rw [z] at hv0 ⊢
        have hq2 : q < 2 := by
          by_cases x : q < 2
          · exact x
          · exact absurd (h.sound.zero r hr q (by omega) hq) hv0
        exact toldAll_mem1 hq2 hv0
      · obtain ⟨i, hi, hi0, e2⟩ := mem_toldBy z
        have hi2 : i < 2 := by
          by_cases x : i < 2
          · exact x
          · exact absurd (h.sound.zero r hr i (by omega) hi) hi0
        have e3 : nm V.C r.N i % 32768 = t := e2
        have := toldAll_mem2 (C := V.C) (f := r.N) (j := i) (k := q) hi2 hi0 hq (by rw [e3]; exact hv0)
        rw [e3] at this
        exact this
    have := List.count_pos_iff.2 hmem
    omega
  · have e2 : nm (copyV V r.N n).C t q = nm V.C t q := by unfold nm; rw [a7 t (by omega) ht6.2 htn ho]
    rw [e2]
    rcases ht with ⟨r', hr', rfl⟩ | y
    · have hq2 : q < 2 := by
        by_cases x : q < 2
        · exact x
        · exact absurd (h.sound.zero r' hr' q (by omega) hq) hv0
      exact hx.lone1 r' hr' q hq2 hv0 (by omega)
    · exact hx.lone2 t y q hq hv0 (by omega)
theorem dskOf_C (L : List Clus) (N1 : Nat) (E1 : List EntR) : (dskOf L N1 E1).C = contentOf L N1 := by simp only [dskOf]
theorem dskOf_L (L : List Clus) (N1 : Nat) (E1 : List EntR) : (dskOf L N1 E1).L = E1.map fun e => (⟨e.name, contentOf L e.first⟩ : PicR) := by simp only [dskOf]
theorem dskOf_eq {L : List Clus} {N1 : Nat} {E1 : List EntR} {c : List Clus} {l : List PicR} (hA : contentOf L N1 = c) (hB : (E1.map fun e => (⟨e.name, contentOf L e.first⟩ : PicR)) = l) : dskOf L N1 E1 = ⟨c, l⟩ := by rw [← hA, ← hB]; rfl
def takeV (V : VolR) (f n : Nat) (E' : List EntR) : VolR := flushV (putV (copyV V f n) 5 (listBytes E'))
def takeD (D : DiskR) (s : List UInt8) : DiskR := { D with L := D.L ++ [⟨s, D.C⟩] }
theorem rsOf_snoc (N0 : Nat) (E : List EntR) (e : EntR) : rsOf N0 (E ++ [e]) = rsOf N0 E ++ [rootE e] := by simp [rsOf]
theorem useOf_snoc (L : List Clus) (rs : List RootR) (r : RootR) (m : Nat) : useOf L (rs ++ [r]) m = useOf L rs m + treeOcc L r.N m := by simp [useOf]
theorem EntsOK.snoc (h : EntsOK E) {s : List UInt8} (hs : isNameB s = true) (hnew : s ∉ E.map (·.name)) (h4 : E.length < 4) (h6 : n ≠ 0) (hn : n < 65536) : EntsOK (E ++ [⟨s, n⟩]) := by
  refine ⟨by simp; omega, fun e he => ?_, ?_⟩
  · rcases List.mem_append.1 he with x | x
    · exact h.all e x
    · rw [List.mem_singleton.1 x]; exact ⟨hs, h6, hn⟩
  · rw [List.map_append, List.nodup_append]
    refine ⟨h.nodup, by simp, fun a ha b hb => ?_⟩
    simp only [List.map_cons, List.map_nil, List.mem_singleton] at hb
    rw [hb]
    exact fun z => hnew (by rw [← z]; exact ha)
theorem Vol.take (h : Vol base V N0 E) {s : List UInt8} (hs : isNameB s = true) (hnew : s ∉ E.map (·.name)) (h4 : E.length < 4) (hn : n < 256) (h0 : countOf V.C n = 0) (hfit : fitsB (cntsOf V.C) (toldAll V.C N0) = true) :
    takeV V N0 n (E ++ [⟨s, n⟩]) = epoch (copyV V N0 n) [(5, listBytes (E ++ [⟨s, n⟩]))] ∧ Came base V N0 E (takeV V N0 n (E ++ [⟨s, n⟩])) N0 (E ++ [⟨s, n⟩]) (takeD (dskOf V.C N0 E) s) := by
  have hf : N0 ∈ (rsOf N0 E).map (·.N) := by simp [rsOf]
  have hr0 : (⟨N0, 0, []⟩ : RootR) ∈ rsOf N0 E := by simp [rsOf]
  obtain ⟨e, a1, a2, a3, a4, a5, a6, a7, a8⟩ := h.copied hf hn h0 hfit
  obtain ⟨b1, b2, b3, b4, b5, b6, b7⟩ := h.copyTree hf hn h0 hfit
  have h6 := h.sound.free_six hn h0
  have hT : lenTo V.C [n] = max V.C.length (n + 1) := rfl
  have h7 := h.file.seven
  have hlen := h.sound.len
  have hE' := h.file.ents.snoc hs hnew h4 (show n ≠ 0 by omega) (by omega)
  have e1 : takeV V N0 n (E ++ [⟨s, n⟩]) = epoch (copyV V N0 n) [(5, listBytes (E ++ [⟨s, n⟩]))] := by unfold takeV epoch; rw [puts_one]
  have hC : (takeV V N0 n (E ++ [⟨s, n⟩])).C = putsC (copyV V N0 n).C [(5, listBytes (E ++ [⟨s, n⟩]))] := by rw [e1, epoch_C]
  obtain ⟨c1, c2, c3⟩ := put_kin (C := (copyV V N0 n).C) (p := 5) (c := listBytes (E ++ [⟨s, n⟩])) (by omega) (Or.inr rfl)
  rw [← hC] at c1 c2 c3
  have hloose : (takeV V N0 n (E ++ [⟨s, n⟩])).loose = false := by rw [e1]; exact flushV_loose _
  have hputs : Puts V (takeV V N0 n (E ++ [⟨s, n⟩])) := by rw [e1]; exact puts_epoch (puts_copy V N0 n) _
  have hlone := fun (hx : ExactS V.C (rsOf N0 E)) {t : Nat} ht q hq => h.copyLone hf hn h0 hfit hx (t := t) ht q hq
  refine ⟨e1, ?_⟩
  clear e1 e a1 a5 a6 a7
  generalize takeV V N0 n (E ++ [⟨s, n⟩]) = W at *
  generalize copyV V N0 n = U at *
  have hrs : rsOf N0 (E ++ [⟨s, n⟩]) = rsOf N0 E ++ [⟨n, 5, s⟩] := rsOf_snoc _ _ _
  have hcnt : ∀ m, m < 256 → countOf (U).C m = base6 m + useOf (U).C (rsOf N0 (E ++ [⟨s, n⟩])) m ∨ base6 m + useOf V.C (rsOf N0 E) m < countOf V.C m := fun m hm => by
    rw [hrs, useOf_snoc, a8.use, a4 m hm]
    simp only
    rw [b3 m]
    by_cases z : n = m
    · subst z
      left
      rw [if_pos rfl, if_pos rfl, use_none h.sound (h.sound.untold hn h0), b7, base6_eq, if_neg (by omega)]
    · rw [if_neg z, if_neg z]
      have := h.sound.cnt m hm
      omega
  have s1 : SoundL (U).C (rsOf N0 (E ++ [⟨s, n⟩])) := by
    refine b1.roots (fun r' hr' => ?_) ?_ (fun m hm => ?_)
    · rw [hrs] at hr'
      rcases List.mem_append.1 hr' with x | x
      · exact ⟨b1.fst r' x, b1.fs _ ⟨r', x, rfl⟩, b1.fb _ ⟨r', x, rfl⟩, r', x, fun j _ => rfl⟩
      · rw [List.mem_singleton.1 x]
        exact ⟨⟨h6, by rw [a3]; simp only; omega⟩, b4.2.1, b4.2.2, _, hr0, fun j hj => b2 j hj⟩
    · rw [hrs, List.map_append, List.nodup_append]
      refine ⟨b1.nodup, by simp, fun a ha b hb => ?_⟩
      simp only [List.map_cons, List.map_nil, List.mem_singleton] at hb
      rw [hb]
      intro z
      obtain ⟨r', hr', e2⟩ := List.mem_map.1 ha
      exact b4.1 ⟨r', hr', e2.trans z⟩
    · rw [hrs, useOf_snoc, a8.use, a4 m hm]
      simp only
      rw [b3 m]
      have := h.sound.cnt m hm
      by_cases z : n = m
      · subst z
        rw [if_pos rfl, if_pos rfl, use_none h.sound (h.sound.untold hn h0), b7, base6_eq, if_neg (by omega)]
        exact Nat.le_refl _
      · rw [if_neg z, if_neg z]; omega
  have s2 := c1.sound s1
  have hlT : (W).C.length = lenTo V.C [n] := by rw [c1.len, a3]
  have hfile : FileE (W).C (lenTo V.C [n]) N0 (E ++ [⟨s, n⟩]) := by
    refine ⟨?_, by omega, by omega, a2.file.seven, a2.file.most, a2.file.n0, by rw [c3 0 (by omega)]; exact a2.file.head, c2, hE'⟩
    rw [hC]
    exact putsC_lens _ _ a2.file.lens (fun x hx => by rw [List.mem_singleton.1 hx]; exact hE'.length)
  have hD : dskOf (W).C N0 (E ++ [⟨s, n⟩]) = takeD (dskOf V.C N0 E) s := by
    have g : ∀ r ∈ rsOf N0 (E ++ [⟨s, n⟩]), contentOf (W).C r.N = contentOf (U).C r.N := fun r hr => c1.content s1 hr
    have gn := g ⟨n, 5, s⟩ (by rw [hrs]; simp)
    have g0 := g ⟨N0, 0, []⟩ (by rw [hrs]; simp [rsOf])
    simp only at gn g0
    have hb0 := b6 _ hr0
    simp only at hb0
    have hA : contentOf (W).C N0 = (dskOf V.C N0 E).C := by rw [dskOf_C, g0, hb0]
    have hB : ((E ++ [(⟨s, n⟩ : EntR)]).map fun e : EntR => (⟨e.name, contentOf (W).C e.first⟩ : PicR)) = (dskOf V.C N0 E).L ++ [⟨s, (dskOf V.C N0 E).C⟩] := by
      have h1 : (E.map fun e => (⟨e.name, contentOf (W).C e.first⟩ : PicR)) = E.map fun e => (⟨e.name, contentOf V.C e.first⟩ : PicR) := by
        apply List.map_congr_left
        intro x hx
        have hx1 : rootE x ∈ rsOf N0 E := rsOf_mem.2 (Or.inr ⟨x, hx, rfl⟩)
        have g1 := g (rootE x) (by rw [hrs]; exact List.mem_append.2 (Or.inl hx1))
        have g2 := b6 (rootE x) hx1
        simp only [rootE] at g1 g2
        rw [g1, g2]
      rw [List.map_append, h1, dskOf_L, dskOf_C, List.map_cons, List.map_nil]
      simp only
      rw [gn, b5, hb0]
    exact dskOf_eq hA hB
  have ok : Ok W.C (lenTo V.C [n]) N0 (E ++ [⟨s, n⟩]) (takeD (dskOf V.C N0 E) s) := ⟨hfile, by rw [padTo_self hlT]; exact s2, by rw [padTo_self hlT]; exact hD⟩
  refine ⟨ok.vol hlT hloose (h.log.puts hputs), hD, fun hx => c1.exact s1 ⟨fun m hm => ?_, fun r' hr' j hj hne h1 => ?_, fun s' hs' k hk hne h1 => ?_⟩⟩
  · rcases hcnt m hm with z | z
    · exact z
    · have := hx.eq m hm; omega
  · rw [hrs] at hr'
    rcases List.mem_append.1 hr' with x | x
    · exact hlone hx (Or.inl ⟨r', x, rfl⟩) j (by omega) hne h1
    · rw [List.mem_singleton.1 x] at hne h1 ⊢
      simp only at hne h1 ⊢
      rw [b2 j (by omega)] at hne h1 ⊢
      exact hlone hx (Or.inl ⟨_, hr0, rfl⟩) j (by omega) hne h1
  · have : IsSec V.C (rsOf N0 E) s' := by
      rw [← a8.isSec]
      obtain ⟨r', hr', j, hj, q0, q1⟩ := hs'
      rw [hrs] at hr'
      rcases List.mem_append.1 hr' with x | x
      · exact ⟨r', x, j, hj, q0, q1⟩
      · rw [List.mem_singleton.1 x] at q0 q1
        simp only at q0 q1
        rw [b2 j (by omega)] at q0 q1
        exact ⟨_, hr0, j, hj, q0, q1⟩
    exact hlone hx (Or.inr this) k hk hne h1
end
end Go.Proofs.YtknjjjenklfeoaaGreatDoor

/-
  Plain: a picture is dropped; the disk is made what a picture is.
-/
namespace Go.Proofs.YtknjjjenklfeoaaGreatDoor
theorem SoundL.held_lt {L : List Clus} {rs : List RootR} (h : SoundL L rs) {r : RootR} (hr : r ∈ rs) : ∀ u ∈ heldAll L r.N, 6 ≤ u ∧ u < L.length := fun u hu => by
  rcases List.mem_cons.1 hu with x | x
  · rw [x]; exact h.fst r hr
  · obtain ⟨j, hj, h0, y | ⟨k, hk, hk0, y⟩⟩ := mem_toldAll (fun i h1 h2 => h.zero r hr i h1 h2) x
    · exact h.sec _ ⟨r, hr, j, hj, h0, y⟩
    · exact h.blk _ ⟨_, ⟨r, hr, j, hj, h0, rfl⟩, k, hk, hk0, y⟩
theorem sum_erase {α : Type} (g : α → Nat) : ∀ (l : List α) (i : Nat) (h : i < l.length), ((l.eraseIdx i).map g).sum + g l[i] = (l.map g).sum
  | a :: l, 0, _ => by simp [Nat.add_comm]
  | a :: l, i + 1, h => by
    have := sum_erase g l i (by simpa using h)
    simp only [List.eraseIdx_cons_succ, List.map_cons, List.sum_cons, List.getElem_cons_succ]
    omega
theorem map_erase {α β : Type} (g : α → β) : ∀ (l : List α) (i : Nat), (l.eraseIdx i).map g = (l.map g).eraseIdx i
  | [], _ => by simp
  | a :: l, 0 => by simp
  | a :: l, i + 1 => by simp [map_erase g l i]
section
variable {base : List Clus} {V : VolR} {N0 : Nat} {E : List EntR} {f n i : Nat}
def eraseD (D : DiskR) (i : Nat) : DiskR := { D with L := D.L.eraseIdx i }
def dropH (V : VolR) (E' : List EntR) : VolR := flushV (putV V 5 (listBytes E'))
theorem EntsOK.erase (h : EntsOK E) (i : Nat) : EntsOK (E.eraseIdx i) :=
  ⟨by have := List.length_eraseIdx_le E i; have := h.len; omega, fun e he => h.all e (List.mem_of_mem_eraseIdx he), by rw [map_erase]; exact h.nodup.sublist (List.eraseIdx_sublist _ _)⟩
theorem Vol.drop (h : Vol base V N0 E) (hi : i < E.length) :
    dropH V (E.eraseIdx i) = epoch V [(5, listBytes (E.eraseIdx i))] ∧ Ok (dropH V (E.eraseIdx i)).C V.C.length N0 (E.eraseIdx i) (eraseD (dskOf V.C N0 E) i) ∧ (dropH V (E.eraseIdx i)).C.length = V.C.length ∧ SoundL (dropH V (E.eraseIdx i)).C (rsOf N0 E) ∧
      Lets (dropH V (E.eraseIdx i)) N0 (E.eraseIdx i) (heldAll (dropH V (E.eraseIdx i)).C (E.getD i ze).first) ∧ Came base V N0 E (letGoV (dropH V (E.eraseIdx i)) (heldAll (dropH V (E.eraseIdx i)).C (E.getD i ze).first)) N0 (E.eraseIdx i) (eraseD (dskOf V.C N0 E) i) := by
  have h7 := h.file.seven
  have hlen := h.sound.len
  have hE' := h.file.ents.erase i
  have e1 : dropH V (E.eraseIdx i) = epoch V [(5, listBytes (E.eraseIdx i))] := by unfold dropH epoch; rw [puts_one]
  have hC : (dropH V (E.eraseIdx i)).C = putsC V.C [(5, listBytes (E.eraseIdx i))] := by rw [e1, epoch_C]
  obtain ⟨c1, c2, c3⟩ := put_kin (C := V.C) (p := 5) (c := listBytes (E.eraseIdx i)) (by omega) (Or.inr rfl)
  rw [← hC] at c1 c2 c3
  have hputs : Puts V (dropH V (E.eraseIdx i)) := by rw [e1]; exact puts_epoch (Puts.refl V) _
  refine ⟨e1, ?_⟩
  clear e1
  generalize dropH V (E.eraseIdx i) = W at *
  have s0 := c1.sound h.sound
  have hg : (E.getD i ze) = E[i] := by rw [List.getD_eq_getElem?_getD, List.getElem?_eq_getElem hi]; rfl
  have hre : rootE (E.getD i ze) ∈ rsOf N0 E := by
    rw [hg]; exact rsOf_mem.2 (Or.inr ⟨_, List.getElem_mem hi, rfl⟩)
  have hsub : ∀ r ∈ rsOf N0 (E.eraseIdx i), r ∈ rsOf N0 E := fun r hr => by
    rcases rsOf_mem.1 hr with x | ⟨e, he, x⟩
    · exact rsOf_mem.2 (Or.inl x)
    · exact rsOf_mem.2 (Or.inr ⟨e, List.mem_of_mem_eraseIdx he, x⟩)
  have huse : ∀ m, useOf (W).C (rsOf N0 (E.eraseIdx i)) m + treeOcc (W).C (E.getD i ze).first m = useOf V.C (rsOf N0 E) m := fun m => by
    rw [← (c1.shape h.sound).use m, hg]
    unfold useOf rsOf
    rw [List.map_cons, List.sum_cons, List.map_cons, List.sum_cons, List.map_map, List.map_map]
    have := sum_erase ((fun r : RootR => treeOcc (W).C r.N m) ∘ rootE) E i hi
    have e2 : ((fun r : RootR => treeOcc (W).C r.N m) ∘ rootE) E[i] = treeOcc (W).C E[i].first m := rfl
    rw [e2] at this
    omega
  have s1 : SoundL (W).C (rsOf N0 (E.eraseIdx i)) := by
    refine s0.roots (fun r hr => ⟨s0.fst r (hsub r hr), s0.fs _ ⟨r, hsub r hr, rfl⟩, s0.fb _ ⟨r, hsub r hr, rfl⟩, r, hsub r hr, fun j _ => rfl⟩) ?_ (fun m hm => ?_)
    · refine s0.nodup.sublist (List.Sublist.map _ ?_)
      unfold rsOf
      exact (List.Sublist.map _ (List.eraseIdx_sublist _ _)).cons_cons _
    · rw [c1.count m hm]
      have := huse m
      have := h.sound.cnt m hm
      omega
  have hlT : (W).C.length = V.C.length := c1.len
  have hfile : FileE (W).C V.C.length N0 (E.eraseIdx i) := by
    refine ⟨?_, by omega, by omega, h7, hlen, h.file.n0, by rw [c3 0 (by omega)]; exact h.file.head, c2, hE'⟩
    rw [hC]
    exact putsC_lens _ _ h.file.lens (fun x hx => by rw [List.mem_singleton.1 hx]; exact hE'.length)
  have hD : dskOf (W).C N0 (E.eraseIdx i) = eraseD (dskOf V.C N0 E) i := by
    rw [dskOf_same (L := V.C) (fun r hr => c1.content h.sound (hsub r hr))]
    refine dskOf_eq (by rw [dskOf_C]) ?_
    rw [dskOf_L, map_erase]
  have ok : Ok (W).C V.C.length N0 (E.eraseIdx i) (eraseD (dskOf V.C N0 E) i) := ⟨hfile, by rw [padTo_self hlT]; exact s1, by rw [padTo_self hlT]; exact hD⟩
  have hheld : ∀ m, (heldAll (W).C (E.getD i ze).first).count m = treeOcc (W).C (E.getD i ze).first m := fun m => count_held (s0.zero _ hre) m
  have hl : Lets (W) N0 (E.eraseIdx i) (heldAll (W).C (E.getD i ze).first) := by
    refine ⟨fun u hu => ?_, fun m hm => ?_⟩
    · have := s0.held_lt hre u hu
      omega
    · rw [hheld m, c1.count m hm]
      have := huse m
      have := h.sound.cnt m hm
      omega
  obtain ⟨g1, g2, g3, g4⟩ := ok.letGo hlT hl
  have hD2 := g1.holds
  rw [padTo_self g2] at hD2
  refine ⟨ok, hlT, s0, hl, g1.vol g2 g3 (h.log.puts (puts_letGo hputs _)), hD2, fun hx => g4 fun m hm => ?_⟩
  rw [hheld m, c1.count m hm, hx.eq m hm]
  have := huse m
  omega

def retH (V : VolR) (f n : Nat) : VolR := flushV (putV (copyV V f n) 0 (headBytes (num (cl (copyV V f n).C 0) 4) n))
def retD (D : DiskR) (i : Nat) : DiskR := { D with C := (D.L.getD i ⟨[], []⟩).C }
theorem Vol.ret (h : Vol base V N0 E) (hi : i < E.length) (hn : n < 256) (h0 : countOf V.C n = 0) (hfit : fitsB (cntsOf V.C) (toldAll V.C (E.getD i ze).first) = true) :
    retH V (E.getD i ze).first n = epoch (copyV V (E.getD i ze).first n) [(0, headBytes (lenTo V.C [n]) n)] ∧ Ok (retH V (E.getD i ze).first n).C (lenTo V.C [n]) n E (retD (dskOf V.C N0 E) i) ∧ (retH V (E.getD i ze).first n).C.length = lenTo V.C [n] ∧ SoundL (retH V (E.getD i ze).first n).C (rsOf N0 E) ∧
      Lets (retH V (E.getD i ze).first n) n E (heldAll (retH V (E.getD i ze).first n).C N0) ∧ Came base V N0 E (letGoV (retH V (E.getD i ze).first n) (heldAll (retH V (E.getD i ze).first n).C N0)) n E (retD (dskOf V.C N0 E) i) := by
  have hg : (E.getD i ze) = E[i] := by rw [List.getD_eq_getElem?_getD, List.getElem?_eq_getElem hi]; rfl
  have hre : rootE (E.getD i ze) ∈ rsOf N0 E := by
    rw [hg]; exact rsOf_mem.2 (Or.inr ⟨_, List.getElem_mem hi, rfl⟩)
  have hf : (E.getD i ze).first ∈ (rsOf N0 E).map (·.N) := List.mem_map.2 ⟨_, hre, rfl⟩
  have hr0 : (⟨N0, 0, []⟩ : RootR) ∈ rsOf N0 E := by simp [rsOf]
  obtain ⟨e, a1, a2, a3, a4, a5, a6, a7, a8⟩ := h.copied hf hn h0 hfit
  obtain ⟨b1, b2, b3, b4, b5, b6, b7⟩ := h.copyTree hf hn h0 hfit
  have hDe : contentOf V.C (E.getD i ze).first = ((dskOf V.C N0 E).L.getD i ⟨[], []⟩).C := by
    unfold dskOf
    simp only [List.getD_eq_getElem?_getD, List.getElem?_map, List.getElem?_eq_getElem hi, Option.map_some, Option.getD_some]
  generalize hfe : (E.getD i ze).first = f at *
  have h6 := h.sound.free_six hn h0
  have hT : lenTo V.C [n] = max V.C.length (n + 1) := rfl
  have h7 := h.file.seven
  have hlen := h.sound.len
  have e1 : retH V f n = epoch (copyV V f n) [(0, headBytes (lenTo V.C [n]) n)] := by
    unfold retH epoch
    rw [a2.file.num4, puts_one]
  have hC : (retH V f n).C = putsC (copyV V f n).C [(0, headBytes (lenTo V.C [n]) n)] := by rw [e1, epoch_C]
  obtain ⟨c1, c2, c3⟩ := put_kin (C := (copyV V f n).C) (p := 0) (c := headBytes (lenTo V.C [n]) n) (by omega) (Or.inl rfl)
  rw [← hC] at c1 c2 c3
  have hputs : Puts V (retH V f n) := by rw [e1]; exact puts_epoch (puts_copy V f n) _
  refine ⟨e1, ?_⟩
  clear e1 e a1 a5 a6 a7
  generalize retH V f n = W at *
  generalize copyV V f n = U at *
  have s0 := c1.sound b1
  have huse : ∀ m, useOf (U).C (rsOf n E) m + treeOcc (U).C N0 m = useOf V.C (rsOf N0 E) m + treeOcc (U).C n m := fun m => by
    rw [← a8.use m]
    unfold useOf rsOf
    rw [List.map_cons, List.sum_cons, List.map_cons, List.sum_cons]
    dsimp only
    omega
  have hall : ∀ m, m < 256 → base6 m + useOf (U).C (rsOf n E) m + treeOcc (U).C N0 m ≤ countOf (U).C m ∧ (countOf V.C m = base6 m + useOf V.C (rsOf N0 E) m → countOf (U).C m = base6 m + useOf (U).C (rsOf n E) m + treeOcc (U).C N0 m) := fun m hm => by
    have h1 := huse m
    have h2 := h.sound.cnt m hm
    rw [a4 m hm]
    rw [b3 m] at h1
    by_cases z : n = m
    · subst z
      have h3 := use_none h.sound (h.sound.untold hn h0)
      have h4 := base6_eq n
      rw [if_neg (by omega)] at h4
      rw [if_pos rfl] at h1 ⊢
      omega
    · rw [if_neg z] at h1 ⊢
      omega
  have s1 : SoundL (U).C (rsOf n E) := by
    refine b1.roots (fun r hr => ?_) ?_ (fun m hm => ?_)
    · rcases rsOf_mem.1 hr with x | ⟨y, hy, x⟩
      · rw [x]
        exact ⟨⟨h6, by rw [a3]; simp only; omega⟩, b4.2.1, b4.2.2, _, hre, fun j hj => by rw [b2 j hj, ← hfe]; rfl⟩
      · have hr' : r ∈ rsOf N0 E := rsOf_mem.2 (Or.inr ⟨y, hy, x⟩)
        exact ⟨b1.fst r hr', b1.fs _ ⟨r, hr', rfl⟩, b1.fb _ ⟨r, hr', rfl⟩, r, hr', fun j _ => rfl⟩
    · have hnd := b1.nodup
      unfold rsOf at hnd ⊢
      rw [List.map_cons, List.nodup_cons] at hnd ⊢
      refine ⟨fun z => ?_, hnd.2⟩
      obtain ⟨r', hr', e2⟩ := List.mem_map.1 z
      exact b4.1 ⟨r', by unfold rsOf; exact List.mem_cons.2 (Or.inr hr'), e2⟩
    · have := (hall m hm).1
      omega
  have s2 := c1.sound s1
  have hlT : (W).C.length = lenTo V.C [n] := by rw [c1.len, a3]
  have hfile : FileE (W).C (lenTo V.C [n]) n E := by
    refine ⟨?_, by omega, by omega, a2.file.seven, a2.file.most, by omega, c2, by rw [c3 5 (by omega)]; exact a2.file.list, a2.file.ents⟩
    rw [hC]
    exact putsC_lens _ _ a2.file.lens (fun x hx => by rw [List.mem_singleton.1 hx]; exact headBytes_length _ _)
  have hD : dskOf (W).C n E = retD (dskOf V.C N0 E) i := by
    have g : ∀ r ∈ rsOf n E, contentOf (W).C r.N = contentOf (U).C r.N := fun r hr => c1.content s1 hr
    have gn := g ⟨n, 0, []⟩ (by simp [rsOf])
    simp only at gn
    have hA : contentOf (W).C n = ((dskOf V.C N0 E).L.getD i ⟨[], []⟩).C := by
      have hb0 := b6 _ hre
      simp only [rootE] at hb0
      rw [gn, b5, ← hDe, ← hfe, hb0]
    have hB : (E.map fun e => (⟨e.name, contentOf (W).C e.first⟩ : PicR)) = (dskOf V.C N0 E).L := by
      rw [dskOf_L]
      apply List.map_congr_left
      intro x hx
      have g1 := g (rootE x) (rsOf_mem.2 (Or.inr ⟨x, hx, rfl⟩))
      have g2 := b6 (rootE x) (rsOf_mem.2 (Or.inr ⟨x, hx, rfl⟩))
      simp only [rootE] at g1 g2
      rw [g1, g2]
    exact dskOf_eq hA hB
  have ok : Ok (W).C (lenTo V.C [n]) n E (retD (dskOf V.C N0 E) i) := ⟨hfile, by rw [padTo_self hlT]; exact s2, by rw [padTo_self hlT]; exact hD⟩
  have hheld : ∀ m, (heldAll (W).C N0).count m = treeOcc (U).C N0 m := fun m => by
    rw [count_held (s0.zero _ hr0) m]; exact c1.tree b1 hr0 m
  have hl : Lets (W) n E (heldAll (W).C N0) := by
    refine ⟨fun u hu => ?_, fun m hm => ?_⟩
    · have := s0.held_lt hr0 u hu
      have := s0.len
      omega
    · rw [hheld m, c1.count m hm, (c1.shape s1).use]
      exact (hall m hm).1
  obtain ⟨g1, g2, g3, g4⟩ := ok.letGo hlT hl
  have hD2 := g1.holds
  rw [padTo_self g2] at hD2
  refine ⟨ok, hlT, s0, hl, g1.vol g2 g3 (h.log.puts (puts_letGo hputs _)), hD2, fun hx => g4 fun m hm => ?_⟩
  rw [hheld m, c1.count m hm, (c1.shape s1).use]
  exact (hall m hm).2 (hx.eq m hm)
end
end Go.Proofs.YtknjjjenklfeoaaGreatDoor

/-
  The program's Take, Return and Drop, of a volume.
-/
namespace Go.Proofs.YtknjjjenklfeoaaGreatDoor
open Go.RowKit

attribute [local go_sem ↓] loadVar_clus storeVar_clus zeroValue_clus loadVar_tab storeVar_tab zeroValue_tab loadVar_cnt storeVar_cnt zeroValue_cnt loadVar_head storeVar_head zeroValue_head build_head buildSlice_clus loadVar_wr storeVar_wr zeroValue_wr build_wr buildSlice_wr equalIn_clus loadVar_place storeVar_place zeroValue_place build_place loadVar_lst storeVar_lst zeroValue_lst storeVar_ent build_ent
attribute [local go_sem] run_loadClus run_storeClus run_zeroClus run_storeClus_new run_loadClus_new zc_length run_loadTab run_storeTab run_zeroTab run_storeTab_new run_loadTab_new zt_length run_loadCnt run_storeCnt run_zeroCnt run_storeCnt_new run_loadCnt_new zk_length run_loadHead run_storeHead run_zeroHead run_storeHead_new run_bHead HasAt_drew cellsAt_drew HasAt_drewN cellsAt_drewN run_bsClus run_loadWr run_zeroWr run_storeWr run_storeWr_new run_bWr0 run_bsWr run_loadPlace run_storePlace run_zeroPlace run_storePlace_new run_bPlace run_loadLst run_storeLst run_zeroLst run_storeLst_new run_storeEnt run_bEnt
attribute [local go_sem] field_head1 field_head0 Oper.semAt_some
attribute [local go_sem ↓] loadVar_ent zeroValue_ent
attribute [local go_sem] run_loadEnt run_zeroEnt run_storeEnt_new

attribute [local go_sem] field_ent0 field_ent1

theorem txt_self (s : ByteArray) : txt s.data.toList = s := by
  cases s; simp [txt]
theorem short_ents (c : Clus) : Short (entsOf c) := fun k => by
  unfold entsOf
  rw [List.getD_eq_getElem?_getD, List.getElem?_map]
  by_cases hk : k < 4
  · rw [List.getElem?_range hk]
    refine ⟨?_, num_lt _ _⟩
    show (entOf c k).name.length ≤ 12
    unfold entOf nameBytes
    simp only [List.length_take, List.length_drop]
    omega
  · rw [List.getElem?_eq_none (by simpa using hk)]
    exact ⟨by simp [ze], by simp [ze]⟩
theorem Short.set {L : List EntR} (h : Short L) (i : Nat) (e : EntR) (h1 : e.name.length ≤ 12) (h2 : e.first < 65536) : Short (L.set i e) := fun k => by
  rw [List.getD_eq_getElem?_getD, List.getElem?_set]
  split
  · split
    · exact ⟨h1, h2⟩
    · decide
  · have := h k
    rw [List.getD_eq_getElem?_getD] at this
    exact this
theorem Short.less {L : List EntR} (h : Short L) (i : Nat) : Short (lessE L i) := fun k => by
  unfold lessE
  have hall : ∀ e ∈ L.eraseIdx i ++ [ze], e.name.length ≤ 12 ∧ e.first < 65536 := by
    intro e he
    rcases List.mem_append.1 he with x | x
    · obtain ⟨j, hj, rfl⟩ := List.getElem_of_mem (List.mem_of_mem_eraseIdx x)
      have := h j
      rw [List.getD_eq_getElem?_getD, List.getElem?_eq_getElem hj] at this
      exact this
    · rw [List.mem_singleton.1 x]; decide
  rw [List.getD_eq_getElem?_getD]
  by_cases hk : k < (L.eraseIdx i ++ [ze]).length
  · rw [List.getElem?_eq_getElem hk]
    exact hall _ (List.getElem_mem hk)
  · rw [List.getElem?_eq_none (by omega)]
    decide
theorem copyV_len (V : VolR) (f n : Nat) (hC : V.C.length ≤ 256) (h5 : 5 < V.C.length) (hF : FirstOK V f) (hn : n < 256) : (copyV V f n).C.length ≤ 256 ∧ 5 < (copyV V f n).C.length ∧ (copyV V f n).L.length ≤ V.L.length + 100 := by
  have hlC := lengthenV_lenC V [n] (by omega)
  have hlL := lengthenV_lenL V [n]
  have hF1 : FirstOK (lengthenV V [n]) f := hF.same hlC (fun t ht => cl_lengthen V [n] t ht (by omega))
  have H1 : Hid (copy1 V f n = flushV (renumV sharedOf (lengthenV V [n]) (tabsOf (lengthenV V [n]) f))) := rfl
  have H2 : Hid (copyV V f n = flushV (putV (putCnt (copy1 V f n) (copyCnt V.C f n) 4) n (cl (putCnt (copy1 V f n) (copyCnt V.C f n) 4).C f))) := rfl
  generalize lengthenV V [n] = V1 at *
  have hrC := (renumV_same sharedOf_marks (tabsOf V1 f) V1 (tabs_ok hF1)).len
  have hrL := renumV_lenL sharedOf (tabsOf V1 f) V1
  have hrT := tabsOf_len V1 f
  generalize renumV sharedOf V1 (tabsOf V1 f) = V2 at *
  have hf2 := flushV_lenL V2
  have hf2c : (flushV V2).C.length = V2.C.length := by rw [flushV_C]
  rw [← unhide H1] at hf2 hf2c
  generalize copy1 V f n = V3 at *
  generalize copyCnt V.C f n = kk at *
  have hpC := putCnt_lenC' V3 kk (by omega)
  have hpL := putCnt_lenL V3 kk 4
  generalize putCnt V3 kk 4 = V4 at *
  have hqL := putV_lenL V4 n (cl V4.C f)
  have hqC := putV_lenC V4 n (cl V4.C f)
  generalize putV V4 n (cl V4.C f) = V5 at *
  have hf5 := flushV_lenL V5
  have hf5c : (flushV V5).C.length = V5.C.length := by rw [flushV_C]
  rw [← unhide H2] at hf5 hf5c
  omega
theorem copyR_len (V : VolR) (f : Nat) (hC : V.C.length ≤ 256) (h5 : 5 < V.C.length) (hF : FirstOK V f) : (copyR V f).1.C.length ≤ 256 ∧ 5 < (copyR V f).1.C.length ∧ (copyR V f).1.L.length ≤ V.L.length + 100 ∧ (copyR V f).2.1 < 256 := by
  by_cases hg : 0 < (lowFree (cntsOf V.C) 1).length ∧ fitsB (cntsOf V.C) (toldAll V.C f) = true
  · obtain ⟨n, hn, hlt, _⟩ := lowFree_one hg.1
    have e : copyR V f = (copyV V f n, n, 0) := by
      unfold copyR
      rw [if_pos hg, hn, List.getD_cons_zero]
    rw [e]
    have := copyV_len V f n hC h5 hF hlt
    exact ⟨this.1, this.2.1, this.2.2, hlt⟩
  · have e : copyR V f = (V, 0, 5) := by
      unfold copyR
      rw [if_neg hg]
    rw [e]
    exact ⟨hC, h5, by simp only; omega, by simp only; omega⟩

/-- What Take makes of a volume. -/
def takeR (V : VolR) (s : ByteArray) : VolR × Nat :=
  if isNameB s.data.toList = false then (V, 2)
  else if 0 ≤ findE (entsOf (cl V.C 5)) s then (V, 3)
  else if lenOf (entsOf (cl V.C 5)) = 4 then (V, 5)
  else if (copyR V (num (cl V.C 0) 6)).2.2 = 0 then (flushV (putV (copyR V (num (cl V.C 0) 6)).1 5 (listTo ((entsOf (cl V.C 5)).set (lenOf (entsOf (cl V.C 5))) ⟨s.data.toList, (copyR V (num (cl V.C 0) 6)).2.1⟩) 4)), 0)
  else ((copyR V (num (cl V.C 0) 6)).1, (copyR V (num (cl V.C 0) 6)).2.2)

set_option maxHeartbeats 2000000 in
set_option maxRecDepth 100000 in
theorem volTake_any (w : World) (v : Nat) (Cv Lv : Value) (V : VolR) (h : VolAt w v Cv Lv V) (h5 : 5 < V.C.length) (hC : V.C.length ≤ 256) (hL : V.L.length ≤ 400000000) (hF : FirstOK V (num (cl V.C 0) 6)) (s : ByteArray) (hs : s.size ≤ maxLen) :
    Calls Tryz.prog 47 #[.pointer (some ⟨v, 0, none⟩), .string s] w fun e w' => e = .returned (.int .i64 ((takeR V s).2 : Nat)) ∧ ∃ C1 L1, VStep w w' v Cv Lv C1 L1 (takeR V s).1 := by
  have Hi := hide (pIsName_any s w hs)
  have H := hide h
  clear h
  by_cases hnm : isNameB s.data.toList = false
  · have hR : takeR V s = (V, 2) := by unfold takeR; rw [if_pos hnm]
    rw [hR]
    dsimp only
    rw [hnm] at Hi
    go_enter Tryz.func47, Tryz.ntmps47
    go_wp2_with fail
    refine (unhide Hi).mono ?_
    rintro e w1 ⟨rfl, hb1⟩
    have B1 := hide ((VStep.refl (unhide H)).later hb1)
    clear hb1 Hi
    go_wp2
    go_ret
    exact ⟨rfl, _, _, unhide B1⟩
  have hnt : isNameB s.data.toList = true := by cases e : isNameB s.data.toList; exact absurd e hnm; rfl
  have hsl := (name_le hnt).2
  rw [hnt] at Hi
  have Hl : Hid (∀ W, VolAt W v Cv Lv V → _) := fun W hW => list_vol W v Cv Lv V hW h5
  have hel := entsOf_length (cl V.C 5)
  have hle := lenOf_le (entsOf (cl V.C 5))
  have Hfi : Hid (∀ W, _) := fun W => find_any W (entsOf (cl V.C 5)) hel s
  have Hle : Hid (∀ W, _) := fun W => len_any W (entsOf (cl V.C 5)) hel
  have Hh : Hid (∀ W, VolAt W v Cv Lv V → _) := fun W hW => head_vol W v Cv Lv V hW (by omega)
  have Hco : Hid (∀ W, VolAt W v Cv Lv V → _) := fun W hW => copyFirst_any W v Cv Lv V hW h5 hC hL (num (cl V.C 0) 6) hF
  obtain ⟨q1, q2, q3, q4⟩ := copyR_len V (num (cl V.C 0) 6) hC h5 hF
  have hsh := short_ents (cl V.C 5)
  have HR : Hid (takeR V s = if 0 ≤ findE (entsOf (cl V.C 5)) s then (V, 3) else if lenOf (entsOf (cl V.C 5)) = 4 then (V, 5) else if (copyR V (num (cl V.C 0) 6)).2.2 = 0 then (flushV (putV (copyR V (num (cl V.C 0) 6)).1 5 (listTo ((entsOf (cl V.C 5)).set (lenOf (entsOf (cl V.C 5))) ⟨s.data.toList, (copyR V (num (cl V.C 0) 6)).2.1⟩) 4)), 0) else ((copyR V (num (cl V.C 0) 6)).1, (copyR V (num (cl V.C 0) 6)).2.2)) := by
    show _ = _
    unfold takeR
    rw [if_neg hnm]
  generalize copyR V (num (cl V.C 0) 6) = R at *
  generalize entsOf (cl V.C 5) = E at *
  generalize num (cl V.C 0) 6 = n0 at *
  generalize num (cl V.C 0) 4 = cc at *
  obtain ⟨V1, n, er⟩ := R
  dsimp only at q1 q2 q3 q4 HR Hco
  go_enter Tryz.func47, Tryz.ntmps47
  go_wp2_with fail
  refine (unhide Hi).mono ?_
  rintro e w1 ⟨rfl, hb1⟩
  have E1 := hide ((Env.start (unhide H)).later hb1)
  clear hb1 Hi
  go_wp2_with fail
  refine (unhide Hl _ (unhide E1).at').mono ?_
  rintro e w2 ⟨rfl, hb2⟩
  have E2 := ((unhide E1).later hb2).lay (.cells (lv E).toArray 144)
  have l1 := blk_has E2.o0 (n := 8) (by rw [lv_length, hel])
  have l2 := blk_cells E2.o0 (n := 8) (by rw [lv_length, hel])
  have E2 := hide E2
  have zll : zl.length = 4 := rfl
  clear hb2 Hl E1
  go_wp2_with fail
  refine (unhide Hfi _).mono ?_
  rintro e w3 ⟨rfl, hb3⟩
  have E3 := hide ((unhide E2).later hb3)
  clear hb3 Hfi E2 l1 l2
  generalize findE E s = fi at *
  by_cases hfi : 0 ≤ fi
  · have hR : Hid (takeR V s = (V, 3)) := by show _ = _; rw [unhide HR, if_pos hfi]
    have df : decide (fi ≥ 0) = true := decide_eq_true hfi
    have ES := hide (unhide E3).step
    clear E3
    go_wp2
    go_ret
    rw [unhide hR]
    exact ⟨rfl, _, _, unhide ES⟩
  rw [if_neg hfi] at HR
  have df : decide (fi ≥ 0) = false := decide_eq_false hfi
  have l3 := blk_has (unhide E3).o0 (n := 8) (by rw [lv_length, hel])
  have l4 := blk_cells (unhide E3).o0 (n := 8) (by rw [lv_length, hel])
  go_wp2_with fail
  refine (unhide Hle _).mono ?_
  rintro e w4 ⟨rfl, hb4⟩
  have E4 := hide ((unhide E3).later hb4)
  clear hb4 Hle E3 l3 l4
  by_cases hl4 : lenOf E = 4
  · have hR : Hid (takeR V s = (V, 5)) := by show _ = _; rw [unhide HR, if_pos hl4]
    have dl : (((lenOf E : Nat) : Int) == 4) = true := by rw [beq_iff_eq]; omega
    have ES := hide (unhide E4).step
    clear E4
    go_wp2
    go_ret
    rw [unhide hR]
    exact ⟨rfl, _, _, unhide ES⟩
  rw [if_neg hl4] at HR
  have dl : (((lenOf E : Nat) : Int) == 4) = false := by rw [beq_eq_false_iff_ne]; omega
  have Hw : Hid (∀ W p, _) := fun W p => with_any W E hel p (by omega)
  have hsE := hsh.set (lenOf E) ⟨s.data.toList, n⟩ (by exact hsl) (by simp only; omega)
  have hlE : (E.set (lenOf E) ⟨s.data.toList, n⟩).length = 4 := by rw [List.length_set, hel]
  have HPl : Hid (∀ W C1 L1, VolAt W v C1 L1 V1 → _) := fun W C1 L1 hW => putList_any W v C1 L1 V1 hW (E.set (lenOf E) ⟨s.data.toList, n⟩) hlE hsE (by omega) (by omega)
  have hpL := putV_lenL V1 5 (listTo (E.set (lenOf E) ⟨s.data.toList, n⟩) 4)
  have Hw2 : Hid (∀ W, _) := fun W => unhide Hw W ⟨s.data.toList, n⟩
  generalize lenOf E = le at *
  generalize E.set le ⟨s.data.toList, n⟩ = E' at *
  generalize listTo E' 4 = lb at *
  have HFl : Hid (∀ W C1 L1, VolAt W v C1 L1 (putV V1 5 lb) → _) := fun W C1 L1 hW => flush_any W v C1 L1 (putV V1 5 lb) hW (by omega)
  generalize putV V1 5 lb = V2 at *
  clear Hw
  go_wp2_with fail
  refine (unhide Hh _ (unhide E4).at').mono ?_
  rintro e w5 ⟨rfl, hb5⟩
  have E5 := hide ((unhide E4).later hb5)
  clear hb5 Hh E4
  go_wp2_with fail
  refine (unhide Hco _ (unhide E5).at').mono ?_
  rintro e w6 ⟨rfl, C6, L6, hS6⟩
  have E6 := hide ((unhide E5).does hS6)
  clear hS6 Hco E5
  by_cases her : er = 0
  · subst her
    have hR : Hid (takeR V s = (flushV V2, 0)) := by show _ = _; rw [unhide HR, if_pos rfl]
    have l5 := blk_has (unhide E6).o0 (n := 8) (by rw [lv_length, hel])
    have l6 := blk_cells (unhide E6).o0 (n := 8) (by rw [lv_length, hel])
    have hbe := run_bEnt s.data.toList n w6
    rw [txt_self] at hbe
    clear HR
    go_wp2_with fail
    refine (unhide Hw2 _).mono ?_
    rintro e w7 ⟨rfl, hb7⟩
    have E7 := hide ((unhide E6).later hb7)
    clear hb7 Hw2 E6 l5 l6 hbe
    go_wp2_with fail
    refine (unhide HPl _ _ _ (unhide E7).at').mono ?_
    rintro e w8 ⟨rfl, C8, L8, hS8⟩
    have E8 := hide ((unhide E7).does hS8)
    clear hS8 HPl E7
    go_wp2_with fail
    refine (unhide HFl _ _ _ (unhide E8).at').mono ?_
    rintro e w9 ⟨rfl, C9, L9, hS9⟩
    have ES := hide ((unhide E8).does hS9).step
    clear hS9 HFl E8
    go_wp2
    go_ret
    rw [unhide hR]
    exact ⟨rfl, _, _, unhide ES⟩
  · have hR : Hid (takeR V s = (V1, er)) := by show _ = _; rw [unhide HR, if_neg her]
    have de : (((er : Nat) : Int) != 0) = true := by rw [bne_iff_ne]; omega
    have ES := hide (unhide E6).step
    clear E6 HR
    go_wp2
    go_ret
    rw [unhide hR]
    exact ⟨rfl, _, _, unhide ES⟩
end Go.Proofs.YtknjjjenklfeoaaGreatDoor
