import Derived.Test.YtknjjjenklfeoaaGreatDoorP38
import Derived.Test.YtknjjjenklfeoaaGreatDoorP36
/-
  Plain: a first table is copied: the file is made longer, marks are taken off, counts go up, the copy is written.
-/
namespace Go.Proofs.YtknjjjenklfeoaaGreatDoor
section
variable {L : List Clus} {rs : List RootR} {f : Nat}
/-- What is told once, from a table that is not a first table's, is not told by that first table. -/
theorem SoundL.noShare (h : SoundL L rs) (hf : f ∈ rs.map (·.N)) {t q : Nat} (ht : IsFst rs t ∨ IsSec L rs t) (hn : t ∉ f :: toldBy (numsOf (cl L f))) (hq : q < 32) (h0 : nm L t q ≠ 0) (h1 : countOf L (nm L t q % 32768) = 1) : (toldAll L f).count (nm L t q % 32768) = 0 := by
  obtain ⟨rf, hrf, rfl⟩ := List.mem_map.1 hf
  refine List.count_eq_zero.2 fun hm => ?_
  have hin := h.num_in ht q hq h0
  have hlen := h.len
  have u1 := h.used1 ht q hq h0
  have u2 := h.cnt (nm L t q % 32768) (by omega)
  have hu : useOf L rs (nm L t q % 32768) = 1 := by omega
  obtain ⟨j', hj', hj0, hc⟩ := mem_toldAll (fun i h1 h2 => h.zero rf hrf i h1 h2) hm
  rcases ht with ⟨r, hr, rfl⟩ | ⟨r, hr, j, hj, hjj, e⟩
  · have hq2 : q < 2 := by
      by_cases x : q < 2
      · exact x
      · exact absurd (h.zero r hr q (by omega) hq) h0
    rcases hc with e | ⟨k, hk, hk0, e⟩
    · have := sec_place hu hr hrf hq2 hj' h0 hj0 rfl e
      exact hn (by rw [this.1]; simp)
    · exact h.sb _ ⟨r, hr, q, hq2, h0, rfl⟩ ⟨_, ⟨rf, hrf, j', hj', hj0, rfl⟩, k, hk, hk0, e⟩
  · have hblk : IsBlk L rs (nm L t q % 32768) := ⟨t, ⟨r, hr, j, hj, hjj, e⟩, q, hq, h0, rfl⟩
    rcases hc with e2 | ⟨k, hk, hk0, e2⟩
    · exact h.sb _ ⟨rf, hrf, j', hj', hj0, e2⟩ hblk
    · have e3 : nm L (nm L r.N j % 32768) q = nm L t q := by rw [e]
      have := blk_place hu hr hrf hj hj' hq hk hjj hj0 (by rw [e3]; exact h0) hk0 (by rw [e3]) e2
      refine hn (List.mem_cons.2 (Or.inr ?_))
      rw [← e, ← this.1, ← this.2.1]
      exact toldBy_mem (by omega) hj0
end
section
variable {base : List Clus} {V : VolR} {N0 : Nat} {E : List EntR} {f n : Nat}
def copy1 (V : VolR) (f n : Nat) : VolR := flushV (renumV sharedOf (lengthenV V [n]) (tabsOf (lengthenV V [n]) f))
def copyCnt (C : List Clus) (f n : Nat) : List UInt8 := (plus (cntsOf C) (toldAll C f)).set n 1
def copyV (V : VolR) (f n : Nat) : VolR := flushV (putV (putCnt (copy1 V f n) (copyCnt V.C f n) 4) n (cl (putCnt (copy1 V f n) (copyCnt V.C f n) 4).C f))
/-- The tables of a first table. -/
def ofTree (C : List Clus) (f t : Nat) : Prop := t ∈ f :: toldBy (numsOf (cl C f))
theorem SoundL.same_bare {L : List Clus} {rs : List RootR} (h : SoundL L rs) {t : Nat} (ht : IsFst rs t ∨ IsSec L rs t) (q : Nat) (hq : q < 32) : SameN (num (bareTab (cl L t)) (2 * q)) (nm L t q) := by
  rw [bare_num _ _ hq]
  show SameN (nm L t q % 32768) (nm L t q)
  refine ⟨⟨fun e => ?_, fun e => ?_⟩, by omega⟩
  · by_cases h0 : nm L t q = 0
    · exact h0
    · have := h.num_in ht q hq h0; omega
  · rw [e]
/-- The marks are taken off. -/
theorem Vol.copyA (h : Vol base V N0 E) (hf : f ∈ (rsOf N0 E).map (·.N)) (hn : n < 256) :
    copy1 V f n = epoch (lengthenV V [n]) (bareList (lengthenV V [n]).C f) ∧ (∀ ps, (∀ x ∈ ps, x ∈ bareList (lengthenV V [n]).C f) → Ok (putsC (lengthenV V [n]).C ps) (lenTo V.C [n]) N0 E (dskOf V.C N0 E)) ∧
      Ok (copy1 V f n).C (lenTo V.C [n]) N0 E (dskOf V.C N0 E) ∧ (copy1 V f n).C.length = V.C.length ∧ (∀ t, t ≠ 0 → ofTree V.C f t → cl (copy1 V f n).C t = bareTab (cl V.C t)) ∧ (∀ t, t ≠ 0 → ¬ ofTree V.C f t → cl (copy1 V f n).C t = cl V.C t) := by
  obtain ⟨a1, a2, a3, a4, a5⟩ := h.longer [n] (by rw [lastOf_one]; exact hn)
  have hlen := h.sound.len
  have htab : ∀ t, ofTree V.C f t → IsFst (rsOf N0 E) t ∨ IsSec V.C (rsOf N0 E) t := fun t ht => tabs_kind h.sound hf ht
  have hlt : ∀ t, ofTree V.C f t → 6 ≤ t ∧ t < V.C.length := fun t ht => h.sound.tab_lt (htab t ht)
  have hf6 := hlt f (by unfold ofTree; simp)
  have ef : cl (lengthenV V [n]).C f = cl V.C f := a4 f (by omega)
  have e : copy1 V f n = epoch (lengthenV V [n]) (bareList (lengthenV V [n]).C f) := by
    unfold copy1 epoch bareList tabsOf
    rw [bare_puts (lengthenV V [n]).C _ (lengthenV V [n]) (fun t ht => ?_) (fun t _ => Or.inl rfl)]
    rw [ef] at ht
    rw [a2]; exact (hlt t ht).2
  have hmem : ∀ x ∈ bareList (lengthenV V [n]).C f, ofTree V.C f x.1 ∧ x.2 = bareTab (cl V.C x.1) := by
    intro x hx
    unfold bareList at hx
    rw [ef] at hx
    obtain ⟨t, ht, rfl⟩ := List.mem_map.1 hx
    exact ⟨ht, by rw [a4 t (by have := hlt t ht; omega)]⟩
  have hpad : ∀ t q, t ≠ 0 → t < V.C.length → nm (padTo (lengthenV V [n]).C (lenTo V.C [n])) t q = nm V.C t q := by
    intro t q h0 ht
    rw [nm_pad _ _ _ _ (by unfold lenTo; omega), vw_at (by rw [a2]; exact ht), a4 t h0]
  have hok : ∀ ps, (∀ x ∈ ps, x ∈ bareList (lengthenV V [n]).C f) → Ok (putsC (lengthenV V [n]).C ps) (lenTo V.C [n]) N0 E (dskOf V.C N0 E) := by
    intro ps hps
    refine a1.marks ps fun x hx => ?_
    obtain ⟨b1, b2⟩ := hmem x (hps x hx)
    have b3 := hlt x.1 b1
    have hsec : ∀ s, IsSec V.C (rsOf N0 E) s → IsSec (padTo (lengthenV V [n]).C (lenTo V.C [n])) (rsOf N0 E) s := by
      rintro s ⟨r, hr, j, hj, h0, e⟩
      have := h.sound.fst r hr
      exact ⟨r, hr, j, hj, by rw [hpad _ _ (by omega) this.2]; exact h0, by rw [hpad _ _ (by omega) this.2]; exact e⟩
    refine ⟨?_, by rw [b2]; exact bareTab_length _, fun q hq => ?_, fun q hq hm => ?_⟩
    · rcases htab _ b1 with y | y
      · exact Or.inl y
      · exact Or.inr (hsec _ y)
    · rw [hpad _ _ (by omega) b3.2, b2]
      exact h.sound.same_bare (htab _ b1) q hq
    · rw [b2, bare_num _ _ hq] at hm
      omega
  have hC : (copy1 V f n).C = putsC (lengthenV V [n]).C (bareList (lengthenV V [n]).C f) := by rw [e, epoch_C]
  have hl2 : (copy1 V f n).C.length = V.C.length := by
    rw [hC]
    have := putsC_length (bareList (lengthenV V [n]).C f) (lengthenV V [n]).C V.C.length (by omega) (fun x hx => (hlt _ (hmem x hx).1).2)
    omega
  refine ⟨e, hok, by rw [hC]; exact hok _ (fun x hx => hx), hl2, fun t h0 ht => ?_, fun t h0 ht => ?_⟩
  · have := hlt t ht
    rw [← vw_at (by rw [hl2]; exact this.2), hC]
    exact vw_puts_new (fun t => bareTab (cl V.C t)) t _ _ (fun x hx => (hmem x hx).2) ⟨(t, bareTab (cl (lengthenV V [n]).C t)), by
      unfold bareList
      rw [ef]
      exact List.mem_map.2 ⟨t, ht, rfl⟩, rfl⟩
  · by_cases hl : t < V.C.length
    · rw [← vw_at (by rw [hl2]; exact hl), hC, vw_puts_none t _ _ (fun x hx z => ht (by rw [← z]; exact (hmem x hx).1)), vw_at (by rw [a2]; exact hl), a4 t h0]
    · rw [cl_past (by omega), cl_past (by omega)]
theorem Vol.copy_cnt (h : Vol base V N0 E) (hf : f ∈ (rsOf N0 E).map (·.N)) (hn : n < 256) (hfit : fitsB (cntsOf V.C) (toldAll V.C f) = true) : (copyCnt V.C f n).length = 256 ∧ (∀ m, m < 256 → byteAt (copyCnt V.C f n) m = if n = m then 1 else countOf V.C m + (toldAll V.C f).count m) ∧ (∀ u ∈ toldAll V.C f, 6 ≤ u ∧ u < V.C.length) := by
  obtain ⟨k1, k2⟩ := h.ok.cnts rfl
  obtain ⟨r, hr, rfl⟩ := List.mem_map.1 hf
  have hlen := h.sound.len
  have hu : ∀ u ∈ toldAll V.C r.N, 6 ≤ u ∧ u < V.C.length := fun u hu => by
    obtain ⟨j, hj, h0, x | ⟨k, hk, hk0, x⟩⟩ := mem_toldAll (fun i h1 h2 => h.sound.zero r hr i h1 h2) hu
    · exact h.sound.sec _ ⟨r, hr, j, hj, h0, x⟩
    · exact h.sound.blk _ ⟨_, ⟨r, hr, j, hj, h0, rfl⟩, k, hk, hk0, x⟩
  refine ⟨by unfold copyCnt; rw [List.length_set, plus_length, k1], fun m hm => ?_, hu⟩
  unfold copyCnt
  rw [byteAt_set _ _ _ _ (by rw [plus_length, k1]; exact hn), plus_get _ _ _ (fun u h => by rw [k1]; have := hu u h; omega) hfit, k2 m hm]
  rfl
/-- The copy is written and counted: of that any may be missing. -/
theorem Vol.copied (h : Vol base V N0 E) (hf : f ∈ (rsOf N0 E).map (·.N)) (hn : n < 256) (h0 : countOf V.C n = 0) (hfit : fitsB (cntsOf V.C) (toldAll V.C f) = true) :
    copyV V f n = epoch (copy1 V f n) (cntPuts (copyCnt V.C f n) ++ [(n, cl (copy1 V f n).C f)]) ∧
      (∀ ps, (∀ x ∈ ps, x ∈ cntPuts (copyCnt V.C f n) ++ [(n, cl (copy1 V f n).C f)]) → Ok (putsC (copy1 V f n).C ps) (lenTo V.C [n]) N0 E (dskOf V.C N0 E)) ∧
      Ok (copyV V f n).C (lenTo V.C [n]) N0 E (dskOf V.C N0 E) ∧ (copyV V f n).C.length = lenTo V.C [n] ∧
      (∀ m, m < 256 → countOf (copyV V f n).C m = if n = m then 1 else countOf V.C m + (toldAll V.C f).count m) ∧ cl (copyV V f n).C n = bareTab (cl V.C f) ∧
      (∀ t, 5 ≤ t → t < V.C.length → t ≠ n → ofTree V.C f t → cl (copyV V f n).C t = bareTab (cl V.C t)) ∧ (∀ t, 5 ≤ t → t < V.C.length → t ≠ n → ¬ ofTree V.C f t → cl (copyV V f n).C t = cl V.C t) ∧ Shape V.C (copyV V f n).C (rsOf N0 E) := by
  obtain ⟨a0, a1, a2, a3, a4, a5⟩ := h.copyA hf hn
  obtain ⟨k1, k2, k3⟩ := h.copy_cnt hf hn hfit
  have hT : lenTo V.C [n] = max V.C.length (n + 1) := rfl
  have h6 := h.sound.free_six hn h0
  have h7 := h.file.seven
  have hlen := h.sound.len
  have hun := h.sound.untold hn h0
  have htab : ∀ t, ofTree V.C f t → IsFst (rsOf N0 E) t ∨ IsSec V.C (rsOf N0 E) t := fun t ht => tabs_kind h.sound hf ht
  have hf6 := h.sound.tab_lt (htab f (by unfold ofTree; simp))
  have hnt : ¬ ofTree V.C f n := fun x => by
    rcases htab n x with y | y
    · exact hun.1 y
    · exact hun.2.1 y
  have same : ∀ t, (IsFst (rsOf N0 E) t ∨ IsSec V.C (rsOf N0 E) t) → ∀ q, q < 32 → SameN (nm (padTo (copy1 V f n).C (lenTo V.C [n])) t q) (nm V.C t q) ∧ (32768 ≤ nm (padTo (copy1 V f n).C (lenTo V.C [n])) t q → ¬ ofTree V.C f t ∧ nm (padTo (copy1 V f n).C (lenTo V.C [n])) t q = nm V.C t q) := by
    intro t ht q hq
    have := h.sound.tab_lt ht
    rw [nm_pad _ _ _ _ (by omega), vw_at (by omega)]
    by_cases ho : ofTree V.C f t
    · rw [a4 t (by omega) ho]
      exact ⟨h.sound.same_bare ht q hq, fun hm => by rw [bare_num _ _ hq] at hm; omega⟩
    · rw [a5 t (by omega) ho]
      exact ⟨SameN.refl _, fun _ => ⟨ho, rfl⟩⟩
  have hs1 : Shape V.C (padTo (copy1 V f n).C (lenTo V.C [n])) (rsOf N0 E) := ⟨fun r hr j hj => (same _ (Or.inl ⟨r, hr, rfl⟩) j hj).1, fun s hs k hk => (same s (Or.inr hs) k hk).1⟩
  have key : ∀ t, (IsFst (rsOf N0 E) t ∨ IsSec V.C (rsOf N0 E) t) → ∀ q, q < 32 → 32768 ≤ nm (padTo (copy1 V f n).C (lenTo V.C [n])) t q → byteAt (copyCnt V.C f n) (nm (padTo (copy1 V f n).C (lenTo V.C [n])) t q % 32768) = 1 := by
    intro t ht q hq hm
    obtain ⟨ho, e⟩ := (same t ht q hq).2 hm
    rw [e] at hm ⊢
    have hin := h.sound.num_in ht q hq (by omega)
    have h1 := h.sound.marked1 ht q hq hm
    rw [k2 _ (by omega)]
    have hz := h.sound.noShare hf ht ho hq (by omega) h1
    split
    · rfl
    · omega
  have hok : ∀ ps, (∀ x ∈ ps, x ∈ cntPuts (copyCnt V.C f n) ++ [(n, cl (copy1 V f n).C f)]) → Ok (putsC (copy1 V f n).C ps) (lenTo V.C [n]) N0 E (dskOf V.C N0 E) := by
    intro ps hps
    refine a2.counts (copyCnt V.C f n) k1 (fun m => m = n) (fun m hm => ?_) (fun m hm => ?_) (fun m hm => ?_) (fun m hm hTm => ?_) (fun r hr j hj hm => key r.N (Or.inl ⟨r, hr, rfl⟩) j (by omega) hm) (fun s hs q hq hm => key s (Or.inr ((hs1.isSec s).1 hs)) q hq hm) ps (fun x hx => ?_)
    · rw [hm]
      exact ⟨by omega, h6, hun.1, fun x => hun.2.1 ((hs1.isSec n).1 x), fun x => hun.2.2 ((hs1.isBlk n).1 x)⟩
    · rw [hs1.use, k2 m hm]
      by_cases e : n = m
      · subst e
        rw [if_pos rfl, use_none h.sound hun, base6_eq, if_neg (by omega)]
        omega
      · rw [if_neg e]
        have := h.sound.cnt m hm
        omega
    · rw [k2 m hm]
      split
      · omega
      · obtain ⟨c1, c2⟩ := h.ok.cnts rfl
        by_cases hmm : m ∈ toldAll V.C f
        · have := (fits_iff _ _ (fun u hu => by rw [c1]; have := k3 u hu; omega)).1 hfit m hmm
          rw [c2 m hm] at this
          omega
        · rw [List.count_eq_zero.2 hmm]
          have := h.sound.top m hm
          omega
    · rw [k2 m hm, if_neg (by omega), h.sound.none m hm (by omega), List.count_eq_zero.2 (fun x => by have := k3 m x; omega)]
    · rcases List.mem_append.1 (hps x hx) with y | y
      · exact Or.inl (cntPuts_mem y)
      · rw [List.mem_singleton.1 y]
        refine Or.inr ⟨rfl, ?_⟩
        exact a2.file.lens _ (by
          unfold cl
          rw [List.getD_eq_getElem?_getD, List.getElem?_eq_getElem (by omega)]
          exact List.getElem_mem _)
  have e : copyV V f n = epoch (copy1 V f n) (cntPuts (copyCnt V.C f n) ++ [(n, cl (copy1 V f n).C f)]) := by
    unfold copyV epoch
    rw [puts_append, ← putCnt_puts, puts_one]
    dsimp only
    rw [cl_putCnt _ (by omega) f (by omega) 4 (by omega), if_neg (by omega)]
  have hC : (copyV V f n).C = putsC (copy1 V f n).C (cntPuts (copyCnt V.C f n) ++ [(n, cl (copy1 V f n).C f)]) := by rw [e, epoch_C]
  have e2 : putsC (copy1 V f n).C (cntPuts (copyCnt V.C f n) ++ [(n, cl (copy1 V f n).C f)]) = putC (putsC (copy1 V f n).C (cntPuts (copyCnt V.C f n))) (n, cl (copy1 V f n).C f) := by simp [putsC]
  have hl4 : (putsC (copy1 V f n).C (cntPuts (copyCnt V.C f n))).length = V.C.length := by
    have := putsC_length (cntPuts (copyCnt V.C f n)) (copy1 V f n).C V.C.length (by omega) (fun x hx => by obtain ⟨p, hp, rfl⟩ := cntPuts_mem hx; simp only; omega)
    omega
  have hl : (copyV V f n).C.length = lenTo V.C [n] := by
    rw [hC, e2, putC_length, hl4]; rfl
  have hvw : ∀ t, 5 ≤ t → t < V.C.length → t ≠ n → cl (copyV V f n).C t = cl (copy1 V f n).C t := fun t h5 ht hne => by
    rw [← vw_at (by omega), hC, e2, vw_putC, if_neg (fun z => hne z.symm), vw_puts_none t _ _ (fun x hx => by obtain ⟨p, hp, rfl⟩ := cntPuts_mem hx; simp only; omega), vw_at (by omega)]
  have hb1 : ∀ t, 5 ≤ t → t < V.C.length → t ≠ n → ofTree V.C f t → cl (copyV V f n).C t = bareTab (cl V.C t) := fun t h5 ht hne ho => by rw [hvw t h5 ht hne, a4 t (by omega) ho]
  have hb2 : ∀ t, 5 ≤ t → t < V.C.length → t ≠ n → ¬ ofTree V.C f t → cl (copyV V f n).C t = cl V.C t := fun t h5 ht hne ho => by rw [hvw t h5 ht hne, a5 t (by omega) ho]
  have same2 : ∀ t, (IsFst (rsOf N0 E) t ∨ IsSec V.C (rsOf N0 E) t) → ∀ q, q < 32 → SameN (nm (copyV V f n).C t q) (nm V.C t q) := fun t ht q hq => by
    have h1 := h.sound.tab_lt ht
    have hne : t ≠ n := fun z => by
      rw [z] at ht
      rcases ht with y | y
      · exact hun.1 y
      · exact hun.2.1 y
    unfold nm
    by_cases ho : ofTree V.C f t
    · rw [hb1 t (by omega) h1.2 hne ho]; exact h.sound.same_bare ht q hq
    · rw [hb2 t (by omega) h1.2 hne ho]; exact SameN.refl _
  refine ⟨e, hok, by rw [hC]; exact hok _ (fun x hx => hx), hl, fun m hm => ?_, ?_, hb1, hb2, ⟨fun r hr j hj => same2 _ (Or.inl ⟨r, hr, rfl⟩) j hj, fun s hs k hk => same2 s (Or.inr hs) k hk⟩⟩
  · have := vw_cntPuts (copy1 V f n).C (copyCnt V.C f n) m hm [(n, cl (copy1 V f n).C f)] (fun x hx => by rw [List.mem_singleton.1 hx]; simp only; omega)
    unfold countOf
    rw [← vw_at (by omega), hC, this, k2 m hm]
    rfl
  · rw [← vw_at (by omega), hC, e2, vw_putC, if_pos rfl, a4 f (by omega) (by unfold ofTree; simp)]
end
end Go.Proofs.YtknjjjenklfeoaaGreatDoor

/-
  The program's copyFirst.
-/
namespace Go.Proofs.YtknjjjenklfeoaaGreatDoor
open Go.RowKit Go.Shelf
attribute [local go_sem ↓] loadVar_clus storeVar_clus zeroValue_clus loadVar_tab storeVar_tab zeroValue_tab loadVar_cnt storeVar_cnt zeroValue_cnt loadVar_head storeVar_head zeroValue_head build_head buildSlice_clus loadVar_wr storeVar_wr zeroValue_wr build_wr buildSlice_wr equalIn_clus loadVar_place storeVar_place zeroValue_place build_place
attribute [local go_sem] run_loadClus run_storeClus run_zeroClus run_storeClus_new run_loadClus_new zc_length run_loadTab run_storeTab run_zeroTab run_storeTab_new run_loadTab_new zt_length run_loadCnt run_storeCnt run_zeroCnt run_storeCnt_new run_loadCnt_new zk_length run_loadHead run_storeHead run_zeroHead run_storeHead_new run_bHead HasAt_drew cellsAt_drew HasAt_drewN cellsAt_drewN run_bsClus run_loadWr run_zeroWr run_storeWr run_storeWr_new run_bWr0 run_bsWr run_loadPlace run_storePlace run_zeroPlace run_storePlace_new run_bPlace
attribute [local go_sem] field_head1 field_head0

theorem shared_of (n : Nat) (hn : n < 65536) (w : World) : Calls Tryz.prog 147 #[.int .u16 (n : Nat)] w fun e w' => e = .returned (.int .u16 ((sharedOf n : Nat) : Int)) ∧ w' = w := by
  go_enter Tryz.func147, Tryz.ntmps147
  go_wp2
  go_ret
  exact ⟨ret_int (andNot_mark n hn), rfl⟩
theorem shared_changes (M : Nat) : Changes 147 #[] [] sharedOf M := fun W n _ hn _ _ => shared_of n hn W

theorem cl_lengthen (V : VolR) (F : List Nat) (t : Nat) (ht : t ≠ 0) (h0 : 0 < V.C.length) : cl (lengthenV V F).C t = cl V.C t := by
  unfold lengthenV
  split
  · rw [flushV_C]
    by_cases htl : t < V.C.length
    · exact cl_putV_ne _ _ _ _ htl (fun e => ht e.symm)
    · rw [cl_past (by rw [putV_lenC]; omega), cl_past (by omega)]
  · rfl
theorem TabOK.same {A B : VolR} (hl : B.C.length = A.C.length) (hc : ∀ t, t ≠ 0 → cl B.C t = cl A.C t) {t : Nat} (h : TabOK A t) : TabOK B t := by
  have e : InR B = InR A := by funext c; unfold InR; rw [hl]
  unfold TabOK NumsOK
  rw [e, hc t (by have := h.1.1; omega)]
  exact h
theorem FirstOK.same {A B : VolR} (hl : B.C.length = A.C.length) (hc : ∀ t, t ≠ 0 → cl B.C t = cl A.C t) {t : Nat} (h : FirstOK A t) : FirstOK B t := by
  refine ⟨h.1.same hl hc, fun i => ?_⟩
  rw [hc t (by have := h.1.1.1; omega)]
  exact ⟨(h.2 i).1, fun h0 => ((h.2 i).2 h0).same hl hc⟩

/-- What copyFirst makes: the volume, the cluster, how it went. -/
def copyR (V : VolR) (f : Nat) : VolR × Nat × Nat :=
  if 0 < (lowFree (cntsOf V.C) 1).length ∧ fitsB (cntsOf V.C) (toldAll V.C f) = true then (copyV V f ((lowFree (cntsOf V.C) 1).getD 0 0), (lowFree (cntsOf V.C) 1).getD 0 0, 0) else (V, 0, 5)

set_option maxHeartbeats 4000000 in
set_option maxRecDepth 100000 in
/-- Where it is refused. -/
theorem copyFirst_bad (w : World) (v : Nat) (Cv Lv : Value) (V : VolR) (h : VolAt w v Cv Lv V) (h5 : 5 < V.C.length) (hC : V.C.length ≤ 256) (f : Nat) (hF : FirstOK V f)
    (hbad : ¬ (0 < (lowFree (cntsOf V.C) 1).length ∧ fitsB (cntsOf V.C) (toldAll V.C f) = true)) :
    Calls Tryz.prog 86 #[.pointer (some ⟨v, 0, none⟩), .int .i64 (f : Nat)] w fun e w' => e = .returned (.tuple #[.int .i64 0, .int .i64 5]) ∧ Below w.heap.size w w' := by
  have Hf := hide (lowestFree_any w v Cv Lv V h (by omega) 1 (by omega))
  have Hs : Hid (∀ W, VolAt W v Cv Lv V → _) := fun W hW => callsIn_wide.1 (shared_any W v Cv Lv V hW h5 hC f hF)
  have H := hide h
  have hFle := (lowTo_le (cntsOf V.C) 1 256).1
  change (lowFree (cntsOf V.C) 1).length ≤ 1 at hFle
  have hsl : (sharedR V.C f).1.length = 256 := by
    unfold sharedR
    split
    · rw [plus_length]; exact cntsOf_length V.C h.lenC (by omega)
    · exact zk_length
  have hs2 : (sharedR V.C f).2 = fitsB (cntsOf V.C) (toldAll V.C f) := by
    unfold sharedR
    split
    · rename_i e; rw [e]
    · rename_i e; simp at e; rw [e]
  clear h
  generalize lowFree (cntsOf V.C) 1 = F at *
  generalize fitsB (cntsOf V.C) (toldAll V.C f) = b at *
  generalize sharedR V.C f = R at *
  obtain ⟨k, b'⟩ := R
  dsimp only at hsl hs2 Hs
  subst hs2
  go_enter Tryz.func86, Tryz.ntmps86
  go_wp2_with fail
  refine (unhide Hf).mono ?_
  rintro e w1 ⟨x, rfl, hx, hb1⟩
  obtain ⟨fa, fcap, rfl⟩ := row_form hx
  have B1 := hide hb1
  clear hx hb1 Hf
  go_wp2_with fail
  refine (unhide Hs _ ((unhide H).below (unhide B1))).mono ?_
  rintro e w2 ⟨rfl, hb2⟩
  have B2 := (unhide B1).trans (hb2.mono (unhide B1).size)
  have B3 := hide (B2.alloc B2.size (.cells (cv k).toArray 123))
  clear B2 hb2 Hs B1
  by_cases hl : 0 < F.length
  · have hb : b' = false := by
      cases b' with
      | false => rfl
      | true => exact absurd ⟨hl, rfl⟩ hbad
    subst hb
    have hl1 : ((F.length : Nat) : Int) = 1 := by omega
    go_wp2
    go_ret2
    exact ⟨rfl, unhide B3⟩
  · have hl1 : ((F.length : Nat) : Int) = 0 := by omega
    go_wp2
    go_ret2
    exact ⟨rfl, unhide B3⟩

/-- A slice of numbers, as a block of one's own. -/
theorem row_box {w1 : World} {base g cap k : Nat} {xs : List Value} (hx : w1.ownsRow base 3 1 (.slice (some ⟨g, 0, none⟩) k cap) k xs) :
    ∃ cur, base ≤ g ∧ w1.heap[g]? = some (.cells cur 3 (0, 0)) ∧ ∀ W : World, W.heap[g]? = some (.cells cur 3 (0, 0)) → W.ownsRow 0 3 1 (.slice (some ⟨g, 0, none⟩) k cap) k xs := by
  obtain ⟨h1, h2⟩ := hx
  rcases h2 with ⟨h2, _⟩ | ⟨g', cap', cur, e, hg, hb, r⟩
  · cases h2
  · injection e with e1 e2 e3
    injection e1 with e1
    injection e1 with e1
    subst e1 e3
    exact ⟨cur, hg, hb, fun W hW => ⟨h1, Or.inr ⟨_, _, cur, rfl, Nat.zero_le _, hW, r⟩⟩⟩
theorem Env.with {w W : World} {v g : Nat} {o : Obj} {Cv Lv C1 L1 : Value} {V : VolR} {bs : List (Nat × Obj)} (h : Env w W v Cv Lv C1 L1 V bs) (hg : W.heap[g]? = some o) (hw : w.heap.size ≤ g) (hf : ¬ foot v C1 L1 g) : Env w W v Cv Lv C1 L1 V ((g, o) :: bs) :=
  ⟨h.step, fun x hx => by
    rcases List.mem_cons.1 hx with rfl | hx
    · exact ⟨hg, hw, hf⟩
    · exact h.objs x hx⟩
theorem copy_set (k : List UInt8) (n : Nat) : (cv k).toArray.setIfInBounds n (.int .u8 1) = (cv (k.set n 1)).toArray := by
  rw [List.setIfInBounds_toArray]
  exact congrArg List.toArray (cv_setB k n 1 (by omega)).symm

set_option maxHeartbeats 4000000 in
set_option maxRecDepth 100000 in
/-- Where it is done. -/
theorem copyFirst_good (w : World) (v : Nat) (Cv Lv : Value) (V : VolR) (h : VolAt w v Cv Lv V) (h5 : 5 < V.C.length) (hC : V.C.length ≤ 256) (hL : V.L.length ≤ 400000000) (f : Nat) (hF : FirstOK V f) (n : Nat) (hn : n < 256)
    (hlow : lowFree (cntsOf V.C) 1 = [n]) (hfit : fitsB (cntsOf V.C) (toldAll V.C f) = true) :
    Calls Tryz.prog 86 #[.pointer (some ⟨v, 0, none⟩), .int .i64 (f : Nat)] w fun e w' => e = .returned (.tuple #[.int .i64 (n : Nat), .int .i64 0]) ∧ ∃ C1 L1, VStep w w' v Cv Lv C1 L1 (copyV V f n) := by
  have Hf := hide (lowestFree_any w v Cv Lv V h (by omega) 1 (by omega))
  rw [hlow] at Hf
  have hR : sharedR V.C f = (plus (cntsOf V.C) (toldAll V.C f), true) := by unfold sharedR; rw [if_pos hfit]
  have Hs : Hid (∀ W, VolAt W v Cv Lv V → _) := fun W hW => callsIn_wide.1 (shared_any W v Cv Lv V hW h5 hC f hF)
  rw [hR] at Hs
  dsimp only at Hs
  have hkl : (plus (cntsOf V.C) (toldAll V.C f)).length = 256 := by rw [plus_length]; exact cntsOf_length V.C h.lenC (by omega)
  have hlC := lengthenV_lenC V [n] (by omega)
  have hlL := lengthenV_lenL V [n]
  have hF1 : FirstOK (lengthenV V [n]) f := hF.same hlC (fun t ht => cl_lengthen V [n] t ht (by omega))
  have HL : Hid (∀ W C1 L1 x, VolAt W v C1 L1 V → W.ownsRow 0 3 1 x [n].length (iv [n]) → _) := fun W C1 L1 x hW hx => lengthen_any W v C1 L1 V hW [n] (by simp) (by simp) (by rw [lastOf_one]; exact hn) x hx (by omega) (by omega) (by omega)
  have H1 : Hid (copy1 V f n = flushV (renumV sharedOf (lengthenV V [n]) (tabsOf (lengthenV V [n]) f))) := rfl
  have H2 : Hid (copyV V f n = flushV (putV (putCnt (copy1 V f n) (copyCnt V.C f n) 4) n (cl (putCnt (copy1 V f n) (copyCnt V.C f n) 4).C f))) := rfl
  have H3 : Hid (copyCnt V.C f n = (plus (cntsOf V.C) (toldAll V.C f)).set n 1) := rfl
  generalize lengthenV V [n] = V1 at *
  have HR : Hid (∀ W C1 L1, VolAt W v C1 L1 V1 → _) := fun W C1 L1 hW => callsIn_wide.1 (renumber_in W v C1 L1 V1 hW f hF1.1 hF1.2 (by omega) (by omega) 147 #[] [] sharedOf sharedOf_marks (shared_changes _) (enters_of Tryz.func147 (by kernel_rfl) rfl) (fun x hx => by cases hx))
  have hrC := (renumV_same sharedOf_marks (tabsOf V1 f) V1 (tabs_ok hF1)).len
  have hrL := renumV_lenL sharedOf (tabsOf V1 f) V1
  have hrT := tabsOf_len V1 f
  generalize renumV sharedOf V1 (tabsOf V1 f) = V2 at *
  have hf2 := flushV_lenL V2
  have hf2c : (flushV V2).C.length = V2.C.length := by rw [flushV_C]
  have HF2 : Hid (∀ W C1 L1, VolAt W v C1 L1 V2 → _) := fun W C1 L1 hW => flush_any W v C1 L1 V2 hW (by omega)
  rw [← unhide H1] at hf2 hf2c HF2
  have hset := copy_set (plus (cntsOf V.C) (toldAll V.C f)) n
  rw [← unhide H3] at hset
  have hcl : (copyCnt V.C f n).length = 256 := by rw [unhide H3, List.length_set]; exact hkl
  generalize copyCnt V.C f n = kk at *
  generalize plus (cntsOf V.C) (toldAll V.C f) = k at *
  generalize copy1 V f n = V3 at *
  have HP : Hid (∀ W C1 L1, VolAt W v C1 L1 V3 → _) := fun W C1 L1 hW => putCounts_any W v C1 L1 V3 hW kk hcl (by omega) (by omega)
  have hpC := putCnt_lenC' V3 kk (by omega)
  have hpL := putCnt_lenL V3 kk 4
  generalize putCnt V3 kk 4 = V4 at *
  have hf4 : f < V4.C.length := by have := hF.1.1.2; omega
  have HA : Hid (∀ W C1 L1, VolAt W v C1 L1 V4 → _) := fun W C1 L1 hW => at_any W v C1 L1 V4 hW f hf4
  have HPu : Hid (∀ W C1 L1, VolAt W v C1 L1 V4 → (cl V4.C f).length = 64 → _) := fun W C1 L1 hW hd => put_any W v C1 L1 V4 hW n (by omega) (cl V4.C f) hd (by omega) (by omega)
  have Hd : Hid (∀ W C1 L1, VolAt W v C1 L1 V4 → (cl V4.C f).length = 64) := fun W C1 L1 hW => hW.lenC _ (by
    unfold cl
    rw [List.getD_eq_getElem?_getD, List.getElem?_eq_getElem hf4]
    exact List.getElem_mem _)
  have hqL := putV_lenL V4 n (cl V4.C f)
  generalize cl V4.C f = dd at *
  generalize putV V4 n dd = V5 at *
  have HF5 : Hid (∀ W C1 L1, VolAt W v C1 L1 V5 → _) := fun W C1 L1 hW => flush_any W v C1 L1 V5 hW (by omega)
  rw [← unhide H2] at HF5
  generalize copyV V f n = V6 at *
  have H := hide h
  clear h H1 H2 H3 hR hfit hlow hF hF1
  go_enter Tryz.func86, Tryz.ntmps86
  go_wp2_with fail
  refine (unhide Hf).mono ?_
  rintro e w1 ⟨x, rfl, hx, hb1⟩
  obtain ⟨g, cap, rfl, _⟩ := row_some hx (by simp)
  obtain ⟨cur, hgw, hgb, hrow⟩ := row_box hx
  have E1 := hide (((Env.start (unhide H)).later hb1).with hgb hgw (fun hf => by have := (unhide H).foot_lt _ hf; omega))
  have Hc : Hid (∀ W : World, W.heap[g]? = some (.cells cur 3 (0, 0)) → W.cell? ⟨g, 0, none⟩ = some (.int .i64 (n : Nat))) := fun W hW => ints_get (F := [n]) (hrow W hW) 0 (by simp)
  have Hrow := hide hrow
  clear hx hb1 Hf hrow hgb
  go_wp2_with fail
  refine (unhide Hs _ (unhide E1).at').mono ?_
  rintro e w2 ⟨rfl, hb2⟩
  have E2 := hide (((unhide E1).later hb2).lay (.cells (cv k).toArray 123))
  have hgk : g ≠ w2.heap.size := by have := blk_lt ((unhide E1).later hb2).o0; omega
  clear E1 hb2 Hs
  go_wp2_with fail
  refine (unhide HL _ _ _ _ (unhide E2).at' (unhide Hrow _ (unhide E2).o1)).mono ?_
  rintro e w3 ⟨rfl, C3, L3, hS3⟩
  have E3 := hide ((unhide E2).does hS3)
  clear hS3 E2 HL Hrow
  go_wp2_with fail
  refine (unhide HR _ _ _ (unhide E3).at').mono ?_
  rintro e w4 ⟨rfl, C4, L4, hS4⟩
  have E4 := hide ((unhide E3).does hS4)
  clear hS4 E3 HR
  go_wp2_with fail
  refine (unhide HF2 _ _ _ (unhide E4).at').mono ?_
  rintro e w5 ⟨rfl, C5, L5, hS5⟩
  have E5 := (unhide E4).does hS5
  have c5 := unhide Hc w5 E5.o1
  have hni : (n : Int) < 256 := by omega
  have k5 : w5.cell? ⟨w2.heap.size, n, none⟩ = some (.int .u8 (byteAt k n : Nat)) := by
    rw [cell_blk E5.o0, List.getElem?_toArray, cv_get _ _ (by omega)]
  have f5 := frozen_blk E5.o0 n
  have E6 := E5.put (by rintro x hx; rw [List.mem_singleton.1 hx]; exact hgk) (Kept.only _ w2.heap.size n (.int .u8 1)) (heap_setCell_same _ _ _ _ _ _ _ E5.o0)
  rw [hset] at E6
  have l1 := blk_has E6.o0 (n := 256) (by rw [cv_length, hcl])
  have l2 := blk_cells E6.o0 (n := 256) (by rw [cv_length, hcl])
  have E6 := hide E6
  clear E5 hS5 E4 HF2
  generalize byteAt k n = bb at *
  go_wp2_with fail
  refine (unhide HP _ _ _ (unhide E6).at').mono ?_
  rintro e w7 ⟨rfl, C7, L7, hS7⟩
  have E7 := (unhide E6).does hS7
  have c7 : w7.drew.cell? ⟨g, 0, none⟩ = some (.int .i64 (n : Nat)) := unhide Hc w7 E7.o1
  have hdd := unhide Hd _ _ _ E7.at'
  have Ha := hide (unhide HA _ _ _ E7.drew.at')
  have E7 := hide E7
  clear hS7 E6 HP l1 l2 k5 f5 c5 HA
  go_wp2
  go_region_law (first
    | (go_simp
       go_at_call 142
       refine (unhide Ha).mono ?_
       rintro e w8 ⟨rfl, hb8⟩
       have E8 := hide ((unhide E7).drew.later hb8)
       have c8 : w8.cell? ⟨g, 0, none⟩ = some (.int .i64 (n : Nat)) := unhide Hc w8 (unhide E8).o1)
    | (go_simp
       go_at_call 70
       refine (unhide HPu _ _ _ (unhide E8).at' hdd).mono ?_
       rintro e w9 ⟨rfl, C9, L9, hS9⟩
       have E9 := hide ((unhide E8).does hS9)
       clear hS9))
  all_goals
    go_wp2_with fail
    refine (unhide HF5 _ _ _ (unhide E9).at').mono ?_
    rintro e w10 ⟨rfl, C10, L10, hS10⟩
    have E10 := (unhide E9).does hS10
    have c10 := unhide Hc w10 E10.o1
    have ES := hide E10.step
    clear E10 hS10
    go_wp2
    go_ret2
    exact ⟨rfl, C10, L10, unhide ES⟩

theorem copyFirst_any (w : World) (v : Nat) (Cv Lv : Value) (V : VolR) (h : VolAt w v Cv Lv V) (h5 : 5 < V.C.length) (hC : V.C.length ≤ 256) (hL : V.L.length ≤ 400000000) (f : Nat) (hF : FirstOK V f) :
    Calls Tryz.prog 86 #[.pointer (some ⟨v, 0, none⟩), .int .i64 (f : Nat)] w fun e w' => e = .returned (.tuple #[.int .i64 ((copyR V f).2.1 : Nat), .int .i64 ((copyR V f).2.2 : Nat)]) ∧ ∃ C1 L1, VStep w w' v Cv Lv C1 L1 (copyR V f).1 := by
  by_cases hg : 0 < (lowFree (cntsOf V.C) 1).length ∧ fitsB (cntsOf V.C) (toldAll V.C f) = true
  · obtain ⟨n, hn, hlt, _⟩ := lowFree_one hg.1
    have e : copyR V f = (copyV V f n, n, 0) := by
      unfold copyR
      rw [if_pos hg, hn, List.getD_cons_zero]
    have hc := copyFirst_good w v Cv Lv V h h5 hC hL f hF n hlt hn hg.2
    rw [e]
    generalize copyV V f n = U at *
    exact hc
  · have e : copyR V f = (V, 0, 5) := by
      unfold copyR
      rw [if_neg hg]
    rw [e]
    refine (copyFirst_bad w v Cv Lv V h h5 hC f hF hg).mono ?_
    rintro e w' ⟨rfl, hb⟩
    exact ⟨rfl, Cv, Lv, (VStep.refl h).later hb⟩
end Go.Proofs.YtknjjjenklfeoaaGreatDoor

/-
  The program's pictures: the list is put.
-/
namespace Go.Proofs.YtknjjjenklfeoaaGreatDoor
open Go.RowKit

attribute [local go_sem ↓] loadVar_clus storeVar_clus zeroValue_clus loadVar_tab storeVar_tab zeroValue_tab loadVar_cnt storeVar_cnt zeroValue_cnt loadVar_head storeVar_head zeroValue_head build_head buildSlice_clus loadVar_wr storeVar_wr zeroValue_wr build_wr buildSlice_wr equalIn_clus loadVar_place storeVar_place zeroValue_place build_place loadVar_lst storeVar_lst zeroValue_lst storeVar_ent build_ent
attribute [local go_sem] run_loadClus run_storeClus run_zeroClus run_storeClus_new run_loadClus_new zc_length run_loadTab run_storeTab run_zeroTab run_storeTab_new run_loadTab_new zt_length run_loadCnt run_storeCnt run_zeroCnt run_storeCnt_new run_loadCnt_new zk_length run_loadHead run_storeHead run_zeroHead run_storeHead_new run_bHead HasAt_drew cellsAt_drew HasAt_drewN cellsAt_drewN run_bsClus run_loadWr run_zeroWr run_storeWr run_storeWr_new run_bWr0 run_bsWr run_loadPlace run_storePlace run_zeroPlace run_storePlace_new run_bPlace run_loadLst run_storeLst run_zeroLst run_storeLst_new run_storeEnt run_bEnt
attribute [local go_sem] field_head1 field_head0 Oper.semAt_some
attribute [local go_sem ↓] loadVar_ent zeroValue_ent
attribute [local go_sem] run_loadEnt run_zeroEnt run_storeEnt_new


set_option maxHeartbeats 1000000 in
set_option maxRecDepth 100000 in
theorem putList_any (w : World) (v : Nat) (Cv Lv : Value) (V : VolR) (h : VolAt w v Cv Lv V) (L : List EntR) (hl4 : L.length = 4) (hs : Short L) (hC : V.C.length ≤ 1000) (hL : V.L.length ≤ 900000000) :
    Calls Tryz.prog 88 #[.pointer (some ⟨v, 0, none⟩), .agg (lv L).toArray] w fun e w' => e = .returned (.tuple #[]) ∧ ∃ Cv' Lv', VStep w w' v Cv Lv Cv' Lv' (putV V 5 (listTo L 4)) := by
  have E0 := (Env.start h).lay (.cells (lv L).toArray 144)
  have l1 := blk_has E0.drew.o0 (n := 8) (by rw [lv_length, hl4])
  have l2 := blk_cells E0.drew.o0 (n := 8) (by rw [lv_length, hl4])
  have hbl := listTo_length hs 4 (by omega)
  have Hp := hide (listCluster_any (w.alloc (.cells (lv L).toArray 144)).drew L hl4 hs)
  have Hpu : Hid (∀ W C1 L1, VolAt W v C1 L1 V → _) := fun W C1 L1 hW => put_any W v C1 L1 V hW 5 (by omega) (listTo L 4) hbl (by omega) (by omega)
  have HE := hide E0
  clear E0 h
  generalize listTo L 4 = c at *
  go_enter Tryz.func88, Tryz.ntmps88
  go_wp2
  go_region_law (first
    | (go_simp
       go_at_call 148
       refine (unhide Hp).mono ?_
       rintro e w1 ⟨rfl, hb1⟩
       have E1 := hide ((unhide HE).drew.later hb1))
    | (go_simp
       go_at_call 70
       refine (unhide Hpu _ _ _ (unhide E1).at').mono ?_
       rintro e w2 ⟨rfl, C2, L2, hS⟩
       have E2 := hide ((unhide E1).does hS).step
       clear hS))
  all_goals
    go_end0
    exact ⟨rfl, C2, L2, unhide E2⟩
end Go.Proofs.YtknjjjenklfeoaaGreatDoor
