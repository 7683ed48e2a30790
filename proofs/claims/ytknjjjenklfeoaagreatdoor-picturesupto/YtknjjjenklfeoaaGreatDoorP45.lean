import Derived.Test.YtknjjjenklfeoaaGreatDoorP44
import Derived.Test.YtknjjjenklfeoaaGreatDoorP33
import Derived.Test.YtknjjjenklfeoaaGreatDoorP43
/-
  Plain: Take, Return and Drop by cases: refused alike, no room, or done.
-/
namespace Go.Proofs.YtknjjjenklfeoaaGreatDoor
section
variable {base : List Clus} {V : VolR} {N0 : Nat} {E : List EntR} {s : ByteArray} {f n i : Nat}
theorem Vol.copy_lenL (h : Vol base V N0 E) (hf : f ∈ (rsOf N0 E).map (·.N)) (hn : n < 256) (h0 : countOf V.C n = 0) (hfit : fitsB (cntsOf V.C) (toldAll V.C f) = true) : (copyV V f n).L.length ≤ V.L.length + 21 ∧ V.L.length ≤ (copyV V f n).L.length := by
  obtain ⟨e1, _⟩ := h.copyA hf hn
  obtain ⟨e2, _⟩ := h.copied hf hn h0 hfit
  have hp := (puts_copy V f n).lenL
  have l1 := lengthenV_lenL' V [n]
  obtain ⟨_, _, _, a4, _⟩ := h.longer [n] (by rw [lastOf_one]; exact hn)
  obtain ⟨r, hr, rfl⟩ := List.mem_map.1 hf
  have h6 := h.sound.fst r hr
  have l2 := epoch_lenL (lengthenV V [n]) (bareList (lengthenV V [n]).C r.N)
  have l3 : (bareList (lengthenV V [n]).C r.N).length ≤ 3 := by
    unfold bareList
    rw [a4 r.N (by omega), List.length_map, List.length_cons]
    have := toldBy_few (cl V.C r.N) (fun i h1 h2 => h.sound.zero r hr i h1 h2)
    omega
  rw [← e1] at l2
  have l4 := epoch_lenL (copy1 V r.N n) (cntPuts (copyCnt V.C r.N n) ++ [(n, cl (copy1 V r.N n).C r.N)])
  rw [← e2] at l4
  have l5 : (cntPuts (copyCnt V.C r.N n) ++ [(n, cl (copy1 V r.N n).C r.N)]).length = 5 := rfl
  omega
theorem Vol.num6 (h : Vol base V N0 E) : num (cl V.C 0) 6 = N0 := h.file.num6
theorem Vol.roots0 (_h : Vol base V N0 E) : N0 ∈ (rsOf N0 E).map (·.N) := by simp [rsOf]
theorem Vol.rootsE (_h : Vol base V N0 E) (hi : i < E.length) : (E.getD i ze).first ∈ (rsOf N0 E).map (·.N) := by
  have hg : (E.getD i ze) = E[i] := by rw [List.getD_eq_getElem?_getD, List.getElem?_eq_getElem hi]; rfl
  rw [hg]
  exact List.mem_map.2 ⟨rootE E[i], rsOf_mem.2 (Or.inr ⟨_, List.getElem_mem hi, rfl⟩), rfl⟩
theorem Vol.firstE (h : Vol base V N0 E) (hi : i < E.length) (he : entR V s = (((i : Nat) : Int), 0)) : firstE V s = (E.getD i ze).first := by
  unfold Go.Proofs.YtknjjjenklfeoaaGreatDoor.firstE
  rw [he, h.ents.1]
  show ((pad4 E).getD i ze).first = _
  rw [pad4_get i hi]
theorem Vol.copyR_yes (h : Vol base V N0 E) (hf : f ∈ (rsOf N0 E).map (·.N)) (hr : roomR V.C f = true) : ∃ n, n < 256 ∧ countOf V.C n = 0 ∧ fitsB (cntsOf V.C) (toldAll V.C f) = true ∧ copyR V f = (copyV V f n, n, 0) := by
  obtain ⟨h1, h2⟩ := (h.room hf).1 hr
  obtain ⟨n, hn, hlt, h0⟩ := lowFree_one h1
  obtain ⟨k1, k2⟩ := h.ok.cnts rfl
  refine ⟨n, hlt, by rw [← k2 n hlt]; exact h0, h2, ?_⟩
  unfold copyR
  rw [if_pos ⟨h1, h2⟩, hn, List.getD_cons_zero]
theorem Vol.copyR_no (h : Vol base V N0 E) (hf : f ∈ (rsOf N0 E).map (·.N)) (hr : roomR V.C f = false) : copyR V f = (V, 0, 5) := by
  unfold copyR
  rw [if_neg (fun x => by rw [(h.room hf).2 x] at hr; cases hr)]

theorem Vol.takeCases (h : Vol base V N0 E) (s : ByteArray) :
    (∃ c, c ≠ 0 ∧ takeR V s = (V, c) ∧ refTakeR (dskOf V.C N0 E) s = (dskOf V.C N0 E, c)) ∨
      ((refTakeR (dskOf V.C N0 E) s).2 = 0 ∧ roomR V.C N0 = false ∧ takeR V s = (V, 5)) ∨
      ((refTakeR (dskOf V.C N0 E) s).2 = 0 ∧ roomR V.C N0 = true ∧ (takeR V s).2 = 0 ∧ (takeR V s).1.L.length ≤ V.L.length + 100 ∧ V.L.length ≤ (takeR V s).1.L.length ∧ ∃ E', Came base V N0 E (takeR V s).1 N0 E' (refTakeR (dskOf V.C N0 E) s).1) := by
  have h4 := h.file.ents.len
  unfold takeR refTakeR
  rw [h.find, dsk_len, h.ents.2, h.ents.1, h.num6]
  by_cases hnm : isNameB s.data.toList = false
  · rw [if_pos hnm, if_pos hnm]
    exact Or.inl ⟨2, by decide, rfl, rfl⟩
  rw [if_neg hnm, if_neg hnm]
  have hnt : isNameB s.data.toList = true := by cases e : isNameB s.data.toList; exact absurd e hnm; rfl
  by_cases hf : 0 ≤ findE (pad4 E) s
  · rw [if_pos hf, if_pos hf]
    exact Or.inl ⟨3, by decide, rfl, rfl⟩
  rw [if_neg hf, if_neg hf]
  by_cases hl : E.length = 4
  · rw [if_pos hl, if_pos (show 4 ≤ E.length by omega)]
    exact Or.inl ⟨5, by decide, rfl, rfl⟩
  rw [if_neg hl, if_neg (show ¬ 4 ≤ E.length by omega)]
  right
  cases hr : roomR V.C N0 with
  | false =>
    left
    rw [h.copyR_no h.roots0 hr]
    exact ⟨rfl, rfl, rfl⟩
  | true =>
    right
    obtain ⟨n, hn, h0, hfit, e⟩ := h.copyR_yes h.roots0 hr
    have hnew := h.fresh (s := s) (by rw [h.ents.1]; omega)
    have h6 := h.sound.free_six hn h0
    have hE' := h.file.ents.snoc hnt hnew (by omega) (show n ≠ 0 by omega) (by omega)
    obtain ⟨t1, t2⟩ := h.take hnt hnew (by omega) hn h0 hfit
    have l1 := h.copy_lenL h.roots0 hn h0 hfit
    have l2 := epoch_lenL (copyV V N0 n) [(5, listBytes (E ++ [⟨s.data.toList, n⟩]))]
    rw [← t1] at l2
    have l3 := (puts_epoch (Puts.refl (copyV V N0 n)) [(5, listBytes (E ++ [⟨s.data.toList, n⟩]))]).lenL
    rw [← t1] at l3
    simp only [List.length_cons, List.length_nil] at l2
    have e2 : flushV (putV (copyV V N0 n) 5 (listTo ((pad4 E).set E.length ⟨s.data.toList, n⟩) 4)) = takeV V N0 n (E ++ [⟨s.data.toList, n⟩]) := by
      rw [pad4_snoc _ (by omega), hE'.clus]
      rfl
    rw [e, if_pos rfl]
    dsimp only
    rw [e2]
    generalize takeV V N0 n (E ++ [⟨s.data.toList, n⟩]) = W at *
    refine ⟨rfl, rfl, rfl, by omega, by omega, E ++ [⟨s.data.toList, n⟩], t2.vol, ?_, t2.exact⟩
    rw [t2.holds]
    rfl

/-- What letGo asks. -/
theorem Ok.goes {W : VolR} {T N1 : Nat} {E1 : List EntR} {D : DiskR} (ok : Ok W.C T N1 E1 D) (hT : W.C.length = T) (hs : SoundL W.C (rsOf N0 E)) (hf : f ∈ (rsOf N0 E).map (·.N)) (hl : Lets W N1 E1 (heldAll W.C f)) : Goes W f := by
  refine ⟨hs.len, hs.firstOK hf, fun g hg => ?_⟩
  obtain ⟨o1, o2, _⟩ := ok.letGo1 hT hl
  have s1 := o1.sound
  rw [padTo_self o2] at s1
  rw [o1.firsts] at hg
  exact s1.firstOK hg
theorem Vol.dropW (h : Vol base V N0 E) (hi : i < E.length) : dropW V i = dropH V (E.eraseIdx i) := by
  unfold Go.Proofs.YtknjjjenklfeoaaGreatDoor.dropW
  rw [h.ents.1, pad4_less i hi h.file.ents.len, (h.file.ents.erase i).clus]
  rfl
theorem Vol.dropGoes (h : Vol base V N0 E) (he : (entR V s).2 = 0) : Goes (Go.Proofs.YtknjjjenklfeoaaGreatDoor.dropW V (entR V s).1.toNat) (Go.Proofs.YtknjjjenklfeoaaGreatDoor.firstE V s) := by
  rcases h.there (s := s) with ⟨m, hm, _, e, _⟩ | ⟨i, hi, e, _⟩
  · rw [e] at he; exact absurd he hm
  · rw [h.firstE hi e, e]
    show Goes (Go.Proofs.YtknjjjenklfeoaaGreatDoor.dropW V i) _
    rw [h.dropW hi]
    obtain ⟨_, d2, d3, d4, d5, _⟩ := h.drop hi
    exact d2.goes d3 d4 (h.rootsE hi) d5
theorem Vol.dropCases (h : Vol base V N0 E) (s : ByteArray) :
    (∃ c, c ≠ 0 ∧ dropR V s = (V, c) ∧ refDropR (dskOf V.C N0 E) s = (dskOf V.C N0 E, c)) ∨
      ((refDropR (dskOf V.C N0 E) s).2 = 0 ∧ (dropR V s).2 = 0 ∧ (dropR V s).1.L.length ≤ V.L.length + 100 ∧ V.L.length ≤ (dropR V s).1.L.length ∧ ∃ E', Came base V N0 E (dropR V s).1 N0 E' (refDropR (dskOf V.C N0 E) s).1) := by
  unfold dropR refDropR
  rcases h.there (s := s) with ⟨m, hm, _, e1, e2⟩ | ⟨i, hi, e1, e2, _⟩
  · left
    refine ⟨m, hm, ?_, ?_⟩
    · rw [e1, if_neg hm]
    · rw [e2, if_neg hm]
  · right
    have hfe := h.firstE hi e1
    rw [hfe, e1, e2]
    dsimp only
    rw [if_pos rfl, if_pos rfl, Int.toNat_natCast, h.dropW hi]
    obtain ⟨d1, d2, d3, d4, d5, d6⟩ := h.drop hi
    have l1 := epoch_lenL V [(5, listBytes (E.eraseIdx i))]
    rw [← d1] at l1
    simp only [List.length_cons, List.length_nil] at l1
    have l2 := d2.letGo_lenL d3 d5
    have l3 := (puts_letGo (puts_epoch (Puts.refl V) [(5, listBytes (E.eraseIdx i))]) (heldAll (dropH V (E.eraseIdx i)).C (E.getD i ze).first)).lenL
    rw [← d1] at l3
    generalize dropH V (E.eraseIdx i) = W at *
    generalize letGoV W (heldAll W.C (E.getD i ze).first) = W2 at *
    refine ⟨rfl, rfl, by dsimp only; omega, l3, E.eraseIdx i, d6.vol, ?_, d6.exact⟩
    rw [d6.holds]
    rfl
theorem Vol.returnHyps (h : Vol base V N0 E) (he : (entR V s).2 = 0) : FirstOK V (Go.Proofs.YtknjjjenklfeoaaGreatDoor.firstE V s) ∧ ((copyR V (Go.Proofs.YtknjjjenklfeoaaGreatDoor.firstE V s)).2.2 = 0 → Goes (retW (copyR V (Go.Proofs.YtknjjjenklfeoaaGreatDoor.firstE V s)).1 (copyR V (Go.Proofs.YtknjjjenklfeoaaGreatDoor.firstE V s)).2.1) (num (cl (copyR V (Go.Proofs.YtknjjjenklfeoaaGreatDoor.firstE V s)).1.C 0) 6)) := by
  rcases h.there (s := s) with ⟨m, hm, _, e, _⟩ | ⟨i, hi, e, _⟩
  · rw [e] at he; exact absurd he hm
  · rw [h.firstE hi e]
    refine ⟨h.sound.firstOK (h.rootsE hi), fun hc => ?_⟩
    cases hr : roomR V.C (E.getD i ze).first with
    | false => rw [h.copyR_no (h.rootsE hi) hr] at hc; cases hc
    | true =>
      obtain ⟨n, hn, h0, hfit, e2⟩ := h.copyR_yes (h.rootsE hi) hr
      obtain ⟨_, _, o1, _⟩ := h.copied (h.rootsE hi) hn h0 hfit
      obtain ⟨_, d2, d3, d4, d5, _⟩ := h.ret hi hn h0 hfit
      rw [e2]
      dsimp only
      rw [o1.file.num6]
      exact d2.goes d3 d4 h.roots0 d5
theorem Vol.returnCases (h : Vol base V N0 E) (s : ByteArray) :
    (∃ c, c ≠ 0 ∧ returnR V s = (V, c) ∧ refReturnR (dskOf V.C N0 E) s = (dskOf V.C N0 E, c)) ∨
      ((refReturnR (dskOf V.C N0 E) s).2 = 0 ∧ ∃ i, i < E.length ∧ refFind (dskOf V.C N0 E) s = (i : Int) ∧ ((roomR V.C (E.getD i ze).first = false ∧ returnR V s = (V, 5)) ∨
        (roomR V.C (E.getD i ze).first = true ∧ (returnR V s).2 = 0 ∧ (returnR V s).1.L.length ≤ V.L.length + 100 ∧ V.L.length ≤ (returnR V s).1.L.length ∧ ∃ N1, Came base V N0 E (returnR V s).1 N1 E (refReturnR (dskOf V.C N0 E) s).1))) := by
  unfold returnR refReturnR
  rcases h.there (s := s) with ⟨m, hm, _, e1, e2⟩ | ⟨i, hi, e1, e2, e3⟩
  · left
    refine ⟨m, hm, ?_, ?_⟩
    · rw [e1, if_neg hm]
    · rw [e2, if_neg hm]
  · right
    have hfe := h.firstE hi e1
    rw [hfe, e1, e2]
    dsimp only
    rw [if_pos rfl, if_pos rfl, Int.toNat_natCast]
    refine ⟨rfl, i, hi, e3, ?_⟩
    cases hr : roomR V.C (E.getD i ze).first with
    | false =>
      left
      rw [h.copyR_no (h.rootsE hi) hr]
      exact ⟨rfl, rfl⟩
    | true =>
      right
      obtain ⟨n, hn, h0, hfit, e4⟩ := h.copyR_yes (h.rootsE hi) hr
      obtain ⟨_, _, o1, _⟩ := h.copied (h.rootsE hi) hn h0 hfit
      obtain ⟨d1, d2, d3, d4, d5, d6⟩ := h.ret hi hn h0 hfit
      have hpic : (picAt (dskOf V.C N0 E).L i).C = (retD (dskOf V.C N0 E) i).C := by
        show _ = ((dskOf V.C N0 E).L.getD i ⟨[], []⟩).C
        unfold picAt
        have hil : i < (dskOf V.C N0 E).L.length := by rw [dsk_len]; exact hi
        rw [List.getD_eq_getElem?_getD, List.getD_eq_getElem?_getD, List.getElem?_eq_getElem hil]
        rfl
      have l0 := h.copy_lenL (h.rootsE hi) hn h0 hfit
      have l1 := epoch_lenL (copyV V (E.getD i ze).first n) [(0, headBytes (lenTo V.C [n]) n)]
      rw [← d1] at l1
      simp only [List.length_cons, List.length_nil] at l1
      have l2 := d2.letGo_lenL d3 d5
      have l3 := (puts_letGo (puts_epoch (puts_copy V (E.getD i ze).first n) [(0, headBytes (lenTo V.C [n]) n)]) (heldAll (retH V (E.getD i ze).first n).C N0)).lenL
      rw [← d1] at l3
      rw [e4]
      dsimp only
      rw [if_pos rfl, o1.file.num6]
      dsimp only
      have e5 : retW (copyV V (E.getD i ze).first n) n = retH V (E.getD i ze).first n := rfl
      rw [e5]
      generalize retH V (E.getD i ze).first n = W at *
      generalize letGoV W (heldAll W.C N0) = W2 at *
      refine ⟨rfl, rfl, by omega, l3, n, d6.vol, ?_, d6.exact⟩
      rw [d6.holds, hpic]
      rfl
end
end Go.Proofs.YtknjjjenklfeoaaGreatDoor

/-
  A pair whose reference becomes another disk.
-/
namespace Go.Proofs.YtknjjjenklfeoaaGreatDoor
open Go.RowKit
section
variable {w : World} {p : Nat} {P : PairR} {S : Nat → Prop}
/-- The pair's reference is another disk from now on. -/
theorem PairAt.newRef {z : Nat} {D1 : DiskR} {Qv : Value} (h : PairAt w p P S) (hr : DiskAt w z Qv D1) (hz : ¬ S z) :
    PairAt (w.setCell ⟨p, 1, none⟩ (.pointer (some ⟨z, 0, none⟩))) p { P with y := z, D := D1, Pv := Qv } (fun k => (S k ∨ k = z) ∨ Qv.ownBlock = some k) := by
  have hk := Kept.only w p 1 (.pointer (some ⟨z, 0, none⟩))
  have key : ∀ {k : Nat} {cs : Array Value} {t : TypeId} {fr : Nat × Nat}, w.heap[k]? = some (.cells cs t fr) → t ≠ 107 → k ≠ p := by
    intro k cs t fr hb h1 e
    subst e
    exact h1 (blk_type hb h.blk)
  have keyR : ∀ {base : Nat} {e : TypeId} {size : Nat} {v : Value} {n : Nat} {xs : List Value}, w.ownsRow base e size v n xs → e ≠ 107 → ∀ g, v.ownBlock = some g → g ≠ p := by
    intro base e size v n xs hr' h1 g hg
    obtain ⟨cs, fr, hb⟩ := row_blk hr' hg
    exact key hb h1
  refine ⟨?_, h.dsk.kept hk ?_, hr.kept hk (key hr.blk (by decide)) (keyR hr.row (by decide)), h.rowB.kept hk (keyR h.rowB.row (by decide)), ownsRow_kept hk h.rowM (keyR h.rowM (by decide)), fun m hm => (h.eM m hm).kept hk (key (h.eM m hm).blk (by decide)) (keyR (h.eM m hm).row (by decide)), fun m hm e => hz ((show m.d = z from e) ▸ (h.inM m hm).1), h.apB, Or.inl (Or.inl h.inP), fun k hk' => Or.inl (Or.inl (h.inD k hk')), Or.inl (Or.inr rfl), ?_, fun m hm => ⟨Or.inl (Or.inl (h.inM m hm).1), fun g hg => Or.inl (Or.inl ((h.inM m hm).2 g hg))⟩, ?_⟩
  · rw [heap_setCell_same _ _ _ _ _ _ _ h.blk]; rfl
  · rintro k (e | e | e | e)
    · rw [e]; exact key h.dsk.blk (by decide)
    · rw [e]; exact key h.dsk.vol.blk (by decide)
    · exact keyR h.dsk.vol.rowC (by decide) k e
    · exact keyR h.dsk.vol.rowL (by decide) k e
  · rintro g (e | e | e)
    · exact Or.inr e
    · exact Or.inl (Or.inl (h.inV g (Or.inr (Or.inl e))))
    · exact Or.inl (Or.inl (h.inV g (Or.inr (Or.inr e))))
  · rintro k ((e | e) | e)
    · exact Nat.lt_of_lt_of_le (h.lt k e) hk.size
    · rw [e]; exact Nat.lt_of_lt_of_le hr.lt hk.size
    · exact Nat.lt_of_lt_of_le (hr.row.lt k e).2 hk.size
theorem Went.newRef {w5 : World} {P1 : PairR} {S1 : Nat → Prop} {z : Nat} {D1 : DiskR} {Qv : Value} (h : PairAt w p P S) (h5 : Went w w5 p P S P1 S1) (hr : DiskAt w5 z Qv D1) (hz0 : w.heap.size ≤ z) (hz : ¬ S1 z) (hQ : ∀ g, Qv.ownBlock = some g → w.heap.size ≤ g) :
    Went w (w5.setCell ⟨p, 1, none⟩ (.pointer (some ⟨z, 0, none⟩))) p P S { P1 with y := z, D := D1, Pv := Qv } (fun k => (S1 k ∨ k = z) ∨ Qv.ownBlock = some k) := by
  refine ⟨h5.at'.newRef hr hz, h5.base, h5.marks, h5.ex, h5.log, h5.logp, h5.kept.trans ((Kept.only w5 p 1 _).mono fun k e => by rw [e]; exact h.inP), ?_⟩
  rintro k ((e | e) | e)
  · exact h5.new k e
  · rw [e]; exact Or.inr hz0
  · exact Or.inr (hQ k e)
theorem Went.below {w5 w6 : World} {P1 : PairR} {S1 : Nat → Prop} (h5 : Went w w5 p P S P1 S1) (hb : Below w5.heap.size w5 w6) : Went w w6 p P S P1 S1 :=
  ⟨h5.at'.below hb, h5.base, h5.marks, h5.ex, h5.log, h5.logp, h5.kept.trans (Kept.of_below hb), h5.new⟩
/-- A call of the program's disk, then a call of a disk that is none of the pair's. -/
theorem Went.other {w3 w4 w5 : World} {z : Nat} {Qv C1 L1 : Value} {V' : VolR} (h : PairAt w p P S) (hb : Below w.heap.size w w3) (hs : VStep w3 w4 P.v P.Cv P.Lv C1 L1 V') (hk : Kept (fun x => x = z ∨ Qv.ownBlock = some x) w4 w5)
    (hz : w.heap.size ≤ z ∧ z < w3.heap.size) (hQ : ∀ g, Qv.ownBlock = some g → w.heap.size ≤ g ∧ g < w3.heap.size) (hl : V'.L.length ≤ P.V.L.length + 100) (hm : P.V.L.length ≤ V'.L.length) :
    Went w w5 p P S { P with Cv := C1, Lv := L1, V := V' } (fun k => S k ∨ foot P.v C1 L1 k) := by
  have h3 := h.below hb
  have h4 := h3.step hs
  have hne : ∀ k, (S k ∨ foot P.v C1 L1 k) → ¬ (k = z ∨ Qv.ownBlock = some k) := fun k hk' x => by
    rcases h3.step_new hs k hk' with y | y
    · have hlt := h.lt k y
      rcases x with x | x
      · omega
      · have := (hQ k x).1; omega
    · rcases x with x | x
      · omega
      · have := (hQ k x).2; omega
  refine ⟨h4.kept hk hne, rfl, rfl, rfl, hl, fun h0 => Nat.lt_of_lt_of_le h0 hm, ?_, fun k hk' => ?_⟩
  · have hkS : Kept S w w4 := (Kept.of_below hb).trans (h3.step_kept hs)
    refine ⟨hk.os.trans hkS.os, hk.tape.trans hkS.tape, hk.output.trans hkS.output, Nat.le_trans hkS.size hk.size, fun k hk' hn => ?_⟩
    rw [hk.block k (Nat.lt_of_lt_of_le hk' hkS.size) (fun x => by
      rcases x with x | x
      · omega
      · have := (hQ k x).1; omega)]
    exact hkS.block k hk' hn
  · rcases h3.step_new hs k hk' with y | y
    · exact Or.inl y
    · have := hb.size; exact Or.inr (by omega)
end
end Go.Proofs.YtknjjjenklfeoaaGreatDoor

/-
  vellumlaw's shares: Take.
-/
namespace Go.Proofs.YtknjjjenklfeoaaGreatDoor
open Go.RowKit
attribute [local go_sem ↓] loadVar_clus storeVar_clus zeroValue_clus loadVar_op
attribute [local go_sem] run_loadClus run_storeClus run_zeroClus run_storeClus_new run_loadClus_new zc_length run_loadOp HasAt_drew cellsAt_drew

def ShareT (p bo d : Nat) (s : ByteArray) (w' : World) : Prop := w'.cell? ⟨p, 0, none⟩ = some (.pointer (some ⟨d, 0, none⟩)) ∧ w'.cell? ⟨bo, 2, none⟩ = some (.string s)

set_option linter.unusedSimpArgs false in
set_option maxHeartbeats 4000000 in
set_option maxRecDepth 100000 in
theorem sharesTake_any (w : World) (p : Nat) (P : PairR) (S : Nat → Prop) (N0 : Nat) (E : List EntR) (h : PairAt w p P S) (hst : Stands P N0 E) (hL : P.V.L.length ≤ 400000000) (o : OpR) (hn : o.name.size ≤ maxLen) (hkd : o.kind = 3) :
    Calls Tryz.prog 63 #[.pointer (some ⟨p, 0, none⟩), .agg (opCells o).toArray] w fun e w' => e = .returned (.bool true) ∧ ∃ P' N1 E', Stands P' N1 E' ∧ ∃ S', Went w w' p P S P' S' := by
  have hg := hst.vol
  obtain ⟨k1, k2, k3, k4, k5⟩ := hg.look
  have h7 := hg.file.seven
  have hmost := hg.file.most
  have hlens := hg.file.lens
  have hr0 : (⟨N0, 0, []⟩ : RootR) ∈ rsOf N0 E := by simp [rsOf]
  have hin := hg.sound.inFile hr0
  have hcase := hg.takeCases o.name
  have hrl : (rsOf N0 E).length ≤ 5 := by have := hg.file.ents.len; simp [rsOf]; omega
  have hFst : FirstOK P.V (num (cl P.V.C 0) 6) := by rw [hg.num6]; exact hg.sound.firstOK hg.roots0
  have hDl : P.D.L.length ≤ 4 := by rw [← hst.disk, dsk_len]; exact hg.file.ents.len
  have hb0 : Below w.heap.size w (w.alloc (.cells (opCells o).toArray 80)) := (Below.refl _ _).alloc (Nat.le_refl _) _
  have hbx0 : (w.alloc (.cells (opCells o).toArray 80)).heap[w.heap.size]? = some (.cells (opCells o).toArray 80 (0, 0)) := heap_alloc_new _ _
  have c0 := (h.below hb0).c0
  have H := hide h
  have HG := hide hg
  have HS := hide hst
  have B0 := hide hb0
  have X0 := hide hbx0
  have HC := hide hcase
  have hft := fun k hk => (unhide H).lt k ((unhide H).inD k (Or.inr hk))
  have Hft := hide hft
  have Hk := hide hkd
  have HFst := hide hFst
  clear h hg hb0 hbx0 hcase hft hst hkd hFst
  go_enter Tryz.func63, Tryz.ntmps63
  go_wp2_with fail
  generalize w.alloc (.cells (opCells o).toArray 80) = w0 at *
  refine (diskFile_any w0 _ _ _ _ _ ((unhide H).below (unhide B0)).dsk (by omega) (by omega)).mono ?_
  rintro e w1 ⟨fv, rfl, rf1, b1⟩
  have B1 := hide ((unhide B0).trans (b1.mono (unhide B0).size))
  have X1 := hide ((b1.block _ (blk_lt (unhide X0))).trans (unhide X0))
  have R1 : Hid (FRow w1 fv P.V.C) := ⟨row_base rf1 (Nat.zero_le _), hlens⟩
  clear B0 X0 rf1 b1 c0
  go_wp2_with fail
  refine (look_any w1 fv P.V.C (unhide R1) (by omega)).mono ?_
  rintro e w2 ⟨rfl, fl, fr, hLk⟩
  have B2 := hide ((unhide B1).trans (hLk.below.mono (unhide B1).size))
  have X2 := hide ((hLk.below.block _ (blk_lt (unhide X1))).trans (unhide X1))
  have F2 := hide hLk.at'
  have hfr : ∀ g, fl.ownBlock = some g → w.heap.size ≤ g := fun g hg => Nat.le_trans (unhide B1).size (hLk.fresh g hg)
  have Hfr := hide hfr
  have hfs : w.heap.size ≤ w1.heap.size := (unhide B1).size
  have c1 := ((unhide H).below (unhide B2)).c1
  have hf2 : w1.heap.size < w2.heap.size := blk_lt hLk.at'.blk
  have hs2 : w.heap.size ≤ w2.heap.size := (unhide B2).size
  clear hLk B1 X1 R1 hfr
  generalize w1.heap.size = f at *
  go_wp2_with fail
  refine (copied_any w2 P.y P.Pv P.D ((unhide H).below (unhide B2)).ref (by omega)).mono ?_
  rintro e w3 ⟨Qv, rfl, hD3, hQ3, b3⟩
  have B3 := hide ((unhide B2).trans (b3.mono (unhide B2).size))
  have X3 := hide ((b3.block _ (blk_lt (unhide X2))).trans (unhide X2))
  have F3 := hide ((unhide F2).below b3)
  have D3 := hide hD3
  have hz3 : w2.heap.size < w3.heap.size := hD3.lt
  have hQ : ∀ g, Qv.ownBlock = some g → w.heap.size ≤ g ∧ g < w3.heap.size := fun g hg => ⟨by have := hQ3 g hg; omega, (hD3.row.lt g hg).2⟩
  have HF2l : Hid (∀ g, fl.ownBlock = some g → g < w2.heap.size) := fun g hg => ((unhide F2).rowL.lt g hg).2
  have HF2r : Hid (∀ g, fr.ownBlock = some g → g < w2.heap.size) := fun g hg => ((unhide F2).rowR.lt g hg).2
  have HQ := hide hQ
  have HQ3 := hide hQ3
  have ck : w3.cell? ⟨w.heap.size, 0, none⟩ = some (.int .i64 3) := by rw [cell_blk (unhide X3) 0, List.getElem?_toArray]; show some (Value.int .i64 o.kind) = _; rw [unhide Hk]
  clear hD3 hQ3 b3 hQ X2 F2 c1 B2
  generalize w2.heap.size = z at *
  go_wp2_with fail
  have hT : ShareT p w.heap.size P.d o.name w3.drew := ⟨((unhide H).below (unhide B3).drew).c0, (cell_blk (w := w3) (unhide X3) 2).trans rfl⟩
  have Hw := hide (diskTake_any w3.drew P.d P.v P.Cv P.Lv P.V ((unhide H).below (unhide B3).drew).dsk (by omega) hmost (by omega) (unhide HFst) o.name hn)
  generalize hR : takeR P.V o.name = R at *
  have HR := hide hR
  clear hR
  refine wp_region_L (ShareT p w.heap.size P.d o.name) 7 (by kernel_rfl) ?_
  refine wpAnyL_take (i := 0) (v := ?_) rfl (by kernel_rfl) (by kernel_rfl) (by kernel_rfl) (by kernel_rfl) (fun _ _ _ h => h) (Or.inl ⟨by rfl, fun W hW => ?_⟩) hT ?_
  rotate_left 1
  · (obtain ⟨t0, t1⟩ := hW; go_simp; with_reducible rfl)
  simp only [Act.put, List.setIfInBounds_toArray, List.set_cons_zero, List.set_cons_succ]
  refine wpAnyL_take (i := 1) (v := ?_) rfl (by kernel_rfl) (by kernel_rfl) (by kernel_rfl) (by kernel_rfl) (fun _ _ _ h => h) (Or.inl ⟨by rfl, fun W hW => ?_⟩) hT ?_
  rotate_left 1
  · (obtain ⟨t0, t1⟩ := hW; go_simp; with_reducible rfl)
  simp only [Act.put, List.setIfInBounds_toArray, List.set_cons_zero, List.set_cons_succ]
  refine wpAnyL_take (i := 2) (v := ?_) rfl (by kernel_rfl) (by kernel_rfl) (by kernel_rfl) (by kernel_rfl) (fun _ _ _ h => h) (Or.inl ⟨by rfl, fun W hW => ?_⟩) hT ?_
  rotate_left 1
  · (obtain ⟨t0, t1⟩ := hW; go_simp; with_reducible rfl)
  simp only [Act.put, List.setIfInBounds_toArray, List.set_cons_zero, List.set_cons_succ]
  refine wpAnyL_take (i := 3) (v := ?_) rfl (by kernel_rfl) (by kernel_rfl) (by kernel_rfl) (by kernel_rfl) (fun _ _ _ h => h) (Or.inl ⟨by rfl, fun W hW => ?_⟩) hT ?_
  rotate_left 1
  · (obtain ⟨t0, t1⟩ := hW; go_simp; with_reducible rfl)
  simp only [Act.put, List.setIfInBounds_toArray, List.set_cons_zero, List.set_cons_succ]
  refine wpAnyL_take (i := 4) (v := ?_) rfl (by kernel_rfl) (by kernel_rfl) (by kernel_rfl) (by kernel_rfl) (fun _ _ _ h => h) (Or.inl ⟨by rfl, fun W hW => ?_⟩) hT ?_
  rotate_left 1
  · (obtain ⟨t0, t1⟩ := hW; go_simp; with_reducible rfl)
  simp only [Act.put, List.setIfInBounds_toArray, List.set_cons_zero, List.set_cons_succ]
  refine wpAnyL_take (i := 5) (v := ?_) rfl (by kernel_rfl) (by kernel_rfl) (by kernel_rfl) (by kernel_rfl) (fun _ _ _ h => h) (Or.inl ⟨by rfl, fun W hW => ?_⟩) hT ?_
  rotate_left 1
  · (obtain ⟨t0, t1⟩ := hW; go_simp; with_reducible rfl)
  simp only [Act.put, List.setIfInBounds_toArray, List.set_cons_zero, List.set_cons_succ]
  refine wpAnyL_one (i := 6) (by kernel_rfl) rfl fun K6 hK6 => ?_
  go_simp
  go_at_call 17
  refine (unhide Hw).mono ?_
  rintro e w4 ⟨rfl, C4, L4, hS4⟩
  have S4 : Hid (VStep w3 w4 P.v P.Cv P.Lv C4 L4 R.1) := ⟨hS4.at', ⟨hS4.kept.os, hS4.kept.tape, hS4.kept.output, hS4.kept.size, hS4.kept.block⟩, hS4.new⟩
  have hnf : ∀ k, w.heap.size ≤ k → ¬ foot P.v P.Cv P.Lv k := fun k hk hf => by have := unhide Hft k hf; omega
  have X4 := hide ((unhide S4).kept.blk (hnf _ (Nat.le_refl _)) (unhide X3))
  have F4 := hide ((unhide F3).kept (unhide S4).kept (hnf _ hfs) (fun g hg => hnf g (unhide Hfr g hg)) (fun g hg => by obtain ⟨cs, fr', hb⟩ := row_blk (unhide F3).rowR hg; exact ((unhide H).below (unhide B3)).footKey hb (by decide) (by decide) (by decide)))
  have D4 := hide ((unhide D3).kept (unhide S4).kept (hnf _ hs2) (fun g hg => hnf g (unhide HQ g hg).1))
  have hsz4 : w3.heap.size ≤ w4.heap.size := (unhide S4).kept.size
  have c04 := (((unhide H).below (unhide B3)).step (unhide S4)).c0
  have hT4 : ShareT p w.heap.size P.d o.name w4 := ⟨c04, (cell_blk (unhide X4) 2).trans rfl⟩
  clear hS4 hnf
  refine hK6 _ _ (Or.inr hT4) ?_
  try simp only [Act.put, List.setIfInBounds_toArray, List.set_cons_zero, List.set_cons_succ]
  refine wpAnyL_one (i := 7) (by kernel_rfl) rfl fun K7 hK7 => ?_
  go_simp
  refine hK7 _ _ (Or.inl rfl) ?_
  try simp only [Act.put, List.setIfInBounds_toArray, List.set_cons_zero, List.set_cons_succ]
  refine wpAnyL_done (by kernel_rfl) ?_ _
  clear hT hT4 c04 Hw X3 F3 D3 ck
  have cn4 : w4.cell? ⟨w.heap.size, 2, none⟩ = some (.string o.name) := (cell_blk (unhide X4) 2).trans rfl
  have Hw := hide (refTake_any w4 z Qv P.D (unhide D4) (by omega) o.name hn)
  rw [(unhide HS).disk] at HC
  generalize hR' : refTakeR P.D o.name = R' at *
  clear hR'
  go_wp2_with fail
  refine (unhide Hw).mono ?_
  rintro e w5 ⟨rfl, Q5, hS5⟩
  have hk5 : Kept (fun x => x = z ∨ Qv.ownBlock = some x) w4 w5 := hS5.kept
  have D5 := hide hS5.at'
  have HQ5 : Hid (∀ g, Q5.ownBlock = some g → w.heap.size ≤ g) := fun g hg => by
    rcases hS5.new g hg with x | x
    · exact (unhide HQ g x).1
    · have := (unhide B3).size; omega
  have F5 := hide ((unhide F4).kept hk5 (fun x => by
    rcases x with x | x
    · omega
    · have := unhide HQ3 _ x; omega) (fun g hg x => by
    have := unhide HF2l g hg
    rcases x with x | x
    · omega
    · have := unhide HQ3 _ x; omega) (fun g hg x => by
    have := unhide HF2r g hg
    rcases x with x | x
    · omega
    · have := unhide HQ3 _ x; omega))
  have Hoth := hide (fun hl hm => Went.other (unhide H) (unhide B3) (unhide S4) hk5 ⟨hs2, hz3⟩ (unhide HQ) hl hm)
  have hnz : ¬ (S z ∨ foot P.v C4 L4 z) := fun x => by
    rcases ((unhide H).below (unhide B3)).step_new (unhide S4) z x with y | y
    · have := (unhide H).lt z y; omega
    · omega
  have Hnz := hide hnz
  clear hS5 hk5 hnz
  clear Hw X4 F4 D4 cn4
  have cb5 := (unhide F5).cBad
  rw [k1] at cb5
  rcases unhide HC with ⟨c, hc, e1, e2⟩ | ⟨e2, hrm, e1⟩ | ⟨e2, hrm, e1, hl, hm, E', hcm⟩
  · subst e1
    subst e2
    dsimp only at Hoth D5 ⊢
    have HW := hide (unhide Hoth (by omega) (Nat.le_refl _))
    have Hst : Hid (Stands { P with Cv := C4, Lv := L4, V := P.V } N0 E) := ⟨(unhide HS).vol, (unhide HS).disk, (unhide HS).exact⟩
    have d0 : (((c : Nat) : Int) == 0) = false := by rw [beq_eq_false_iff_ne]; omega
    have hnum := hide (fun W => num_any ((c : Nat) : Int) W)
    clear Hoth D5 F5 HC
    go_wp2_with fail
    refine (unhide hnum _).mono ?_
    rintro e w9 ⟨rfl, rfl⟩
    go_wp2
    go_ret
    exact ⟨rfl, _, _, _, unhide Hst, _, unhide HW⟩
  · subst e1
    dsimp only at Hoth ⊢
    rw [e2]
    have HW := hide (unhide Hoth (by omega) (Nat.le_refl _))
    have Hst : Hid (Stands { P with Cv := C4, Lv := L4, V := P.V } N0 E) := ⟨(unhide HS).vol, (unhide HS).disk, (unhide HS).exact⟩
    have hrt : rootOf (look P.V.C) 0 = ⟨N0, 0, []⟩ := by unfold rootOf; rw [k3]; rfl
    have Hroom := hide (fun (W : World) (hB : Below w5.heap.size w5 W) => refRoom_any W f fl fr (look P.V.C) ((unhide F5).below hB) 0 (by rw [k3]; simp [rsOf]) (by rw [k3]; omega) (by rw [k2]; exact hmost) (by rw [k2]; omega) (by rw [hrt, k2]; exact hin))
    rw [hrt, k2] at Hroom
    dsimp only at Hroom
    rw [hrm] at Hroom
    clear Hoth D5 F5 HC hrm e2
    go_wp2_with fail
    refine (unhide Hroom _ (Below.refl _ _)).mono ?_
    rintro e w6 ⟨rfl, b6⟩
    have HW6 := hide ((unhide HW).below b6)
    clear b6 HW Hroom
    go_wp2
    go_ret
    exact ⟨rfl, _, _, _, unhide Hst, _, unhide HW6⟩
  · rw [e2, e1]
    have HW := hide (unhide Hoth hl hm)
    have hD0 := (unhide HS).disk
    have hrt : rootOf (look P.V.C) 0 = ⟨N0, 0, []⟩ := by unfold rootOf; rw [k3]; rfl
    have Hroom := hide (fun (W : World) (hB : Below w5.heap.size w5 W) => refRoom_any W f fl fr (look P.V.C) ((unhide F5).below hB) 0 (by rw [k3]; simp [rsOf]) (by rw [k3]; omega) (by rw [k2]; exact hmost) (by rw [k2]; omega) (by rw [hrt, k2]; exact hin))
    rw [hrt, k2] at Hroom
    dsimp only at Hroom
    rw [hrm] at Hroom
    have Hst : Hid (Stands { P with Cv := C4, Lv := L4, V := R.1, y := z, D := R'.1, Pv := Q5 } N0 E') := ⟨hcm.vol, hcm.holds, fun hx => hcm.exact ((unhide HS).exact hx)⟩
    have hnum := hide (fun W => num_any 0 W)
    clear Hoth F5 HC hrm e2 e1
    go_wp2_with fail
    refine (unhide Hroom _ (Below.refl _ _)).mono ?_
    rintro e w6 ⟨rfl, b6⟩
    have HW6 := hide ((unhide HW).below b6)
    have HD6 := hide ((unhide D5).below b6)
    have HN := hide (Went.newRef (unhide H) (unhide HW6) (unhide HD6) hs2 (unhide Hnz) (unhide HQ5))
    have f6 := fun j => frozen_blk (unhide HW6).at'.blk j
    have cy6 := (unhide HW6).at'.c1
    clear b6 HW Hroom
    go_wp2_with fail
    refine (unhide hnum _).mono ?_
    rintro e w9 ⟨rfl, rfl⟩
    go_wp2
    go_ret
    exact ⟨rfl, _, _, _, unhide Hst, _, unhide HN⟩
end Go.Proofs.YtknjjjenklfeoaaGreatDoor
