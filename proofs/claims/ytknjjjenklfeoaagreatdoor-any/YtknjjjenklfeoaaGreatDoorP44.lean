import Derived.Test.YtknjjjenklfeoaaGreatDoorP43
import Derived.Test.YtknjjjenklfeoaaGreatDoorP38
/-
  Plain: Take, Return and Drop by cases: refused alike, no room, or done.
-/
namespace Go.Proofs.YtknjjjenklfeoaaGreatDoor
section
variable {base : List Clus} {V : VolR} {N0 : Nat} {E : List EntR} {s : ByteArray} {f n i : Nat}
theorem Vol.copy_lenL (h : Vol base V N0 E) (hf : f ∈ (rsOf N0 E).map (·.N)) (hn : n < 256) (h0 : countOf V.C n = 0) (hfit : fitsB (cntsOf V.C) (toldAll V.C f) = true) : (copyV V f n).L.length ≤ V.L.length + 21 ∧ V.L.length ≤ (copyV V f n).L.length := by
  obtain ⟨e1, _⟩ := h.copyA hf hn
  obtain ⟨e2, _⟩ := h.copied hf hn h0 hfit
  have hp := (puts_copy V f n).lenL
  have l1 := lengthenV_lenL' V [n]
  obtain ⟨_, _, _, a4, _⟩ := h.longer [n] (by rw [lastOf_one]; exact hn)
  obtain ⟨r, hr, rfl⟩ := List.mem_map.1 hf
  have h6 := h.sound.fst r hr
  have l2 := epoch_lenL (lengthenV V [n]) (bareList (lengthenV V [n]).C r.N)
  have l3 : (bareList (lengthenV V [n]).C r.N).length ≤ 3 := by
    unfold bareList
    rw [a4 r.N (by omega), List.length_map, List.length_cons]
    have := toldBy_few (cl V.C r.N) (fun i h1 h2 => h.sound.zero r hr i h1 h2)
    omega
  rw [← e1] at l2
  have l4 := epoch_lenL (copy1 V r.N n) (cntPuts (copyCnt V.C r.N n) ++ [(n, cl (copy1 V r.N n).C r.N)])
  rw [← e2] at l4
  have l5 : (cntPuts (copyCnt V.C r.N n) ++ [(n, cl (copy1 V r.N n).C r.N)]).length = 5 := rfl
  omega
theorem Vol.num6 (h : Vol base V N0 E) : num (cl V.C 0) 6 = N0 := h.file.num6
theorem Vol.roots0 (_h : Vol base V N0 E) : N0 ∈ (rsOf N0 E).map (·.N) := by simp [rsOf]
theorem Vol.rootsE (_h : Vol base V N0 E) (hi : i < E.length) : (E.getD i ze).first ∈ (rsOf N0 E).map (·.N) := by
  have hg : (E.getD i ze) = E[i] := by rw [List.getD_eq_getElem?_getD, List.getElem?_eq_getElem hi]; rfl
  rw [hg]
  exact List.mem_map.2 ⟨rootE E[i], rsOf_mem.2 (Or.inr ⟨_, List.getElem_mem hi, rfl⟩), rfl⟩
theorem Vol.firstE (h : Vol base V N0 E) (hi : i < E.length) (he : entR V s = (((i : Nat) : Int), 0)) : firstE V s = (E.getD i ze).first := by
  unfold Go.Proofs.YtknjjjenklfeoaaGreatDoor.firstE
  rw [he, h.ents.1]
  show ((pad4 E).getD i ze).first = _
  rw [pad4_get i hi]
theorem Vol.copyR_yes (h : Vol base V N0 E) (hf : f ∈ (rsOf N0 E).map (·.N)) (hr : roomR V.C f = true) : ∃ n, n < 256 ∧ countOf V.C n = 0 ∧ fitsB (cntsOf V.C) (toldAll V.C f) = true ∧ copyR V f = (copyV V f n, n, 0) := by
  obtain ⟨h1, h2⟩ := (h.room hf).1 hr
  obtain ⟨n, hn, hlt, h0⟩ := lowFree_one h1
  obtain ⟨k1, k2⟩ := h.ok.cnts rfl
  refine ⟨n, hlt, by rw [← k2 n hlt]; exact h0, h2, ?_⟩
  unfold copyR
  rw [if_pos ⟨h1, h2⟩, hn, List.getD_cons_zero]
theorem Vol.copyR_no (h : Vol base V N0 E) (hf : f ∈ (rsOf N0 E).map (·.N)) (hr : roomR V.C f = false) : copyR V f = (V, 0, 5) := by
  unfold copyR
  rw [if_neg (fun x => by rw [(h.room hf).2 x] at hr; cases hr)]

theorem Vol.takeCases (h : Vol base V N0 E) (s : ByteArray) :
    (∃ c, c ≠ 0 ∧ takeR V s = (V, c) ∧ refTakeR (dskOf V.C N0 E) s = (dskOf V.C N0 E, c)) ∨
      ((refTakeR (dskOf V.C N0 E) s).2 = 0 ∧ roomR V.C N0 = false ∧ takeR V s = (V, 5)) ∨
      ((refTakeR (dskOf V.C N0 E) s).2 = 0 ∧ roomR V.C N0 = true ∧ (takeR V s).2 = 0 ∧ (takeR V s).1.L.length ≤ V.L.length + 100 ∧ V.L.length ≤ (takeR V s).1.L.length ∧ ∃ E', Came base V N0 E (takeR V s).1 N0 E' (refTakeR (dskOf V.C N0 E) s).1) := by
  have h4 := h.file.ents.len
  unfold takeR refTakeR
  rw [h.find, dsk_len, h.ents.2, h.ents.1, h.num6]
  by_cases hnm : isNameB s.data.toList = false
  · rw [if_pos hnm, if_pos hnm]
    exact Or.inl ⟨2, by decide, rfl, rfl⟩
  rw [if_neg hnm, if_neg hnm]
  have hnt : isNameB s.data.toList = true := by cases e : isNameB s.data.toList; exact absurd e hnm; rfl
  by_cases hf : 0 ≤ findE (pad4 E) s
  · rw [if_pos hf, if_pos hf]
    exact Or.inl ⟨3, by decide, rfl, rfl⟩
  rw [if_neg hf, if_neg hf]
  by_cases hl : E.length = 4
  · rw [if_pos hl, if_pos (show 4 ≤ E.length by omega)]
    exact Or.inl ⟨5, by decide, rfl, rfl⟩
  rw [if_neg hl, if_neg (show ¬ 4 ≤ E.length by omega)]
  right
  cases hr : roomR V.C N0 with
  | false =>
    left
    rw [h.copyR_no h.roots0 hr]
    exact ⟨rfl, rfl, rfl⟩
  | true =>
    right
    obtain ⟨n, hn, h0, hfit, e⟩ := h.copyR_yes h.roots0 hr
    have hnew := h.fresh (s := s) (by rw [h.ents.1]; omega)
    have h6 := h.sound.free_six hn h0
    have hE' := h.file.ents.snoc hnt hnew (by omega) (show n ≠ 0 by omega) (by omega)
    obtain ⟨t1, t2⟩ := h.take hnt hnew (by omega) hn h0 hfit
    have l1 := h.copy_lenL h.roots0 hn h0 hfit
    have l2 := epoch_lenL (copyV V N0 n) [(5, listBytes (E ++ [⟨s.data.toList, n⟩]))]
    rw [← t1] at l2
    have l3 := (puts_epoch (Puts.refl (copyV V N0 n)) [(5, listBytes (E ++ [⟨s.data.toList, n⟩]))]).lenL
    rw [← t1] at l3
    simp only [List.length_cons, List.length_nil] at l2
    have e2 : flushV (putV (copyV V N0 n) 5 (listTo ((pad4 E).set E.length ⟨s.data.toList, n⟩) 4)) = takeV V N0 n (E ++ [⟨s.data.toList, n⟩]) := by
      rw [pad4_snoc _ (by omega), hE'.clus]
      rfl
    rw [e, if_pos rfl]
    dsimp only
    rw [e2]
    generalize takeV V N0 n (E ++ [⟨s.data.toList, n⟩]) = W at *
    refine ⟨rfl, rfl, rfl, by omega, by omega, E ++ [⟨s.data.toList, n⟩], t2.vol, ?_, t2.exact⟩
    rw [t2.holds]
    rfl

/-- What letGo asks. -/
theorem Ok.goes {W : VolR} {T N1 : Nat} {E1 : List EntR} {D : DiskR} (ok : Ok W.C T N1 E1 D) (hT : W.C.length = T) (hs : SoundL W.C (rsOf N0 E)) (hf : f ∈ (rsOf N0 E).map (·.N)) (hl : Lets W N1 E1 (heldAll W.C f)) : Goes W f := by
  refine ⟨hs.len, hs.firstOK hf, fun g hg => ?_⟩
  obtain ⟨o1, o2, _⟩ := ok.letGo1 hT hl
  have s1 := o1.sound
  rw [padTo_self o2] at s1
  rw [o1.firsts] at hg
  exact s1.firstOK hg
theorem Vol.dropW (h : Vol base V N0 E) (hi : i < E.length) : dropW V i = dropH V (E.eraseIdx i) := by
  unfold Go.Proofs.YtknjjjenklfeoaaGreatDoor.dropW
  rw [h.ents.1, pad4_less i hi h.file.ents.len, (h.file.ents.erase i).clus]
  rfl
theorem Vol.dropGoes (h : Vol base V N0 E) (he : (entR V s).2 = 0) : Goes (Go.Proofs.YtknjjjenklfeoaaGreatDoor.dropW V (entR V s).1.toNat) (Go.Proofs.YtknjjjenklfeoaaGreatDoor.firstE V s) := by
  rcases h.there (s := s) with ⟨m, hm, _, e, _⟩ | ⟨i, hi, e, _⟩
  · rw [e] at he; exact absurd he hm
  · rw [h.firstE hi e, e]
    show Goes (Go.Proofs.YtknjjjenklfeoaaGreatDoor.dropW V i) _
    rw [h.dropW hi]
    obtain ⟨_, d2, d3, d4, d5, _⟩ := h.drop hi
    exact d2.goes d3 d4 (h.rootsE hi) d5
theorem Vol.dropCases (h : Vol base V N0 E) (s : ByteArray) :
    (∃ c, c ≠ 0 ∧ dropR V s = (V, c) ∧ refDropR (dskOf V.C N0 E) s = (dskOf V.C N0 E, c)) ∨
      ((refDropR (dskOf V.C N0 E) s).2 = 0 ∧ (dropR V s).2 = 0 ∧ (dropR V s).1.L.length ≤ V.L.length + 100 ∧ V.L.length ≤ (dropR V s).1.L.length ∧ ∃ E', Came base V N0 E (dropR V s).1 N0 E' (refDropR (dskOf V.C N0 E) s).1) := by
  unfold dropR refDropR
  rcases h.there (s := s) with ⟨m, hm, _, e1, e2⟩ | ⟨i, hi, e1, e2, _⟩
  · left
    refine ⟨m, hm, ?_, ?_⟩
    · rw [e1, if_neg hm]
    · rw [e2, if_neg hm]
  · right
    have hfe := h.firstE hi e1
    rw [hfe, e1, e2]
    dsimp only
    rw [if_pos rfl, if_pos rfl, Int.toNat_natCast, h.dropW hi]
    obtain ⟨d1, d2, d3, d4, d5, d6⟩ := h.drop hi
    have l1 := epoch_lenL V [(5, listBytes (E.eraseIdx i))]
    rw [← d1] at l1
    simp only [List.length_cons, List.length_nil] at l1
    have l2 := d2.letGo_lenL d3 d5
    have l3 := (puts_letGo (puts_epoch (Puts.refl V) [(5, listBytes (E.eraseIdx i))]) (heldAll (dropH V (E.eraseIdx i)).C (E.getD i ze).first)).lenL
    rw [← d1] at l3
    generalize dropH V (E.eraseIdx i) = W at *
    generalize letGoV W (heldAll W.C (E.getD i ze).first) = W2 at *
    refine ⟨rfl, rfl, by dsimp only; omega, l3, E.eraseIdx i, d6.vol, ?_, d6.exact⟩
    rw [d6.holds]
    rfl
theorem Vol.returnHyps (h : Vol base V N0 E) (he : (entR V s).2 = 0) : FirstOK V (Go.Proofs.YtknjjjenklfeoaaGreatDoor.firstE V s) ∧ ((copyR V (Go.Proofs.YtknjjjenklfeoaaGreatDoor.firstE V s)).2.2 = 0 → Goes (retW (copyR V (Go.Proofs.YtknjjjenklfeoaaGreatDoor.firstE V s)).1 (copyR V (Go.Proofs.YtknjjjenklfeoaaGreatDoor.firstE V s)).2.1) (num (cl (copyR V (Go.Proofs.YtknjjjenklfeoaaGreatDoor.firstE V s)).1.C 0) 6)) := by
  rcases h.there (s := s) with ⟨m, hm, _, e, _⟩ | ⟨i, hi, e, _⟩
  · rw [e] at he; exact absurd he hm
  · rw [h.firstE hi e]
    refine ⟨h.sound.firstOK (h.rootsE hi), fun hc => ?_⟩
    cases hr : roomR V.C (E.getD i ze).first with
    | false => rw [h.copyR_no (h.rootsE hi) hr] at hc; cases hc
    | true =>
      obtain ⟨n, hn, h0, hfit, e2⟩ := h.copyR_yes (h.rootsE hi) hr
      obtain ⟨_, _, o1, _⟩ := h.copied (h.rootsE hi) hn h0 hfit
      obtain ⟨_, d2, d3, d4, d5, _⟩ := h.ret hi hn h0 hfit
      rw [e2]
      dsimp only
      rw [o1.file.num6]
      exact d2.goes d3 d4 h.roots0 d5
theorem Vol.returnCases (h : Vol base V N0 E) (s : ByteArray) :
    (∃ c, c ≠ 0 ∧ returnR V s = (V, c) ∧ refReturnR (dskOf V.C N0 E) s = (dskOf V.C N0 E, c)) ∨
      ((refReturnR (dskOf V.C N0 E) s).2 = 0 ∧ ∃ i, i < E.length ∧ refFind (dskOf V.C N0 E) s = (i : Int) ∧ ((roomR V.C (E.getD i ze).first = false ∧ returnR V s = (V, 5)) ∨
        (roomR V.C (E.getD i ze).first = true ∧ (returnR V s).2 = 0 ∧ (returnR V s).1.L.length ≤ V.L.length + 100 ∧ V.L.length ≤ (returnR V s).1.L.length ∧ ∃ N1, Came base V N0 E (returnR V s).1 N1 E (refReturnR (dskOf V.C N0 E) s).1))) := by
  unfold returnR refReturnR
  rcases h.there (s := s) with ⟨m, hm, _, e1, e2⟩ | ⟨i, hi, e1, e2, e3⟩
  · left
    refine ⟨m, hm, ?_, ?_⟩
    · rw [e1, if_neg hm]
    · rw [e2, if_neg hm]
  · right
    have hfe := h.firstE hi e1
    rw [hfe, e1, e2]
    dsimp only
    rw [if_pos rfl, if_pos rfl, Int.toNat_natCast]
    refine ⟨rfl, i, hi, e3, ?_⟩
    cases hr : roomR V.C (E.getD i ze).first with
    | false =>
      left
      rw [h.copyR_no (h.rootsE hi) hr]
      exact ⟨rfl, rfl⟩
    | true =>
      right
      obtain ⟨n, hn, h0, hfit, e4⟩ := h.copyR_yes (h.rootsE hi) hr
      obtain ⟨_, _, o1, _⟩ := h.copied (h.rootsE hi) hn h0 hfit
      obtain ⟨d1, d2, d3, d4, d5, d6⟩ := h.ret hi hn h0 hfit
      have hpic : (picAt (dskOf V.C N0 E).L i).C = (retD (dskOf V.C N0 E) i).C := by
        show _ = ((dskOf V.C N0 E).L.getD i ⟨[], []⟩).C
        unfold picAt
        have hil : i < (dskOf V.C N0 E).L.length := by rw [dsk_len]; exact hi
        rw [List.getD_eq_getElem?_getD, List.getD_eq_getElem?_getD, List.getElem?_eq_getElem hil]
        rfl
      have l0 := h.copy_lenL (h.rootsE hi) hn h0 hfit
      have l1 := epoch_lenL (copyV V (E.getD i ze).first n) [(0, headBytes (lenTo V.C [n]) n)]
      rw [← d1] at l1
      simp only [List.length_cons, List.length_nil] at l1
      have l2 := d2.letGo_lenL d3 d5
      have l3 := (puts_letGo (puts_epoch (puts_copy V (E.getD i ze).first n) [(0, headBytes (lenTo V.C [n]) n)]) (heldAll (retH V (E.getD i ze).first n).C N0)).lenL
      rw [← d1] at l3
      rw [e4]
      dsimp only
      rw [if_pos rfl, o1.file.num6]
      dsimp only
      have e5 : retW (copyV V (E.getD i ze).first n) n = retH V (E.getD i ze).first n := rfl
      rw [e5]
      generalize retH V (E.getD i ze).first n = W at *
      generalize letGoV W (heldAll W.C N0) = W2 at *
      refine ⟨rfl, rfl, by omega, l3, n, d6.vol, ?_, d6.exact⟩
      rw [d6.holds, hpic]
      rfl
end
end Go.Proofs.YtknjjjenklfeoaaGreatDoor

/-
  A loop over an iterator within a round of another one: all of its rounds go on, or one of them returns.
-/
namespace Go.Proofs.YtknjjjenklfeoaaGreatDoor
open Go.RowKit Go.Shelf

section
variable {α : Type} {g : Operand} {ps : Array Tmp} {assign body : Code} {Q : Exit → Act → World → Prop} {a : Act} {w : World} {n : Nat}
theorem range_in {l₀ : Nat} {r₀ : Loop} (hl₀ : w.heap[l₀]? = some (.loop r₀)) (h1 : 1 ≤ n) {gf : Nat} {lb : Array Value} (hg : a.eval g = .func (.func gf) #[] lb) (eg : ∀ args w, (callFunc gf args).run Tryz.prog w = .ok (.enter gf args) w)
    {encs : α → Array Value} {Kp : World → World → Prop} {S Sp : List α → Prop} {N : Nat} {w0 : World} (hseq : SeqAny (n - 1) gf lb encs Kp S Sp N (w.heap.size + 1) w0)
    (hKt : ∀ A B C : World, Kp A B → Kp B C → Kp A C) (hKb : ∀ (W : World) (o o' : Obj), W.heap[w.heap.size]? = some o → o.isCells = false → Kp W (W.putObj w.heap.size o')) (hb0 : Below w0.heap.size w0 w) (hps : ∀ x, (encs x).size = ps.size)
    (I Ix : List α → World → Prop) (hI : OwnFrom w.heap.size I) (hIx : OwnFrom w.heap.size Ix) (h0 : I [] w) (Ax : α → Act → World → Prop) (hAx : ∀ x a', OwnFrom w.heap.size (fun (_ : Unit) W => Ax x a' W))
    (hassign : ∀ (l : Nat) (pre : List α) (x : α) (W : World) (K : Act → World → Prop), I pre W → (∀ a' W', KeepsFrom w.heap.size W W' → Kp W W' → I pre W' → Ax x a' W' → K a' W') →
      assign.wpIn (Fence.wide.inRound l) (n - 1 - 1) Tryz.prog (Exit.then K (fun _ _ _ => False)) { tmps := (ps.zip (encs x)).foldl (fun t (p, v) => t.setIfInBounds p v) a.tmps, defers := [] } W)
    (hbody : ∀ (l : Nat) (pre : List α) (x : α) (a' : Act) (W : World), w.heap.size ≤ l → (∃ r, W.heap[l]? = some (.loop r)) → I pre W → Ax x a' W → pre.length < N → body.wpIn (Fence.wide.inRound l) (n - 1 - 1) Tryz.prog (anyPost w.heap.size Kp I Ix (pre ++ [x]) W) a' W)
    (hdone : ∀ (xs : List α) (W : World), S xs → I xs W → Q .normal a W)
    (hstop : ∀ (pre : List α) (W : World), Sp pre → Ix pre W → Code.ret.wpIn (Fence.wide.inRound l₀) n Tryz.prog Q a W) :
    (Code.rangeFunc g ps assign body).wpIn (Fence.wide.inRound l₀) n Tryz.prog Q a w := by
  refine wpIn_rangeFunc fun fn hfn => ?_
  obtain ⟨rec, hrec⟩ : ∃ rec : LoopState → Option Code → Loop, rec = fun st pe => { state := st, pending := pe, fn, tmps := a.tmps, params := ps, assign, body, defers := r₀.defers } := ⟨_, rfl⟩
  let d := w.heap.size
  let W1 := w.alloc (.loop (rec .ready none))
  have hL1 : W1.heap[d]? = some (.loop (rec .ready none)) := heap_alloc_new w _
  have hI1 : I [] W1 := hI.alloc _ h0
  have hsz : W1.heap.size = d + 1 := by simp [W1, d]
  have hw1 : Below w0.heap.size w0 W1 := hb0.trans (((Below.refl _ w).alloc (Nat.le_refl _) _).mono hb0.size)
  refine ⟨d, [], W1, { target := .fn (.func gf) lb, args := #[.func (.yield d) #[] #[]] }, W1, gf, #[.func (.yield d) #[] #[]] ++ lb, W1, ?_, ?_, fun _ _ => trivial, ?_, fun _ => h1, ?_⟩
  · show (Instr.enterLoop fn a.tmps ps assign body (some l₀)).run Tryz.prog w = _
    rw [run_enterLoop_inner hl₀]
    simp only [W1, hrec, d]
  · simp only [resolve, hg]; simp [go_sem]
  · simp [invoke, go_sem, eg]
  have hJ : OwnFrom W1.heap.size (fun (pre : List α) W => I pre W ∧ W.heap[d]? = some (.loop (rec .ready none))) := fun s A B row hs hg' hr =>
    ⟨hI s A B row hs.1 hg' (fun r e => ⟨by have := (hr r e).1; omega, (hr r e).2⟩), blk_turn hg' hr hs.2 (by omega)⟩
  have hJx : OwnFrom W1.heap.size (fun (pre : List α) W => Ix pre W ∧ W.heap[d]? = some (.loop (rec .done (some .ret)))) := fun s A B row hs hg' hr =>
    ⟨hIx s A B row hs.1 hg' (fun r e => ⟨by have := (hr r e).1; omega, (hr r e).2⟩), blk_turn hg' hr hs.2 (by omega)⟩
  refine (CallsIn.inRound l₀ (hseq d (fun pre W => I pre W ∧ W.heap[d]? = some (.loop (rec .ready none))) (fun pre W => Ix pre W ∧ W.heap[d]? = some (.loop (rec .done (some .ret)))) W1 hw1 (by omega) hJ hJx ?_ ⟨hI1, hL1⟩)).mono ?_
  · rintro pre x W ⟨hi, hb⟩ hlen
    have hy := run_yield (P := Tryz.prog) (args := encs x) hb (by rw [hrec]; exact hps x)
    rw [hrec] at hy
    refine ⟨fn, _, assign, body, hy, roundIn_of_wpIn hfn (hassign d pre x W _ hi fun a' Wa hkf hkp hia hax => ?_)⟩
    have hba := hkf.same _ _ (Nat.le_refl _) hb rfl
    refine ⟨_, run_beginRound hba (by rw [hrec]), ?_⟩
    have hbb : (Wa.putObj d (.loop { rec .ready none with state := .busy })).heap[d]? = some (.loop { rec .ready none with state := .busy }) := World.putObj_heap_same (blk_lt hba)
    have hkb : Kp Wa (Wa.putObj d (.loop { rec .ready none with state := .busy })) := hKb _ _ _ hba rfl
    refine wpIn_mono (hbody d pre x a' _ (Nat.le_refl _) ⟨_, hbb⟩ (hI.putObj _ hia (Nat.le_refl _) hba rfl) ((hAx x a').putObj (s := ()) _ hax (Nat.le_refl _) hba rfl) hlen) ?_
    have fin : ∀ (jump : Option Code) (W3 : World), KeepsFrom d (Wa.putObj d (.loop { rec .ready none with state := .busy })) W3 →
        (Instr.endRound d jump).run Tryz.prog W3 = .ok (.bool jump.isNone) (W3.putObj d (.loop (rec (if jump.isNone then .ready else .done) jump))) ∧
        W3.heap[d]? = some (.loop { rec .ready none with state := .busy }) ∧
        (W3.putObj d (.loop (rec (if jump.isNone then .ready else .done) jump))).heap[d]? = some (.loop (rec (if jump.isNone then .ready else .done) jump)) := fun jump W3 hk3 => by
      have hl3 := hk3.same _ _ (Nat.le_refl _) hbb rfl
      have := run_endRound (P := Tryz.prog) jump hl3
      rw [hrec] at this ⊢
      exact ⟨this, by rw [hrec] at hl3; exact hl3, World.putObj_heap_same (blk_lt hl3)⟩
    rintro e a3 W3 hp
    cases e with
    | normal =>
      obtain ⟨hkf3, hkp3, hi3⟩ := hp
      obtain ⟨hr, hl3, hl4⟩ := fin none W3 hkf3
      exact ⟨_, _, hr, hKt _ _ _ hkp (hKt _ _ _ hkb (hKt _ _ _ hkp3 (hKb _ _ _ hl3 rfl))), .inl ⟨rfl, hI.putObj _ hi3 (Nat.le_refl _) hl3 rfl, hl4⟩⟩
    | ret =>
      obtain ⟨hkf3, hkp3, hi3⟩ := hp
      obtain ⟨hr, hl3, hl4⟩ := fin (some .ret) W3 hkf3
      exact ⟨_, _, hr, hKt _ _ _ hkp (hKt _ _ _ hkb (hKt _ _ _ hkp3 (hKb _ _ _ hl3 rfl))), .inr ⟨rfl, hIx.putObj _ hi3 (Nat.le_refl _) hl3 rfl, hl4⟩⟩
    | exit id => exact hp.elim
    | goto t => exact hp.elim
    | panic ch => exact hp.elim
    | outgrown => exact hp.elim
  · rintro e W2 ⟨⟨v, rfl⟩, (⟨xs, hS, hi, hb⟩ | ⟨pre, hSp, hi, hb⟩)⟩
    · have hh : (rec .ready none).state ≠ .busy := by rw [hrec]; simp
      have hp : (rec .ready none).pending = none := by rw [hrec]
      refine ⟨_, _, run_endLoop hb hh, ?_⟩
      rw [hp]
      exact hdone xs _ hS (hI.putObj _ hi (Nat.le_refl _) hb rfl)
    · have hh : (rec .done (some .ret)).state ≠ .busy := by rw [hrec]; simp
      have hp : (rec .done (some .ret)).pending = some .ret := by rw [hrec]
      refine ⟨_, _, run_endLoop hb hh, ?_⟩
      rw [hp]
      exact hstop pre _ hSp (hIx.putObj _ hi (Nat.le_refl _) hb rfl)
theorem range_inA {l₀ : Nat} {r₀ : Loop} (hl₀ : w.heap[l₀]? = some (.loop r₀)) (h1 : 1 ≤ n) {gf : Nat} {lb : Array Value} (hg : a.eval g = .func (.func gf) #[] lb) (eg : ∀ args w, (callFunc gf args).run Tryz.prog w = .ok (.enter gf args) w)
    {encs : α → Array Value} {Kp : World → World → Prop} {S : List α → Prop} {N : Nat} {w0 : World} (hseq : SeqAll (n - 1) gf lb encs Kp S N (w.heap.size + 1) w0)
    (hKt : ∀ A B C : World, Kp A B → Kp B C → Kp A C) (hKb : ∀ (W : World) (o o' : Obj), W.heap[w.heap.size]? = some o → o.isCells = false → Kp W (W.putObj w.heap.size o')) (hb0 : Below w0.heap.size w0 w) (hps : ∀ x, (encs x).size = ps.size)
    (I : List α → World → Prop) (hI : OwnFrom w.heap.size I) (h0 : I [] w) (Ax : α → Act → World → Prop) (hAx : ∀ x a', OwnFrom w.heap.size (fun (_ : Unit) W => Ax x a' W))
    (hassign : ∀ (l : Nat) (pre : List α) (x : α) (W : World) (K : Act → World → Prop), I pre W → (∀ a' W', KeepsFrom w.heap.size W W' → Kp W W' → I pre W' → Ax x a' W' → K a' W') →
      assign.wpIn (Fence.wide.inRound l) (n - 1 - 1) Tryz.prog (Exit.then K (fun _ _ _ => False)) { tmps := (ps.zip (encs x)).foldl (fun t (p, v) => t.setIfInBounds p v) a.tmps, defers := [] } W)
    (hbody : ∀ (l : Nat) (pre : List α) (x : α) (a' : Act) (W : World), w.heap.size ≤ l → (∃ r, W.heap[l]? = some (.loop r)) → I pre W → Ax x a' W → pre.length < N → body.wpIn (Fence.wide.inRound l) (n - 1 - 1) Tryz.prog (fun e _ W' => e = .normal ∧ KeepsFrom w.heap.size W W' ∧ Kp W W' ∧ I (pre ++ [x]) W') a' W)
    (hdone : ∀ (xs : List α) (W : World), S xs → I xs W → Q .normal a W) :
    (Code.rangeFunc g ps assign body).wpIn (Fence.wide.inRound l₀) n Tryz.prog Q a w := by
  refine wpIn_rangeFunc fun fn hfn => ?_
  obtain ⟨rec, hrec⟩ : ∃ rec : LoopState → Option Code → Loop, rec = fun st pe => { state := st, pending := pe, fn, tmps := a.tmps, params := ps, assign, body, defers := r₀.defers } := ⟨_, rfl⟩
  let d := w.heap.size
  let W1 := w.alloc (.loop (rec .ready none))
  have hL1 : W1.heap[d]? = some (.loop (rec .ready none)) := heap_alloc_new w _
  have hI1 : I [] W1 := hI.alloc _ h0
  have hsz : W1.heap.size = d + 1 := by simp [W1, d]
  have hw1 : Below w0.heap.size w0 W1 := hb0.trans (((Below.refl _ w).alloc (Nat.le_refl _) _).mono hb0.size)
  refine ⟨d, [], W1, { target := .fn (.func gf) lb, args := #[.func (.yield d) #[] #[]] }, W1, gf, #[.func (.yield d) #[] #[]] ++ lb, W1, ?_, ?_, fun _ _ => trivial, ?_, fun _ => h1, ?_⟩
  · show (Instr.enterLoop fn a.tmps ps assign body (some l₀)).run Tryz.prog w = _
    rw [run_enterLoop_inner hl₀]
    simp only [W1, hrec, d]
  · simp only [resolve, hg]; simp [go_sem]
  · simp [invoke, go_sem, eg]
  have hJ : OwnFrom W1.heap.size (fun (pre : List α) W => I pre W ∧ W.heap[d]? = some (.loop (rec .ready none))) := fun s A B row hs hg' hr =>
    ⟨hI s A B row hs.1 hg' (fun r e => ⟨by have := (hr r e).1; omega, (hr r e).2⟩), blk_turn hg' hr hs.2 (by omega)⟩
  refine (CallsIn.inRound l₀ (hseq d (fun pre W => I pre W ∧ W.heap[d]? = some (.loop (rec .ready none))) W1 hw1 (by omega) hJ ?_ ⟨hI1, hL1⟩)).mono ?_
  · rintro pre x W ⟨hi, hb⟩ hlen
    have hy := run_yield (P := Tryz.prog) (args := encs x) hb (by rw [hrec]; exact hps x)
    rw [hrec] at hy
    refine ⟨fn, _, assign, body, hy, roundIn_of_wpIn hfn (hassign d pre x W _ hi fun a' Wa hkf hkp hia hax => ?_)⟩
    have hba := hkf.same _ _ (Nat.le_refl _) hb rfl
    refine ⟨_, run_beginRound hba (by rw [hrec]), ?_⟩
    have hbb : (Wa.putObj d (.loop { rec .ready none with state := .busy })).heap[d]? = some (.loop { rec .ready none with state := .busy }) := World.putObj_heap_same (blk_lt hba)
    have hkb : Kp Wa (Wa.putObj d (.loop { rec .ready none with state := .busy })) := hKb _ _ _ hba rfl
    refine wpIn_mono (hbody d pre x a' _ (Nat.le_refl _) ⟨_, hbb⟩ (hI.putObj _ hia (Nat.le_refl _) hba rfl) ((hAx x a').putObj (s := ()) _ hax (Nat.le_refl _) hba rfl) hlen) ?_
    have fin : ∀ (jump : Option Code) (W3 : World), KeepsFrom d (Wa.putObj d (.loop { rec .ready none with state := .busy })) W3 →
        (Instr.endRound d jump).run Tryz.prog W3 = .ok (.bool jump.isNone) (W3.putObj d (.loop (rec (if jump.isNone then .ready else .done) jump))) ∧
        W3.heap[d]? = some (.loop { rec .ready none with state := .busy }) ∧
        (W3.putObj d (.loop (rec (if jump.isNone then .ready else .done) jump))).heap[d]? = some (.loop (rec (if jump.isNone then .ready else .done) jump)) := fun jump W3 hk3 => by
      have hl3 := hk3.same _ _ (Nat.le_refl _) hbb rfl
      have := run_endRound (P := Tryz.prog) jump hl3
      rw [hrec] at this ⊢
      exact ⟨this, by rw [hrec] at hl3; exact hl3, World.putObj_heap_same (blk_lt hl3)⟩
    rintro e a3 W3 ⟨rfl, hkf3, hkp3, hi3⟩
    obtain ⟨hr, hl3, hl4⟩ := fin none W3 hkf3
    exact ⟨_, _, hr, rfl, ⟨hI.putObj _ hi3 (Nat.le_refl _) hl3 rfl, hl4⟩, hKt _ _ _ hkp (hKt _ _ _ hkb (hKt _ _ _ hkp3 (hKb _ _ _ hl3 rfl)))⟩
  · rintro e W2 ⟨⟨v, rfl⟩, xs, hS, hi, hb⟩
    have hh : (rec .ready none).state ≠ .busy := by rw [hrec]; simp
    have hp : (rec .ready none).pending = none := by rw [hrec]
    refine ⟨_, _, run_endLoop hb hh, ?_⟩
    rw [hp]
    exact hdone xs _ hS (hI.putObj _ hi (Nat.le_refl _) hb rfl)
end
end Go.Proofs.YtknjjjenklfeoaaGreatDoor
