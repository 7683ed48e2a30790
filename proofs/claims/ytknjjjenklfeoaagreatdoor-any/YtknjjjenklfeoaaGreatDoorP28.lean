import Derived.Test.YtknjjjenklfeoaaGreatDoorP27
/-
  Plain: Write with a new second table; Write.
-/
namespace Go.Proofs.YtknjjjenklfeoaaGreatDoor
open Go.RowKit
section
variable {base : List Clus} {V : VolR} {N0 : Nat} {E : List EntR} {b : Nat} {data : Clus}
theorem zt_get (i : Nat) : zt.getD i 0 = 0 := by
  unfold zt
  rw [List.getD_eq_getElem?_getD, List.getElem?_replicate]
  split <;> rfl
theorem tab_get (q : Nat) (hq : q < 32) : (findR V.C N0 b).tab.getD q 0 = oldNum V.C N0 (b / 32) q := by
  unfold findR oldNum nm
  dsimp only
  by_cases e : num (cl V.C N0) (2 * (b / 32)) = 0
  · rw [if_pos e, if_pos e, zt_get]
  · rw [if_neg e, if_neg e, numsOf_get _ _ hq]
/-- The file behind writeNewTable's claim. -/
theorem Vol.tab1 (h : Vol base V N0 E) {s n : Nat} (p : PlaceR) (hF : lowFree (cntsOf V.C) 2 = [s, n]) (hsn : s < n) (hn : n < 256) (h0 : countOf V.C s = 0) (h1 : countOf V.C n = 0) (hd : data.length = 64) :
    wnt1 V p data = epoch (lengthenV V [s, n]) (cntPuts (ones (cntsOf (lengthenV V [s, n]).C) [s, n]) ++ [(s, bytesOf (p.tab.set p.inSecond (n + 32768))), (n, data)]) ∧ Ok (wnt1 V p data).C (lenTo V.C [s, n]) N0 E (dskOf V.C N0 E) ∧ (wnt1 V p data).C.length = lenTo V.C [s, n] ∧
      (∀ m, m < 256 → countOf (wnt1 V p data).C m = if m = s ∨ m = n then 1 else countOf V.C m) ∧ cl (wnt1 V p data).C n = data ∧ cl (wnt1 V p data).C s = bytesOf (p.tab.set p.inSecond (n + 32768)) ∧ (∀ t, 5 ≤ t → t < V.C.length → t ≠ s → t ≠ n → cl (wnt1 V p data).C t = cl V.C t) ∧ Shape V.C (wnt1 V p data).C (rsOf N0 E) := by
  obtain ⟨a1, a2, a3, a4, a5⟩ := h.longer [s, n] (by rw [lastOf_two]; exact hn)
  have hc := fun m hm => h.count1 [s, n] (by rw [lastOf_two]; exact hn) m hm
  have et : wntT V p = p.tab.set p.inSecond (n + 32768) := by unfold wntT; rw [hF]; rfl
  have e : wnt1 V p data = epoch (lengthenV V [s, n]) (cntPuts (ones (cntsOf (lengthenV V [s, n]).C) [s, n]) ++ [(s, bytesOf (p.tab.set p.inSecond (n + 32768))), (n, data)]) := by
    unfold wnt1
    rw [et, hF]
    unfold epoch
    rw [puts_append, ← claimV_puts, puts_two]
    simp only [List.getD_cons_zero, List.getD_cons_succ]
  have hT : lenTo V.C [s, n] = max V.C.length (n + 1) := rfl
  have h6 := h.sound.free_six (by omega) h0
  have htl : (bytesOf (p.tab.set p.inSecond (n + 32768))).length = 64 := bytesOf_length _
  generalize bytesOf (p.tab.set p.inSecond (n + 32768)) = tb at *
  obtain ⟨b1, b2, b3, b4, b5, b6⟩ := a1.claimed [s, n] (fun m hm => by
    simp only [List.mem_cons, List.not_mem_nil, or_false] at hm
    rcases hm with rfl | rfl
    · exact ⟨by omega, by rw [hc _ (by omega)]; exact h0⟩
    · exact ⟨by omega, by rw [hc _ hn]; exact h1⟩) [(s, tb), (n, data)] (fun x hx => by
    simp only [List.mem_cons, List.not_mem_nil, or_false] at hx
    rcases hx with rfl | rfl
    · exact ⟨by simp, htl⟩
    · exact ⟨by simp, hd⟩) (by
    rw [a2]
    by_cases hx : V.C.length ≤ n
    · exact Or.inr ⟨(n, data), by simp, by simp only; omega⟩
    · exact Or.inl (by omega))
  have hus := h.sound.untold (by omega) h0
  have hun := h.sound.untold hn h1
  have hcl : ∀ t, 5 ≤ t → t < V.C.length → t ≠ s → t ≠ n → cl (epoch (lengthenV V [s, n]) (cntPuts (ones (cntsOf (lengthenV V [s, n]).C) [s, n]) ++ [(s, tb), (n, data)])).C t = cl V.C t := fun t h5 ht hne hne2 => by
    rw [b4 t h5 (by omega) (fun x hx => by
      simp only [List.mem_cons, List.not_mem_nil, or_false] at hx
      rcases hx with rfl | rfl
      · exact fun z => hne z.symm
      · exact fun z => hne2 z.symm), a4 t (by omega)]
  have e2 : putsC (lengthenV V [s, n]).C (cntPuts (ones (cntsOf (lengthenV V [s, n]).C) [s, n]) ++ [(s, tb), (n, data)]) = putC (putC (putsC (lengthenV V [s, n]).C (cntPuts (ones (cntsOf (lengthenV V [s, n]).C) [s, n]))) (s, tb)) (n, data) := by simp [putsC]
  rw [e]
  refine ⟨rfl, b1, b2, fun m hm => ?_, ?_, ?_, hcl, Shape.of_same (fun r hr => hcl _ ?_ ?_ ?_ ?_) (fun x hs => hcl _ ?_ ?_ ?_ ?_)⟩
  · rw [b3 m hm, hc m hm]; simp
  · rw [← vw_at (by rw [b2]; omega), epoch_C, e2, vw_putC, if_pos rfl]
  · rw [← vw_at (by rw [b2]; omega), epoch_C, e2, vw_putC, if_neg (by simp only; omega), vw_putC, if_pos rfl]
  · have := h.sound.fst r hr; omega
  · exact (h.sound.fst r hr).2
  · exact fun z => hus.1 ⟨r, hr, z⟩
  · exact fun z => hun.1 ⟨r, hr, z⟩
  · have := h.sound.sec x hs; omega
  · exact (h.sound.sec x hs).2
  · exact fun z => hus.2.1 (by rw [← z]; exact hs)
  · exact fun z => hun.2.1 (by rw [← z]; exact hs)
theorem Vol.tab3 (h : Vol base V N0 E) {s n : Nat} (hb : b < 64) (hF : lowFree (cntsOf V.C) 2 = [s, n]) (hsn : s < n) (hn : n < 256) (h0 : countOf V.C s = 0) (h1 : countOf V.C n = 0) (hd : data.length = 64) :
    wntV V (findR V.C N0 b) data = epoch (wnt1 V (findR V.C N0 b) data) [(N0, bytesOf ((numsOf (cl (wnt1 V (findR V.C N0 b) data).C N0)).set (b / 32) (s + 32768)))] ∧
    Ok (wntV V (findR V.C N0 b) data).C (lenTo V.C [s, n]) N0 E (setD (dskOf V.C N0 E) b data) ∧ (wntV V (findR V.C N0 b) data).C.length = lenTo V.C [s, n] ∧
      (∀ m, m < 256 → countOf (wntV V (findR V.C N0 b) data).C m = if m = s ∨ m = n then 1 else countOf V.C m) ∧ (∀ m, useOf (wntV V (findR V.C N0 b) data).C (rsOf N0 E) m + (hit (nm V.C N0 (b / 32)) m + hit (numAt V.C N0 b) m) = useOf V.C (rsOf N0 E) m + ((if s = m then 1 else 0) + if n = m then 1 else 0)) := by
  obtain ⟨_, b1, b2, b3, b4, b4', b5, b6⟩ := h.tab1 (data := data) (findR V.C N0 b) hF hsn hn h0 h1 hd
  have hr0 : (⟨N0, 0, []⟩ : RootR) ∈ rsOf N0 E := by simp [rsOf]
  have hT : lenTo V.C [s, n] = max V.C.length (n + 1) := rfl
  have hmost := h.file.most
  have h6 := h.sound.free_six (by omega) h0
  have hus := h.sound.untold (by omega) h0
  have hun := h.sound.untold hn h1
  have hN := h.sound.fst _ hr0
  simp only at hN
  have hNs : N0 ≠ s := fun e => hus.1 ⟨_, hr0, e⟩
  have hNn : N0 ≠ n := fun e => hun.1 ⟨_, hr0, e⟩
  have e : wntV V (findR V.C N0 b) data = epoch (wnt1 V (findR V.C N0 b) data) [(N0, bytesOf ((numsOf (cl (wnt1 V (findR V.C N0 b) data).C N0)).set (b / 32) (s + 32768)))] := by
    unfold wntV epoch putNumV
    rw [hF, puts_one]
    simp only [List.getD_cons_zero]
    obtain ⟨p1, p2, p3, p4, p5⟩ := placed (V := V) (N0 := N0) b
    rw [p4, p5]
  have s2 := b1.sound
  rw [padTo_self b2] at s2
  have hput := putN_of (x := s + 32768) (k := b / 32) b2 (show N0 < lenTo V.C [s, n] by omega) (by omega) (by omega)
  have hC3 : (wntV V (findR V.C N0 b) data).C = putsC (wnt1 V (findR V.C N0 b) data).C [(N0, bytesOf ((numsOf (cl (wnt1 V (findR V.C N0 b) data).C N0)).set (b / 32) (s + 32768)))] := by rw [e, epoch_C]
  rw [← hC3] at hput
  have e1 : ∀ q, nm (wnt1 V (findR V.C N0 b) data).C N0 q = nm V.C N0 q := fun q => by unfold nm; rw [b5 N0 (by omega) (by omega) hNs hNn]
  have eo : ∀ q, q < 32 → oldNum (wnt1 V (findR V.C N0 b) data).C N0 (b / 32) q = oldNum V.C N0 (b / 32) q := fun q hq => by
    unfold oldNum
    rw [e1]
    by_cases z : nm V.C N0 (b / 32) = 0
    · rw [if_pos z, if_pos z]
    · rw [if_neg z, if_neg z]
      have hs : IsSec V.C (rsOf N0 E) (nm V.C N0 (b / 32) % 32768) := ⟨_, hr0, b / 32, by omega, z, rfl⟩
      have hsr := h.sound.sec _ hs
      unfold nm
      rw [b5 _ (by omega) hsr.2 (fun z => hus.2.1 (by rw [← z]; exact hs)) (fun z => hun.2.1 (by rw [← z]; exact hs))]
  have htn : ∀ q, q < 32 → nm (wnt1 V (findR V.C N0 b) data).C s q = if b % 32 = q then n + 32768 else oldNum V.C N0 (b / 32) q := fun q hq => by
    unfold nm
    rw [b4', show (findR V.C N0 b).inSecond = b % 32 from rfl, set_num _ (findR_lt V.C N0 b).2.2 (findR_tab _ _ _) _ _ _ (by omega) hq, tab_get q hq]
  have hB : TabIn (wnt1 V (findR V.C N0 b) data).C (wntV V (findR V.C N0 b) data).C (rsOf N0 E) ⟨N0, 0, []⟩ (b / 32) s (b % 32) n := by
    refine ⟨hput, hr0, by omega, by omega, by rw [htn _ (by omega), if_pos rfl], fun q hq hne => ?_, by omega, ⟨h6, by omega⟩, ⟨by omega, by omega⟩, by rw [b3 _ (by omega), if_pos (Or.inl rfl)], by rw [b3 _ hn, if_pos (Or.inr rfl)], ⟨hus.1, fun x => hus.2.1 ((b6.isSec s).1 x), fun x => hus.2.2 ((b6.isBlk s).1 x)⟩, hun.1, fun x => hun.2.1 ((b6.isSec n).1 x), fun x => hun.2.2 ((b6.isBlk n).1 x)⟩
    rw [htn q hq, if_neg (fun z => hne z.symm)]
    exact (eo q hq).symm
  have s3 := hB.sound s2
  have hlen : (wntV V (findR V.C N0 b) data).C.length = lenTo V.C [s, n] := by rw [hput.len, b2]
  refine ⟨e, ⟨?_, by rw [padTo_self hlen]; exact s3, ?_⟩, hlen, fun m hm => by rw [hput.count hN.1 m hm, b3 m hm], fun m => ?_⟩
  · rw [hC3]
    exact b1.file.put1 (by omega) (by omega) (by omega) (bytesOf_length _)
  · rw [padTo_self hlen]
    have hd2 := b1.holds
    rw [padTo_self b2] at hd2
    rw [← hd2]
    refine dskOf_set s2 fun r hr => ?_
    have := hB.content s2 hr
    rw [this, b4, show 32 * (b / 32) + b % 32 = b by omega]
  · have := hB.use s2 m
    rw [b6.use] at this
    simp only at this
    rw [e1, eo _ (by omega)] at this
    have e2 : oldNum V.C N0 (b / 32) (b % 32) = numAt V.C N0 b := rfl
    rw [e2] at this
    exact this
theorem Vol.writeTable (h : Vol base V N0 E) {s n : Nat} (hb : b < 64) (hF : lowFree (cntsOf V.C) 2 = [s, n]) (hsn : s < n) (hn : n < 256) (h0 : countOf V.C s = 0) (h1 : countOf V.C n = 0) (hd : data.length = 64) :
    Lets (wntV V (findR V.C N0 b) data) N0 E (toldBy [nm V.C N0 (b / 32), numAt V.C N0 b]) ∧ Wrote base V (letGoV (wntV V (findR V.C N0 b) data) (toldBy [nm V.C N0 (b / 32), numAt V.C N0 b])) N0 E (setD (dskOf V.C N0 E) b data) := by
  obtain ⟨e, c1, c2, c3, c4⟩ := h.tab3 hb hF hsn hn h0 h1 hd
  have h6 := h.sound.free_six (by omega) h0
  have hmost := h.file.most
  have hu1 := use_none h.sound (h.sound.untold (by omega) h0)
  have hu2 := use_none h.sound (h.sound.untold hn h1)
  have hcount : ∀ m, (toldBy [nm V.C N0 (b / 32), numAt V.C N0 b]).count m = hit (nm V.C N0 (b / 32)) m + hit (numAt V.C N0 b) m := fun m => by rw [count_toldBy]; simp
  have hl : Lets (wntV V (findR V.C N0 b) data) N0 E (toldBy [nm V.C N0 (b / 32), numAt V.C N0 b]) := by
    refine ⟨fun u hu => ?_, fun m hm => ?_⟩
    · unfold toldBy at hu
      obtain ⟨x, hx, rfl⟩ := List.mem_map.1 hu
      obtain ⟨hx1, hx2⟩ := List.mem_filter.1 hx
      simp only [List.mem_cons, List.not_mem_nil, or_false] at hx1
      rcases hx1 with rfl | rfl
      · have := h.sound.sec (nm V.C N0 (b / 32) % 32768) ⟨⟨N0, 0, []⟩, by simp [rsOf], b / 32, by omega, by simpa using hx2, rfl⟩
        omega
      · have := h.sound.blk _ (numAt_isBlk (r := ⟨N0, 0, []⟩) (by simp [rsOf]) hb (by simpa using hx2))
        simp only at this
        omega
    · have := c4 m
      rw [hcount, c3 m hm]
      by_cases e1 : m = s
      · subst e1
        rw [if_pos rfl, if_neg (by omega)] at this
        rw [if_pos (Or.inl rfl), base6_eq, if_neg (by omega)]
        omega
      · by_cases e2 : m = n
        · subst e2
          rw [if_neg (by omega), if_pos rfl] at this
          rw [if_pos (Or.inr rfl), base6_eq, if_neg (by omega)]
          omega
        · rw [if_neg (by omega), if_neg (by omega)] at this
          rw [if_neg (by omega)]
          have := h.sound.cnt m hm
          omega
  obtain ⟨d1, d2, d3, d4⟩ := c1.letGo c2 hl
  refine ⟨hl, d1.vol d2 d3 (h.log.puts (puts_letGo (puts_wnt (Puts.refl V) _ _) _)), ?_, fun hx => d4 fun m hm => ?_⟩
  · have := d1.holds
    rw [padTo_self d2] at this
    exact this
  · have := c4 m
    rw [hcount, c3 m hm]
    by_cases e1 : m = s
    · subst e1
      rw [if_pos rfl, if_neg (by omega)] at this
      rw [if_pos (Or.inl rfl), base6_eq, if_neg (by omega)]
      omega
    · by_cases e2 : m = n
      · subst e2
        rw [if_neg (by omega), if_pos rfl] at this
        rw [if_pos (Or.inr rfl), base6_eq, if_neg (by omega)]
        omega
      · rw [if_neg (by omega), if_neg (by omega)] at this
        rw [if_neg (by omega), hx.eq m hm]
        omega
/-- How many are free, as the reader counts them. -/
theorem SoundL.free_all {C : List Clus} {rs : List RootR} (h : SoundL C rs) (hl : ∀ c ∈ C, c.length = 64) : freeOf C = cntTo (fun m => byteAt (cntsOf C) m == 0) 256 := by
  have h6 := h.six
  have hm := h.len
  have cong : ∀ (p q : Nat → Bool) (k : Nat), (∀ j, j < k → p j = q j) → cntTo p k = cntTo q k := by
    intro p q k
    induction k with
    | zero => intro _; rfl
    | succ k ih => intro h; simp only [cntTo]; rw [ih (fun j hj => h j (by omega)), h k (by omega)]
  have more : ∀ (p : Nat → Bool) (n m : Nat), (∀ j, n ≤ j → j < n + m → p j = true) → cntTo p (n + m) = cntTo p n + m := by
    intro p n m
    induction m with
    | zero => intro _; rfl
    | succ m ih =>
      intro h
      rw [← Nat.add_assoc]
      simp only [cntTo]
      rw [ih (fun j h1 h2 => h j h1 (by omega)), if_pos (h (n + m) (by omega) (by omega))]
      omega
  have e := cong (fun m => byteAt (cntsOf C) m == 0) (fun m => countOf C m == 0) 256 (fun j hj => by rw [byteAt_cnts hl (by omega) j hj])
  rw [e]
  have e2 := more (fun m => countOf C m == 0) C.length (256 - C.length) (fun j h1 h2 => by rw [h.none j (by omega) h1]; rfl)
  rw [show C.length + (256 - C.length) = 256 by omega] at e2
  rw [e2]
  unfold freeOf
  rw [Nat.add_comm]
  congr 1
  refine cong _ _ _ fun j hj => ?_
  by_cases hj6 : 6 ≤ j
  · simp [hj6]
  · have := h.cnt j (by omega)
    rw [base6_eq, if_pos (by omega)] at this
    have : countOf C j ≠ 0 := by omega
    simp [this, hj6]
theorem free_few {C : List Clus} {rs : List RootR} (h : SoundL C rs) (hl : ∀ c ∈ C, c.length = 64) (want : Nat) (hf : (lowFree (cntsOf C) want).length < want) : freeOf C < want := by
  rw [h.free_all hl, ← lowTo_all _ want 256 hf]; exact hf
/-- What Write makes of a volume. -/
def writeV (V : VolR) (n : Int) (data : Clus) : VolR × Nat := writeR V n data (letGoV (wntV V (placeOf V n) data) (toldBy [(placeOf V n).second, (placeOf V n).block])) (letGoV (wnbV V (placeOf V n) data) (toldBy [(placeOf V n).block]))
theorem Vol.place (h : Vol base V N0 E) (n : Int) : placeOf V n = findR V.C N0 n.toNat := by unfold placeOf; rw [h.file.num6]
theorem blockB_lt {n : Int} (hb : blockB n = true) : n.toNat < 64 := by
  unfold blockB at hb
  simp at hb
  omega
theorem Wrote.refl (h : Vol base V N0 E) : Wrote base V V N0 E (dskOf V.C N0 E) := ⟨h, rfl, id⟩
/-- Write: the block holds the data; or it is refused, for the number or for room, and nothing has changed. -/
theorem Vol.write (h : Vol base V N0 E) (n : Int) (hd : data.length = 64) :
    (blockB n = false ∧ writeV V n data = (V, 1)) ∨ (blockB n = true ∧ (writeV V n data).2 = 0 ∧ Wrote base V (writeV V n data).1 N0 E (setD (dskOf V.C N0 E) n.toNat data)) ∨
      (blockB n = true ∧ writeV V n data = (V, 5) ∧ ∀ R : FileR, R.L = V.C → R.roots = rsOf N0 E → freeOf V.C < needs R n.toNat) := by
  have h7 := h.file.seven
  have hm := h.file.most
  unfold writeV writeR
  by_cases hb : blockB n = true
  · have hlt := blockB_lt hb
    rw [if_neg (by rw [hb]; decide), h.place n]
    obtain ⟨p1, p2, p3, p4, p5⟩ := placed (V := V) (N0 := N0) n.toNat
    rw [p1, p2]
    by_cases h2 : nm V.C N0 (n.toNat / 32) < 32768
    · rw [if_pos h2]
      by_cases hf : 2 ≤ (lowFree (cntsOf V.C) 2).length
      · rw [if_pos hf]
        obtain ⟨s, n', hF, hsn, hn, h0, h1⟩ := lowFree_two hf
        rw [byteAt_cnts h.file.lens (by omega) _ (by omega)] at h0 h1
        have hw := (h.writeTable hlt hF hsn hn h0 h1 hd).2
        generalize letGoV (wntV V (findR V.C N0 n.toNat) data) (toldBy [nm V.C N0 (n.toNat / 32), numAt V.C N0 n.toNat]) = W at *
        exact Or.inr (Or.inl ⟨hb, rfl, hw⟩)
      · rw [if_neg hf]
        refine Or.inr (Or.inr ⟨hb, rfl, fun R hL hR => ?_⟩)
        have := free_few h.sound h.file.lens 2 (by omega)
        unfold needs rootOf
        rw [hL, hR, if_pos (by exact h2)]
        exact this
    · rw [if_neg h2]
      by_cases h3 : numAt V.C N0 n.toNat < 32768
      · rw [if_pos h3]
        by_cases hf : 0 < (lowFree (cntsOf V.C) 1).length
        · rw [if_pos hf]
          obtain ⟨n', hF, hn, h0⟩ := lowFree_one hf
          rw [byteAt_cnts h.file.lens (by omega) _ (by omega)] at h0
          have hw := (h.writeBlock hlt hF hn h0 hd (by omega)).2
          generalize letGoV (wnbV V (findR V.C N0 n.toNat) data) (toldBy [numAt V.C N0 n.toNat]) = W at *
          exact Or.inr (Or.inl ⟨hb, rfl, hw⟩)
        · rw [if_neg hf]
          refine Or.inr (Or.inr ⟨hb, rfl, fun R hL hR => ?_⟩)
          have := free_few h.sound h.file.lens 1 (by omega)
          have e2 : num (cl V.C (num (cl V.C N0) (2 * (n.toNat / 32)) % 32768)) (2 * (n.toNat % 32)) < 32768 := by
            unfold numAt at h3
            rw [if_neg (by unfold nm at h2; omega)] at h3
            exact h3
          unfold needs rootOf
          rw [hL, hR, if_neg (by exact h2), if_pos (by exact e2)]
          exact this
      · rw [if_neg h3]
        obtain ⟨o1, o2, o3⟩ := h.inPlace (data := data) hlt hd (by omega)
        have eC : (flushV (putV V (numAt V.C N0 n.toNat % 32768) data)).C = putsC V.C [(numAt V.C N0 n.toNat % 32768, data)] := by rw [flushV_C, putV_C]; rfl
        refine Or.inr (Or.inl ⟨hb, rfl, ?_⟩)
        show Wrote base V (flushV (putV V (numAt V.C N0 n.toNat % 32768) data)) N0 E _
        refine ⟨Ok.vol (T := V.C.length) (D := setD (dskOf V.C N0 E) n.toNat data) (by rw [eC]; exact o1) (by rw [eC]; exact o3) (flushV_loose _) (h.log.puts ((Puts.refl V).put _ _).flush), ?_, fun hx => by rw [eC]; exact o2 hx⟩
        rw [eC]
        have := o1.holds
        rw [padTo_self o3] at this
        exact this
  · have hb' : blockB n = false := by simpa using hb
    rw [if_pos hb']
    exact Or.inl ⟨hb', rfl⟩
end
end Go.Proofs.YtknjjjenklfeoaaGreatDoor
