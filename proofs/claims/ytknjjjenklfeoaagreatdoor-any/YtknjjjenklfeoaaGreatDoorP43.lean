import Derived.Test.YtknjjjenklfeoaaGreatDoorP41
import Derived.Test.YtknjjjenklfeoaaGreatDoorP42
import Derived.Test.YtknjjjenklfeoaaGreatDoorP30
import Derived.Test.YtknjjjenklfeoaaGreatDoorP24
import Derived.Test.YtknjjjenklfeoaaGreatDoorP32
import Derived.Test.YtknjjjenklfeoaaGreatDoorP38
/-
  Plain: what Take, Return and Drop make of a volume, and of what it holds.
-/
namespace Go.Proofs.YtknjjjenklfeoaaGreatDoor
section
variable {base : List Clus} {V : VolR} {N0 : Nat} {E : List EntR} {s : ByteArray}
theorem Vol.ents (h : Vol base V N0 E) : entsOf (cl V.C 5) = pad4 E ∧ lenOf (entsOf (cl V.C 5)) = E.length := by
  rw [h.file.list, h.file.ents.entsOf]
  exact ⟨rfl, h.file.ents.lenOf⟩
theorem txt_inj {a b : List UInt8} (h : txt a = txt b) : a = b := by
  have := congrArg (fun x : ByteArray => x.data.toList) h
  simpa [txt] using this
theorem dsk_name (L : List Clus) (k : Nat) (hk : k < E.length) : (picAt (dskOf L N0 E).L k).name = ((pad4 E).getD k ze).name ∧ (picAt (dskOf L N0 E).L k).C = contentOf L ((pad4 E).getD k ze).first := by
  rw [pad4_get k hk]
  unfold picAt
  rw [dskOf_L, List.getD_eq_getElem?_getD, List.getD_eq_getElem?_getD, List.getElem?_map, List.getElem?_eq_getElem hk]
  exact ⟨rfl, rfl⟩
theorem find_same (L : List Clus) : ∀ m k, k + m = E.length → refFindFrom (dskOf L N0 E).L s m k = findFrom (pad4 E) s m k
  | 0, _, _ => rfl
  | m + 1, k, h => by
    rw [refFindFrom, findFrom, (dsk_name L k (by omega)).1, find_same L m (k + 1) (by omega)]
theorem dsk_len (L : List Clus) : (dskOf L N0 E).L.length = E.length := by rw [dskOf_L, List.length_map]
theorem Vol.find (h : Vol base V N0 E) : refFind (dskOf V.C N0 E) s = findE (entsOf (cl V.C 5)) s := by
  unfold refFind findE
  rw [h.ents.2, h.ents.1, dsk_len]
  exact find_same V.C E.length 0 (by omega)
theorem find_none : ∀ m k, k + m = E.length → findFrom (pad4 E) s m k < 0 → ∀ j, k ≤ j → j < E.length → ((pad4 E).getD j ze).name ≠ s.data.toList
  | 0, k, h, _, j, h1, h2 => by omega
  | m + 1, k, h, hf, j, h1, h2 => by
    rw [findFrom] at hf
    split at hf
    · omega
    · rename_i hn
      by_cases e : k = j
      · subst e
        intro he
        exact hn (by rw [he]; exact txt_self s)
      · exact find_none m (k + 1) (by omega) hf j (by omega) h2
theorem Vol.fresh (h : Vol base V N0 E) (hf : findE (entsOf (cl V.C 5)) s < 0) : s.data.toList ∉ E.map (·.name) := by
  unfold findE at hf
  rw [h.ents.2, h.ents.1] at hf
  intro hm
  obtain ⟨e, he, e1⟩ := List.mem_map.1 hm
  obtain ⟨j, hj, rfl⟩ := List.getElem_of_mem he
  have := find_none E.length 0 (by omega) hf j (by omega) hj
  rw [pad4_get j hj, List.getD_eq_getElem?_getD, List.getElem?_eq_getElem hj] at this
  exact this e1
theorem Vol.there (h : Vol base V N0 E) : (∃ m, m ≠ 0 ∧ m ≠ 5 ∧ entR V s = (0, m) ∧ thereR (dskOf V.C N0 E) s = (-1, m)) ∨ ∃ i, i < E.length ∧ entR V s = (((i : Nat) : Int), 0) ∧ thereR (dskOf V.C N0 E) s = (((i : Nat) : Int), 0) ∧ refFind (dskOf V.C N0 E) s = (i : Int) := by
  unfold thereR entR
  rw [h.find]
  by_cases hn : isNameB s.data.toList = false
  · rw [if_pos hn, if_pos hn]
    exact Or.inl ⟨2, by decide, by decide, rfl, rfl⟩
  · rw [if_neg hn, if_neg hn]
    by_cases hf : findE (entsOf (cl V.C 5)) s < 0
    · rw [if_pos hf, if_pos hf]
      exact Or.inl ⟨4, by decide, by decide, rfl, rfl⟩
    · rw [if_neg hf, if_neg hf]
      obtain ⟨i, _, h2, h3⟩ := findFrom_some (entsOf (cl V.C 5)) s (lenOf (entsOf (cl V.C 5))) 0 (by unfold findE at hf; omega)
      have h4 : findE (entsOf (cl V.C 5)) s = (i : Int) := h3
      rw [h4]
      exact Or.inr ⟨i, by rw [h.ents.2] at h2; omega, rfl, rfl, rfl⟩
theorem pad4_snoc (e : EntR) (h : E.length < 4) : (pad4 E).set E.length e = pad4 (E ++ [e]) := by
  unfold pad4
  rw [List.set_append_right _ _ (Nat.le_refl _), Nat.sub_self, show 4 - E.length = (4 - (E ++ [e]).length) + 1 by simp; omega, List.replicate_succ, List.set_cons_zero, List.append_assoc]
  rfl
theorem pad4_less (i : Nat) (hi : i < E.length) (h4 : E.length ≤ 4) : lessE (pad4 E) i = pad4 (E.eraseIdx i) := by
  unfold lessE pad4
  rw [List.eraseIdx_append_of_lt_length hi, List.append_assoc]
  congr 1
  have : (E.eraseIdx i).length = E.length - 1 := by rw [List.length_eraseIdx, if_pos hi]
  rw [this, show 4 - (E.length - 1) = (4 - E.length) + 1 by omega, List.replicate_succ']
/-- What Room says, and what copyFirst finds. -/
theorem roomFrom_iff (L : List Clus) (M : List Nat) : ∀ m n, roomFrom L M m n = true ↔ ∀ j, n ≤ j → j < n + m → countOf L j + M.getD j 0 ≤ 254
  | 0, n => by simp [roomFrom]; intro j h1 h2; omega
  | m + 1, n => by
    rw [roomFrom]
    by_cases hg : 254 < countOf L n + M.getD n 0
    · rw [if_pos hg]
      constructor
      · intro h; cases h
      · intro h; have := h n (by omega) (by omega); omega
    · rw [if_neg hg, roomFrom_iff L M m (n + 1)]
      constructor
      · intro h j h1 h2
        by_cases e : n = j
        · subst e; omega
        · exact h j (by omega) (by omega)
      · intro h j h1 h2; exact h j (by omega) (by omega)
theorem bump_get (M : List Nat) (n m : Nat) (hn : n < M.length) : (bump M n).getD m 0 = M.getD m 0 + if n = m then 1 else 0 := by
  unfold bump
  rw [List.getD_eq_getElem?_getD, List.getElem?_set]
  by_cases e : n = m
  · subst e
    rw [if_pos rfl, if_pos hn, if_pos rfl, Option.getD_some]
  · rw [if_neg e, if_neg e, List.getD_eq_getElem?_getD]; rfl
theorem sumFrom_last (f : Nat → Nat) : ∀ m k, sumFrom f (m + 1) k = sumFrom f m k + f (k + m)
  | 0, k => by simp [sumFrom]
  | m + 1, k => by
    rw [sumFrom, sumFrom_last f m (k + 1), sumFrom, show k + 1 + m = k + (m + 1) by omega]
    omega
theorem moreIn_get (L : List Clus) (t : Nat) (M : List Nat) (hM : M.length = 256) (n : Nat) : ∀ k, k ≤ 32 → (∀ q, q < k → nm L t q ≠ 0 → nm L t q % 32768 < 256) → (moreIn L t M k).getD n 0 = M.getD n 0 + sumFrom (fun q => hit (nm L t q) n) k 0
  | 0, _, _ => by simp [moreIn, sumFrom]
  | k + 1, hk, hq => by
    have ih := moreIn_get L t M hM n k (by omega) (fun q h => hq q (by omega))
    rw [moreIn, sumFrom_last]
    by_cases h0 : num (cl L t) (2 * k) = 0
    · rw [if_pos h0, ih]
      have : hit (nm L t (0 + k)) n = 0 := by rw [Nat.zero_add]; unfold nm; rw [h0, hit_zero]
      rw [this]; omega
    · rw [if_neg h0, bump_get _ _ _ (by rw [moreIn_length, hM]; exact hq k (by omega) h0), ih]
      have : hit (nm L t (0 + k)) n = if num (cl L t) (2 * k) % 32768 = n then 1 else 0 := by
        rw [Nat.zero_add]
        by_cases e : num (cl L t) (2 * k) % 32768 = n
        · rw [if_pos e]; exact hit_one h0 e
        · rw [if_neg e]; unfold hit; rw [if_neg (fun z => e z.2)]
      rw [this]; omega
theorem SoundL.more {L : List Clus} {rs : List RootR} (h : SoundL L rs) {r : RootR} (hr : r ∈ rs) (n : Nat) : (moreOut L r.N 2).getD n 0 = secOcc L r.N 0 n + secOcc L r.N 1 n := by
  have hlen := h.len
  have step : ∀ i, i < 2 → (moreOut L r.N (i + 1)).getD n 0 = (moreOut L r.N i).getD n 0 + secOcc L r.N i n := by
    intro i hi
    rw [moreOut]
    unfold secOcc
    by_cases h0 : num (cl L r.N) (2 * i) = 0
    · rw [if_pos h0, if_pos h0]; rfl
    · rw [if_neg h0, if_neg h0]
      have hsec : IsSec L rs (nm L r.N i % 32768) := ⟨r, hr, i, hi, h0, rfl⟩
      have hs := h.sec _ hsec
      have hs' : num (cl L r.N) (2 * i) % 32768 < 256 := Nat.lt_of_lt_of_le hs.2 hlen
      rw [moreIn_get L _ _ (by rw [bump_length]; exact moreOut_length L r.N i) n 32 (Nat.le_refl _) (fun q hq h1 => Nat.lt_of_lt_of_le (h.num_in (Or.inr hsec) q hq h1).2 hlen), bump_get _ _ _ (by rw [moreOut_length]; exact hs')]
      have : hit (nm L r.N i) n = if num (cl L r.N) (2 * i) % 32768 = n then 1 else 0 := by
        by_cases e : num (cl L r.N) (2 * i) % 32768 = n
        · rw [if_pos e]; exact hit_one h0 e
        · rw [if_neg e]; unfold hit; rw [if_neg (fun z => e z.2)]
      rw [this]
      unfold inOcc
      exact Nat.add_assoc _ _ _
  rw [step 1 (by omega), step 0 (by omega)]
  have : (moreOut L r.N 0).getD n 0 = 0 := by have := zI_most n; show zI.getD n 0 = 0; omega
  omega
theorem Vol.room (h : Vol base V N0 E) {f : Nat} (hf : f ∈ (rsOf N0 E).map (·.N)) : roomR V.C f = true ↔ (0 < (lowFree (cntsOf V.C) 1).length ∧ fitsB (cntsOf V.C) (toldAll V.C f) = true) := by
  obtain ⟨r, hr, rfl⟩ := List.mem_map.1 hf
  obtain ⟨k1, k2⟩ := h.ok.cnts rfl
  have hlen := h.sound.len
  have hin : ∀ u ∈ toldAll V.C r.N, u < V.C.length := fun u hu => (h.sound.held_lt hr u (List.mem_cons.2 (Or.inr hu))).2
  have hfree : 0 < freeOf V.C ↔ 0 < (lowFree (cntsOf V.C) 1).length := by
    constructor
    · intro hp
      by_cases hl : 0 < (lowFree (cntsOf V.C) 1).length
      · exact hl
      · have := free_few h.sound h.file.lens 1 (by omega); omega
    · intro hl
      obtain ⟨n, _, hn, h0⟩ := lowFree_one hl
      rw [h.sound.free_all h.file.lens]
      have key : ∀ k, n < k → 0 < cntTo (fun m => byteAt (cntsOf V.C) m == 0) k := by
        intro k
        induction k with
        | zero => intro h; omega
        | succ k ih =>
          intro hk
          rw [cntTo]
          by_cases e : n = k
          · subst e; rw [if_pos (by simp [h0])]; omega
          · have := ih (by omega); omega
      exact key 256 hn
  unfold roomR
  rw [Bool.and_eq_true, decide_eq_true_iff, hfree, roomFrom_iff, fits_iff _ _ (fun u hu => by rw [k1]; have := hin u hu; omega)]
  constructor
  · rintro ⟨h1, h2⟩
    refine ⟨h2, fun u hu => ?_⟩
    have h3 := h1 u (by omega) (by have := hin u hu; omega)
    rw [h.sound.more hr, ← count_told (h.sound.zero r hr)] at h3
    rw [k2 u (by have := hin u hu; omega)]
    exact h3
  · rintro ⟨h1, h2⟩
    refine ⟨fun j _ hj => ?_, h1⟩
    rw [h.sound.more hr, ← count_told (h.sound.zero r hr)]
    by_cases hm : j ∈ toldAll V.C r.N
    · have := h2 j hm
      rw [k2 j (by omega)] at this
      exact this
    · rw [List.count_eq_zero.2 hm]
      have := h.sound.top j (by omega)
      omega
end
end Go.Proofs.YtknjjjenklfeoaaGreatDoor

/-
  A step of a script in memory.
-/
namespace Go.Proofs.YtknjjjenklfeoaaGreatDoor
open Go.RowKit

structure OpR where
  kind : Int
  n : Int
  name : ByteArray
  text : ByteArray
  raw : Value
  gone : Value
def opCells (o : OpR) : List Value := [.int .i64 o.kind, .int .i64 o.n, .string o.name, .string o.text, o.raw, o.gone]
theorem opCells_length (o : OpR) : (opCells o).length = 6 := rfl
def zo : OpR := ⟨0, 0, .empty, .empty, .slice none 0 0, .slice none 0 0⟩
def loadOp (a : Addr) : Sem Value := loadVar 80 a
theorem loadVar_op (a : Addr) : loadVar 80 a = loadOp a := rfl
theorem run_loadOp {w : World} {b o : Nat} (h : HasAt w b o 6) : (loadOp ⟨b, o, none⟩).run Tryz.prog w = .ok (.agg (cellsAt w b o 6).toArray) w :=
  run_loadVar_has h 80 _ Tryz.underlying80 rfl (by kernel_rfl)
def storeOp (a : Addr) (v : Value) : Sem Unit := storeVar 80 a v
theorem storeVar_op (a : Addr) (v : Value) : storeVar 80 a v = storeOp a v := rfl
def zeroOp : Sem Value := zeroValue 80
theorem zeroValue_op : zeroValue 80 = zeroOp := rfl
theorem run_zeroOp (w : World) : zeroOp.run Tryz.prog w = .ok (.agg (opCells zo).toArray) w :=
  (zero_of_info (P := Tryz.prog) (t := 80) (v := .agg (opCells zo).toArray) (n := 6) (by kernel_rfl)).1 w
/-- Its two lists are slices. -/
structure OpR.Fits (o : OpR) : Prop where
  raw : o.raw.oneCell' = true
  gone : o.gone.oneCell' = true
theorem opCells_one {o : OpR} (h : o.Fits) : ∀ v ∈ opCells o, v.oneCell' = true := by
  intro v hv
  simp only [opCells, List.mem_cons, List.not_mem_nil, or_false] at hv
  rcases hv with rfl | rfl | rfl | rfl | rfl | rfl
  · rfl
  · rfl
  · rfl
  · rfl
  · exact h.raw
  · exact h.gone
theorem run_storeOp_new {w : World} {z x : OpR} (hx : x.Fits) :
    (storeOp ⟨w.heap.size, 0, none⟩ (.agg (opCells x).toArray)).run Tryz.prog (w.alloc (.cells (opCells z).toArray 80)) = .ok () (w.alloc (.cells (opCells x).toArray 80)) :=
  run_storeVar_new w 80 (opCells z).toArray (opCells x).toArray (by simp only [List.size_toArray, opCells_length]; kernel_rfl) (by simp [opCells_length]) (all_oneCell_toArray (opCells_one hx))
end Go.Proofs.YtknjjjenklfeoaaGreatDoor

/-
  Of a region that draws its order: two operations may come up.
-/
namespace Go.Proofs.YtknjjjenklfeoaaGreatDoor
open Go.RowKit
section
variable {P : Program} {ops : Array Oper} {Q : Exit → Act → World → Prop} {md : Region.Mode} {T : World → Prop} {k : Nat}
/-- Two may come up. -/
theorem wpAnyL_two {i j : Nat} {oi oj : Oper} {fuel : Nat} {listed : Array Bool} {a : Act} {w : World} (hr : Region.ready md ops listed = [i, j]) (hi : ops[i]? = some oi) (hj : ops[j]? = some oj)
    (h1 : ∀ K : Act → World → Prop, (∀ a' w', (i = k ∨ T w') → wpAnyL P md ops Q T k fuel (listed.setIfInBounds i true) a' w' → K a' w') → if Region.wanted oi (yielded ops a.tmps) = true then Oper.wp P oi a w K Q else K (a.put oi.dst undef) w)
    (h2 : ∀ K : Act → World → Prop, (∀ a' w', (j = k ∨ T w') → wpAnyL P md ops Q T k fuel (listed.setIfInBounds j true) a' w' → K a' w') → if Region.wanted oj (yielded ops a.tmps) = true then Oper.wp P oj a w K Q else K (a.put oj.dst undef) w) : wpAnyL P md ops Q T k (fuel + 1) listed a w := by
  refine ⟨fun h0 => (by rw [hr] at h0; cases h0), fun q hq => ?_⟩
  rw [hr] at hq
  simp only [List.mem_cons, List.not_mem_nil, or_false] at hq
  rcases hq with rfl | rfl
  · have h := h1 (fun a' w' => (q = k ∨ T w') ∧ wpAnyL P md ops Q T k fuel (listed.setIfInBounds q true) a' w') (fun a' w' h1 h2 => ⟨h1, h2⟩)
    unfold wpOp
    simp only [hi]
    split
    · rename_i hw
      rw [if_pos hw] at h
      exact Or.inl h
    · rename_i hw
      rw [if_neg hw] at h
      exact h
  · have h := h2 (fun a' w' => (q = k ∨ T w') ∧ wpAnyL P md ops Q T k fuel (listed.setIfInBounds q true) a' w') (fun a' w' h1 h2 => ⟨h1, h2⟩)
    unfold wpOp
    simp only [hj]
    split
    · rename_i hw
      rw [if_pos hw] at h
      exact Or.inl h
    · rename_i hw
      rw [if_neg hw] at h
      exact h
end
end Go.Proofs.YtknjjjenklfeoaaGreatDoor

/-
  vellumlaw's writes: Write of a disk.
-/
namespace Go.Proofs.YtknjjjenklfeoaaGreatDoor
open Go.RowKit
attribute [local go_sem ↓] loadVar_clus storeVar_clus zeroValue_clus loadVar_op
attribute [local go_sem] run_loadClus run_storeClus run_zeroClus run_storeClus_new run_loadClus_new zc_length run_loadOp HasAt_drew cellsAt_drew

/-- What a step has made of a pair. -/
structure Went (w w' : World) (p : Nat) (P : PairR) (S : Nat → Prop) (P' : PairR) (S' : Nat → Prop) : Prop where
  at' : PairAt w' p P' S'
  base : P'.B = P.B
  marks : P'.ms = P.ms
  ex : P'.ex = P.ex
  log : P'.V.L.length ≤ P.V.L.length + 100
  logp : 0 < P.V.L.length → 0 < P'.V.L.length
  kept : Kept S w w'
  new : ∀ k, S' k → S k ∨ w.heap.size ≤ k
theorem putsAll_pos (l : List (Option (Nat × Clus))) : ∀ V : VolR, V.L.length ≤ (putsAll V l).L.length := by
  induction l with
  | nil => intro V; exact Nat.le_refl _
  | cons x r ih =>
    intro V
    refine Nat.le_trans ?_ (ih (putsOne V x))
    cases x with
    | none =>
      show V.L.length ≤ (flushV V).L.length
      unfold flushV
      split
      · simp
      · exact Nat.le_refl _
    | some y =>
      show V.L.length ≤ (putV V y.1 y.2).L.length
      unfold putV
      split
      · exact Nat.le_refl _
      · show V.L.length ≤ ((completeV V).L ++ [_]).length
        unfold completeV
        split
        · show V.L.length ≤ ((V.L ++ _) ++ [_]).length; simp
        · simp
theorem Puts.lenL {V V' : VolR} (h : Puts V V') : V.L.length ≤ V'.L.length := by
  obtain ⟨l, rfl⟩ := h
  exact putsAll_pos l V
theorem puts_write (V : VolR) (n : Int) (data : Clus) : Puts V (writeV V n data).1 := by
  have h1 := puts_letGo (puts_wnb (Puts.refl V) (placeOf V n) data) (toldBy [(placeOf V n).block])
  have h2 := puts_letGo (puts_wnt (Puts.refl V) (placeOf V n) data) (toldBy [(placeOf V n).second, (placeOf V n).block])
  have h3 := ((Puts.refl V).put ((placeOf V n).block % 32768) data).flush
  have h0 := Puts.refl V
  unfold writeV writeR
  generalize letGoV (wnbV V (placeOf V n) data) (toldBy [(placeOf V n).block]) = A at *
  generalize letGoV (wntV V (placeOf V n) data) (toldBy [(placeOf V n).second, (placeOf V n).block]) = B at *
  split
  · exact h0
  · split
    · split
      · exact h2
      · exact h0
    · split
      · split
        · exact h1
        · exact h0
      · exact h3
theorem Went.did {w w4 w5 w6 : World} {p : Nat} {P : PairR} {S : Nat → Prop} {C1 L1 Qv : Value} {V' : VolR} {D' : DiskR} (h : PairAt w p P S) (hb : Below w.heap.size w w4) (hs : VStep w4 w5 P.v P.Cv P.Lv C1 L1 V') (hk : Kept (fun k => k = P.y) w5 w6) (hr : DiskAt w6 P.y Qv D') (hq : ∀ g, Qv.ownBlock = some g → S g ∨ w.heap.size ≤ g)
    (hl : V'.L.length ≤ P.V.L.length + 100) (hm : P.V.L.length ≤ V'.L.length) : Went w w6 p P S { P with Cv := C1, Lv := L1, V := V', D := D', Pv := Qv } (fun k => (S k ∨ foot P.v C1 L1 k) ∨ Qv.ownBlock = some k) := by
  have h4 := h.below hb
  have h5 := h4.step hs
  refine ⟨h5.refStep hk hr, rfl, rfl, rfl, hl, fun h0 => Nat.lt_of_lt_of_le h0 hm, ((Kept.of_below hb).trans (h4.step_kept hs)).trans (hk.mono fun k e => by rw [e]; exact h.inY), fun k hk' => ?_⟩
  rcases hk' with x | x
  · rcases h4.step_new hs k x with y | y
    · exact Or.inl y
    · have := hb.size; exact Or.inr (by omega)
  · exact hq k x
theorem setD_ref (D : DiskR) (n : Int) (data : Clus) (hb : blockB n = true) : refWriteR D n data = (setD D n.toNat data, 0) := by
  unfold refWriteR setD
  rw [if_pos hb]
def WriteT (p bo c d : Nat) (n : Int) (data : Clus) (w' : World) : Prop := w'.cell? ⟨p, 0, none⟩ = some (.pointer (some ⟨d, 0, none⟩)) ∧ w'.cell? ⟨bo, 1, none⟩ = some (.int .i64 n) ∧ HasAt w' c 0 64 ∧ cellsAt w' c 0 64 = cv data
def WriteT2 (p bo c y : Nat) (n : Int) (data : Clus) (w' : World) : Prop := w'.cell? ⟨p, 1, none⟩ = some (.pointer (some ⟨y, 0, none⟩)) ∧ w'.cell? ⟨bo, 1, none⟩ = some (.int .i64 n) ∧ HasAt w' c 0 64 ∧ cellsAt w' c 0 64 = cv data
theorem PairAt.footNotY {w : World} {p : Nat} {P : PairR} {S : Nat → Prop} (h : PairAt w p P S) : p ≠ P.y := fun e => by
  have hb := h.blk
  rw [e] at hb
  exact absurd (blk_type hb h.ref.blk) (by decide)

set_option linter.unusedSimpArgs false in
set_option maxHeartbeats 4000000 in
set_option maxRecDepth 100000 in
theorem writes_any (w : World) (p : Nat) (P : PairR) (S : Nat → Prop) (N0 : Nat) (E : List EntR) (h : PairAt w p P S) (hst : Stands P N0 E) (hL : P.V.L.length ≤ 400000000) (o : OpR) (ht : o.text.size ≤ maxLen) :
    Calls Tryz.prog 62 #[.pointer (some ⟨p, 0, none⟩), .agg (opCells o).toArray] w fun e w' => e = .returned (.bool true) ∧ ∃ P', Stands P' N0 E ∧ ∃ S', Went w w' p P S P' S' := by
  have hg := hst.vol
  obtain ⟨k1, k2, k3, k4, k5⟩ := hg.look
  have h7 := hg.file.seven
  have hmost := hg.file.most
  have hlens := hg.file.lens
  have hr0 : (⟨N0, 0, []⟩ : RootR) ∈ rsOf N0 E := by simp [rsOf]
  have hin := hg.sound.inFile hr0
  have hdl : (clusOf o.text.data.toList).length = 64 := clusTo_length _ _ (Nat.min_le_left _ _) (Nat.min_le_right _ _)
  have hcase := hg.write (data := clusOf o.text.data.toList) o.n hdl
  have hlL := hg.write_lenL (data := clusOf o.text.data.toList) o.n hdl
  have hlP := (puts_write P.V o.n (clusOf o.text.data.toList)).lenL
  have hb0 : Below w.heap.size w (w.alloc (.cells (opCells o).toArray 80)) := (Below.refl _ _).alloc (Nat.le_refl _) _
  have hbx0 : (w.alloc (.cells (opCells o).toArray 80)).heap[w.heap.size]? = some (.cells (opCells o).toArray 80 (0, 0)) := heap_alloc_new _ _
  have c0 := (h.below hb0).c0
  have H := hide h
  have HG := hide hg
  have HS := hide hst
  have B0 := hide hb0
  have X0 := hide hbx0
  have HC := hide hcase
  have hft := fun k hk => (unhide H).lt k ((unhide H).inD k (Or.inr hk))
  have Hft := hide hft
  clear h hg hb0 hbx0 hcase hft hst
  go_enter Tryz.func62, Tryz.ntmps62
  go_wp2_with fail
  generalize w.alloc (.cells (opCells o).toArray 80) = w0 at *
  refine (diskFile_any w0 _ _ _ _ _ ((unhide H).below (unhide B0)).dsk (by omega) (by omega)).mono ?_
  rintro e w1 ⟨fv, rfl, rf1, b1⟩
  have B1 := hide ((unhide B0).trans (b1.mono (unhide B0).size))
  have X1 := hide ((b1.block _ (blk_lt (unhide X0))).trans (unhide X0))
  have R1 : Hid (FRow w1 fv P.V.C) := ⟨row_base rf1 (Nat.zero_le _), hlens⟩
  clear B0 X0 rf1 b1 c0
  go_wp2_with fail
  refine (look_any w1 fv P.V.C (unhide R1) (by omega)).mono ?_
  rintro e w2 ⟨rfl, fl, fr, hLk⟩
  have B2 := hide ((unhide B1).trans (hLk.below.mono (unhide B1).size))
  have X2 := hide ((hLk.below.block _ (blk_lt (unhide X1))).trans (unhide X1))
  have F2 := hide hLk.at'
  have hfr : ∀ g, fl.ownBlock = some g → w.heap.size ≤ g := fun g hg => Nat.le_trans (unhide B1).size (hLk.fresh g hg)
  have Hfr := hide hfr
  have hfs : w.heap.size ≤ w1.heap.size := (unhide B1).size
  have ct : w2.cell? ⟨w.heap.size, 3, none⟩ = some (.string o.text) := (cell_blk (unhide X2) 3).trans rfl
  clear hLk B1 X1 R1 hfr
  generalize w1.heap.size = f at *
  go_wp2_with fail
  refine (cluster_any o.text w2 ht).mono ?_
  rintro e w3 ⟨rfl, b3⟩
  generalize clusOf o.text.data.toList = data at *
  have hb4 := ((unhide B2).trans (b3.mono (unhide B2).size)).alloc (by have := (unhide B2).size; have := b3.size; omega) (.cells (cv data).toArray 38)
  have hx4 : (w3.alloc (.cells (cv data).toArray 38)).heap[w.heap.size]? = some (.cells (opCells o).toArray 80 (0, 0)) := (Below.heap_alloc _ _ _ (by have := blk_lt (unhide X2); have := b3.size; omega)).trans ((b3.block _ (blk_lt (unhide X2))).trans (unhide X2))
  have hd4 : (w3.alloc (.cells (cv data).toArray 38)).heap[w3.heap.size]? = some (.cells (cv data).toArray 38 (0, 0)) := heap_alloc_new _ _
  have hF4 := (unhide F2).below (b3.alloc b3.size (.cells (cv data).toArray 38))
  have hs3 : w.heap.size < w3.heap.size := by have := blk_lt (unhide X2); have := b3.size; omega
  have B4 := hide hb4
  have X4 := hide hx4
  have D4 := hide hd4
  have F4 := hide hF4
  clear hb4 hx4 hd4 hF4 b3 B2 X2 F2 ct
  go_wp2
  generalize hW4 : w3.alloc (.cells (cv data).toArray 38) = w4 at *
  generalize w3.heap.size = c at *
  clear hW4
  have c0 := ((unhide H).below (unhide B4).drew).c0
  have cn : w4.drew.cell? ⟨w.heap.size, 1, none⟩ = some (.int .i64 o.n) := (cell_blk (w := w4) (unhide X4) 1).trans rfl
  have l1 : HasAt w4.drew c 0 64 := box_has (w := w4) (unhide D4) hdl
  have l2 : cellsAt w4.drew c 0 64 = cv data := box_cells (w := w4) (unhide D4) hdl
  have Hw := hide ((unhide HG).diskWrite (data := data) ((unhide H).below (unhide B4).drew).dsk (by omega) o.n hdl)
  generalize hR : writeV P.V o.n data = R at *
  have HR := hide hR
  clear hR
  have hT : WriteT p w.heap.size c P.d o.n data w4.drew := ⟨c0, cn, l1, l2⟩
  refine wp_region_L (WriteT p w.heap.size c P.d o.n data) 8 (by kernel_rfl) ?_
  refine wpAnyL_take (i := 0) (v := ?_) rfl (by kernel_rfl) (by kernel_rfl) (by kernel_rfl) (by kernel_rfl) (fun _ _ _ h => h) (Or.inl ⟨by rfl, fun W hW => ?_⟩) hT ?_
  rotate_left 1
  · (obtain ⟨t0, t1, t2, t3⟩ := hW; go_simp; with_reducible rfl)
  simp only [Act.put, List.setIfInBounds_toArray, List.set_cons_zero, List.set_cons_succ]
  refine wpAnyL_take (i := 1) (v := ?_) rfl (by kernel_rfl) (by kernel_rfl) (by kernel_rfl) (by kernel_rfl) (fun _ _ _ h => h) (Or.inl ⟨by rfl, fun W hW => ?_⟩) hT ?_
  rotate_left 1
  · (obtain ⟨t0, t1, t2, t3⟩ := hW; go_simp; with_reducible rfl)
  simp only [Act.put, List.setIfInBounds_toArray, List.set_cons_zero, List.set_cons_succ]
  refine wpAnyL_take (i := 2) (v := ?_) rfl (by kernel_rfl) (by kernel_rfl) (by kernel_rfl) (by kernel_rfl) (fun _ _ _ h => h) (Or.inl ⟨by rfl, fun W hW => ?_⟩) hT ?_
  rotate_left 1
  · (obtain ⟨t0, t1, t2, t3⟩ := hW; go_simp; with_reducible rfl)
  simp only [Act.put, List.setIfInBounds_toArray, List.set_cons_zero, List.set_cons_succ]
  refine wpAnyL_take (i := 3) (v := ?_) rfl (by kernel_rfl) (by kernel_rfl) (by kernel_rfl) (by kernel_rfl) (fun _ _ _ h => h) (Or.inl ⟨by rfl, fun W hW => ?_⟩) hT ?_
  rotate_left 1
  · (obtain ⟨t0, t1, t2, t3⟩ := hW; go_simp; with_reducible rfl)
  simp only [Act.put, List.setIfInBounds_toArray, List.set_cons_zero, List.set_cons_succ]
  refine wpAnyL_take (i := 4) (v := ?_) rfl (by kernel_rfl) (by kernel_rfl) (by kernel_rfl) (by kernel_rfl) (fun _ _ _ h => h) (Or.inl ⟨by rfl, fun W hW => ?_⟩) hT ?_
  rotate_left 1
  · (obtain ⟨t0, t1, t2, t3⟩ := hW; go_simp; with_reducible rfl)
  simp only [Act.put, List.setIfInBounds_toArray, List.set_cons_zero, List.set_cons_succ]
  refine wpAnyL_take (i := 5) (v := ?_) rfl (by kernel_rfl) (by kernel_rfl) (by kernel_rfl) (by kernel_rfl) (fun _ _ _ h => h) (Or.inl ⟨by rfl, fun W hW => ?_⟩) hT ?_
  rotate_left 1
  · (obtain ⟨t0, t1, t2, t3⟩ := hW; go_simp; with_reducible rfl)
  simp only [Act.put, List.setIfInBounds_toArray, List.set_cons_zero, List.set_cons_succ]
  refine wpAnyL_take (i := 6) (v := ?_) rfl (by kernel_rfl) (by kernel_rfl) (by kernel_rfl) (by kernel_rfl) (fun _ _ _ h => h) (Or.inl ⟨by rfl, fun W hW => ?_⟩) hT ?_
  rotate_left 1
  · (obtain ⟨t0, t1, t2, t3⟩ := hW; go_simp; with_reducible rfl)
  simp only [Act.put, List.setIfInBounds_toArray, List.set_cons_zero, List.set_cons_succ]
  refine wpAnyL_one (i := 7) (by kernel_rfl) rfl fun K7 hK7 => ?_
  go_simp
  go_at_call 26
  refine (unhide Hw).mono ?_
  rintro e w5 ⟨rfl, C5, L5, hS5⟩
  have S5 : Hid (VStep w4 w5 P.v P.Cv P.Lv C5 L5 R.1) := ⟨hS5.at', ⟨hS5.kept.os, hS5.kept.tape, hS5.kept.output, hS5.kept.size, hS5.kept.block⟩, hS5.new⟩
  have h5 := hide (((unhide H).below (unhide B4)).step (unhide S5))
  have hnf : ∀ k, w.heap.size ≤ k → ¬ foot P.v P.Cv P.Lv k := fun k hk hf => by have := unhide Hft k hf; omega
  have X5 := hide ((unhide S5).kept.blk (hnf _ (Nat.le_refl _)) (unhide X4))
  have D5 := hide ((unhide S5).kept.blk (hnf _ (Nat.le_of_lt hs3)) (unhide D4))
  have F5 := hide ((unhide F4).kept (unhide S5).kept (hnf _ hfs) (fun g hg => hnf g (unhide Hfr g hg)) (fun g hg => by obtain ⟨cs, fr', hb⟩ := row_blk (unhide F4).rowR hg; exact ((unhide H).below (unhide B4)).footKey hb (by decide) (by decide) (by decide)))
  have c05 := (unhide h5).c0
  have cn5 : w5.cell? ⟨w.heap.size, 1, none⟩ = some (.int .i64 o.n) := (cell_blk (unhide X5) 1).trans rfl
  have l15 : HasAt w5 c 0 64 := box_has (unhide D5) hdl
  have l25 : cellsAt w5 c 0 64 = cv data := box_cells (unhide D5) hdl
  have hT5 : WriteT p w.heap.size c P.d o.n data w5 := ⟨c05, cn5, l15, l25⟩
  clear hS5 hnf
  refine hK7 _ _ (Or.inr hT5) ?_
  try simp only [Act.put, List.setIfInBounds_toArray, List.set_cons_zero, List.set_cons_succ]
  refine wpAnyL_one (i := 8) (by kernel_rfl) rfl fun K8 hK8 => ?_
  go_simp
  refine hK8 _ _ (Or.inl rfl) ?_
  try simp only [Act.put, List.setIfInBounds_toArray, List.set_cons_zero, List.set_cons_succ]
  refine wpAnyL_done (by kernel_rfl) ?_ _
  clear hT hT5 l1 l2 cn c0 Hw X4 D4 F4
  have hD0 := (unhide HS).disk
  have hsplit : (((R.2 : Nat) : Int) == 5) = false ∧ (refWriteR P.D o.n data).2 = R.2 ∧ Stands { P with Cv := C5, Lv := L5, V := R.1, D := (refWriteR P.D o.n data).1 } N0 E ∨ (blockB o.n = true ∧ R = (P.V, 5) ∧ ∀ R : FileR, R.L = P.V.C → R.roots = rsOf N0 E → freeOf P.V.C < needs R o.n.toNat) := by
    rcases unhide HC with ⟨hb, e1⟩ | ⟨hb, e2, hW⟩ | hfull
    · left
      have hrf : refWriteR P.D o.n data = (P.D, 1) := by unfold refWriteR; rw [if_neg (by rw [hb]; decide)]
      rw [e1, hrf]
      exact ⟨rfl, rfl, (unhide HS).vol, (unhide HS).disk, (unhide HS).exact⟩
    · left
      rw [setD_ref _ _ _ hb, e2]
      exact ⟨rfl, rfl, hW.vol, by rw [hW.holds, hD0], fun hx => hW.exact ((unhide HS).exact hx)⟩
    · exact Or.inr hfull
  clear HC
  rcases hsplit with ⟨hne, hsame, hst'⟩ | ⟨hb, e1, hfull⟩
  · have Hst := hide hst'
    have Hsame := hide hsame
    have c15 := (unhide h5).c1
    clear hst' hsame
    go_wp2_with fail
    have hTb : WriteT2 p w.heap.size c P.y o.n data w5.drew := ⟨c15, cn5, l15, l25⟩
    have hylt := (unhide H).ref.lt
    have hplt := (unhide H).lt _ (unhide H).inP
    have Hnum := hide (fun W => num_any ((R.2 : Nat) : Int) W)
    have Hwr := hide (refWrite_any w5.drew P.y P.Pv P.D ((unhide h5).ref.below ((Below.refl _ w5).drew)) o.n data hdl)
    have Hrest := hide (fun (w6 : World) (hr : DiskAt w6 P.y P.Pv (refWriteR P.D o.n data).1) (hk : Kept (fun x => x = P.y) w5.drew w6) => Went.did (w6 := w6) (D' := (refWriteR P.D o.n data).1) (unhide H) (unhide B4) (unhide S5) ⟨hk.os, hk.tape, hk.output, hk.size, hk.block⟩ hr (fun g hg => Or.inl ((unhide H).inV g (Or.inl hg))) (by omega) (by omega))
    have hpy := (unhide h5).footNotY
    have hp5 : p < w5.heap.size := Nat.lt_of_lt_of_le hplt (Nat.le_trans (unhide B4).size (unhide S5).kept.size)
    have HT6 := hide (fun (w6 : World) (hk : Kept (fun x => x = P.y) w5.drew w6) => (show WriteT2 p w.heap.size c P.y o.n data w6 from
      ⟨(World.cell?_of_block (hk.block p hp5 hpy)).trans c15, (cell_blk (hk.blk (show ¬ w.heap.size = P.y by omega) (unhide X5)) 1).trans rfl, box_has (hk.blk (show ¬ c = P.y by omega) (unhide D5)) hdl, box_cells (hk.blk (show ¬ c = P.y by omega) (unhide D5)) hdl⟩))
    clear hpy hp5
    refine wp_region_L (WriteT2 p w.heap.size c P.y o.n data) 11 (by kernel_rfl) ?_
    refine wpAnyL_take (i := 0) (v := ?_) rfl (by kernel_rfl) (by kernel_rfl) (by kernel_rfl) (by kernel_rfl) (fun _ _ _ h => h) (Or.inl ⟨by rfl, fun W hW => ?_⟩) hTb ?_
    rotate_left 1
    · (obtain ⟨t0, t1, t2, t3⟩ := hW; go_simp; with_reducible rfl)
    simp only [Act.put, List.setIfInBounds_toArray, List.set_cons_zero, List.set_cons_succ]
    refine wpAnyL_take (i := 2) (v := ?_) rfl (by kernel_rfl) (by kernel_rfl) (by kernel_rfl) (by kernel_rfl) (fun _ _ _ h => h) (Or.inl ⟨by rfl, fun W hW => ?_⟩) hTb ?_
    rotate_left 1
    · (obtain ⟨t0, t1, t2, t3⟩ := hW; go_simp; with_reducible rfl)
    simp only [Act.put, List.setIfInBounds_toArray, List.set_cons_zero, List.set_cons_succ]
    refine wpAnyL_take (i := 3) (v := ?_) rfl (by kernel_rfl) (by kernel_rfl) (by kernel_rfl) (by kernel_rfl) (fun _ _ _ h => h) (Or.inl ⟨by rfl, fun W hW => ?_⟩) hTb ?_
    rotate_left 1
    · (obtain ⟨t0, t1, t2, t3⟩ := hW; go_simp; with_reducible rfl)
    simp only [Act.put, List.setIfInBounds_toArray, List.set_cons_zero, List.set_cons_succ]
    refine wpAnyL_take (i := 4) (v := ?_) rfl (by kernel_rfl) (by kernel_rfl) (by kernel_rfl) (by kernel_rfl) (fun _ _ _ h => h) (Or.inl ⟨by rfl, fun W hW => ?_⟩) hTb ?_
    rotate_left 1
    · (obtain ⟨t0, t1, t2, t3⟩ := hW; go_simp; with_reducible rfl)
    simp only [Act.put, List.setIfInBounds_toArray, List.set_cons_zero, List.set_cons_succ]
    refine wpAnyL_take (i := 5) (v := ?_) rfl (by kernel_rfl) (by kernel_rfl) (by kernel_rfl) (by kernel_rfl) (fun _ _ _ h => h) (Or.inl ⟨by rfl, fun W hW => ?_⟩) hTb ?_
    rotate_left 1
    · (obtain ⟨t0, t1, t2, t3⟩ := hW; go_simp; with_reducible rfl)
    simp only [Act.put, List.setIfInBounds_toArray, List.set_cons_zero, List.set_cons_succ]
    refine wpAnyL_take (i := 6) (v := ?_) rfl (by kernel_rfl) (by kernel_rfl) (by kernel_rfl) (by kernel_rfl) (fun _ _ _ h => h) (Or.inl ⟨by rfl, fun W hW => ?_⟩) hTb ?_
    rotate_left 1
    · (obtain ⟨t0, t1, t2, t3⟩ := hW; go_simp; with_reducible rfl)
    simp only [Act.put, List.setIfInBounds_toArray, List.set_cons_zero, List.set_cons_succ]
    refine wpAnyL_take (i := 7) (v := ?_) rfl (by kernel_rfl) (by kernel_rfl) (by kernel_rfl) (by kernel_rfl) (fun _ _ _ h => h) (Or.inl ⟨by rfl, fun W hW => ?_⟩) hTb ?_
    rotate_left 1
    · (obtain ⟨t0, t1, t2, t3⟩ := hW; go_simp; with_reducible rfl)
    simp only [Act.put, List.setIfInBounds_toArray, List.set_cons_zero, List.set_cons_succ]
    refine wpAnyL_take (i := 8) (v := ?_) rfl (by kernel_rfl) (by kernel_rfl) (by kernel_rfl) (by kernel_rfl) (fun _ _ _ h => h) (Or.inl ⟨by rfl, fun W hW => ?_⟩) hTb ?_
    rotate_left 1
    · (obtain ⟨t0, t1, t2, t3⟩ := hW; go_simp; with_reducible rfl)
    simp only [Act.put, List.setIfInBounds_toArray, List.set_cons_zero, List.set_cons_succ]
    refine wpAnyL_one (i := 1) (by kernel_rfl) rfl fun K1 hK1 => ?_
    go_simp
    go_at_call 64
    refine (unhide Hnum _).mono ?_
    rintro e w5' ⟨rfl, rfl⟩
    refine hK1 _ _ (Or.inr hTb) ?_
    try simp only [Act.put, List.setIfInBounds_toArray, List.set_cons_zero, List.set_cons_succ]
    refine wpAnyL_one (i := 9) (by kernel_rfl) rfl fun K9 hK9 => ?_
    go_simp
    go_at_call 118
    refine (unhide Hwr).mono ?_
    rintro e w6 ⟨rfl, hr6, hk6⟩
    have HP6 := hide (unhide Hrest w6 hr6 hk6)
    have hT6 := unhide HT6 w6 hk6
    rw [unhide Hsame]
    clear hr6 hk6
    refine hK9 _ _ (Or.inr hT6) ?_
    try simp only [Act.put, List.setIfInBounds_toArray, List.set_cons_zero, List.set_cons_succ]
    refine wpAnyL_take (i := 10) (v := ?_) rfl (by kernel_rfl) (by kernel_rfl) (by kernel_rfl) (by kernel_rfl) (fun _ _ _ h => h) (Or.inl ⟨by rfl, fun W hW => ?_⟩) hT6 ?_
    rotate_left 1
    · (obtain ⟨t0, t1, t2, t3⟩ := hW; go_simp; with_reducible rfl)
    simp only [Act.put, List.setIfInBounds_toArray, List.set_cons_zero, List.set_cons_succ]
    refine wpAnyL_one (i := 11) (by kernel_rfl) rfl fun K11 hK11 => ?_
    go_simp
    refine hK11 _ _ (Or.inl rfl) ?_
    try simp only [Act.put, List.setIfInBounds_toArray, List.set_cons_zero, List.set_cons_succ]
    refine wpAnyL_done (by kernel_rfl) ?_ _
    clear hTb hT6
    go_wp2
    go_ret
    exact ⟨rfl, _, unhide Hst, _, unhide HP6⟩
  · have e2 : R.2 = 5 := by rw [e1]
    have e3 : R.1 = P.V := by rw [e1]
    have hbl := blockB_lt hb
    have hn0 : 0 ≤ o.n := by unfold blockB at hb; simp at hb; omega
    obtain ⟨nb, hnb⟩ := Int.eq_ofNat_of_zero_le hn0
    have hfu := hfull (look P.V.C) k2 k3
    rw [hnb, Int.toNat_natCast] at hfu hbl
    rw [e3] at S5 h5
    rw [e2]
    have hWent := Went.did (unhide H) (unhide B4) (unhide S5) (Kept.refl _ w5) (unhide h5).ref (fun g hg => Or.inl ((unhide H).inV g (Or.inl hg))) (Nat.le_add_right _ _) (Nat.le_refl _)
    have HWent := hide hWent
    have Hst : Hid (Stands { P with Cv := C5, Lv := L5, V := P.V, D := P.D } N0 E) := ⟨(unhide HS).vol, (unhide HS).disk, (unhide HS).exact⟩
    have hrt : rootOf (look P.V.C) 0 = ⟨N0, 0, []⟩ := by unfold rootOf; rw [k3]; rfl
    have Hne := hide (fun (W : World) (hB : Below w5.heap.size w5 W) => needs_any W f fl fr (look P.V.C) ((unhide F5).below hB) nb hbl (by rw [k3]; simp [rsOf]) (by rw [hrt, k2]; exact hin.at') (by
      rw [hrt, k2]
      by_cases hz : num (cl P.V.C N0) (2 * (nb / 32)) = 0
      · rw [hz]; omega
      · exact hin.second (nb / 32) (by omega) hz) (by rw [k2]; exact hmost))
    have Hfe := hide (fun (W : World) (hB : Below w5.heap.size w5 W) => free_any W f fl fr (look P.V.C) ((unhide F5).below hB) (by rw [k2]; exact hmost) (by rw [k2]; omega))
    rw [hnb] at cn5 hb
    have Hib := hide (fun W => isBlock_any (nb : Int) W)
    clear hnb hn0
    have cb5 := (unhide F5).cBad
    rw [k1] at cb5
    rw [k2] at Hfe
    have hgt : decide ((freeOf P.V.C : Int) < (needs (look P.V.C) nb : Int)) = true := by simp; exact hfu
    clear hWent e1 e2 e3 hfull hrt
    go_wp2_with fail
    refine (unhide Hib _).mono ?_
    rintro e w6 ⟨rfl, rfl⟩
    rw [hb]
    go_wp2_with fail
    refine (unhide Hne _ (Below.refl _ _)).mono ?_
    rintro e w7 ⟨rfl, b7⟩
    have B7 := hide b7
    clear b7
    go_wp2_with fail
    refine (unhide Hfe _ (unhide B7)).mono ?_
    rintro e w8 ⟨rfl, rfl⟩
    generalize freeOf P.V.C = fr0 at *
    generalize needs (look P.V.C) nb = ne0 at *
    go_wp2
    go_ret
    have hWent := unhide HWent
    exact ⟨rfl, _, unhide Hst, _, ⟨hWent.at'.below (unhide B7), hWent.base, hWent.marks, hWent.ex, hWent.log, hWent.logp, hWent.kept.trans (Kept.of_below (unhide B7)), hWent.new⟩⟩
end Go.Proofs.YtknjjjenklfeoaaGreatDoor
