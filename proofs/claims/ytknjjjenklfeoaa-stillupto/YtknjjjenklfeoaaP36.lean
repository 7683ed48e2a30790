import Derived.Test.YtknjjjenklfeoaaP33
import Derived.Test.YtknjjjenklfeoaaP35
/-
  Plain: a disk that keeps room for what Still and Spared ask.
-/
namespace Go.Proofs.Ytknjjjenklfeoaa
section
variable {V : VolR} {N0 : Nat} {E : List EntR} {K : Nat} {data : Clus}
/-- A disk that New has made: exact, no count above K. -/
structure Held (V : VolR) (N0 : Nat) (E : List EntR) (K : Nat) : Prop where
  vol : Vol [] V N0 E
  exact : ExactS V.C (rsOf N0 E)
  cnt : ∀ m, m < 256 → countOf V.C m ≤ K
theorem Held.write (h : Held V N0 E K) (hK : 1 ≤ K) (n : Nat) (hn : n < 64) (hd : data.length = 64) :
    Held (writeV V n data).1 N0 E K ∧ ((writeV V n data).2 = 0 ∧ dskOf (writeV V n data).1.C N0 E = setD (dskOf V.C N0 E) n data ∨ (writeV V n data).2 = 5 ∧ (writeV V n data).1 = V) := by
  obtain ⟨a, c, hc⟩ := h.vol.writeCnt (data := data) (n : Int) hd
  have hcnt : ∀ m, m < 256 → countOf (writeV V n data).1.C m ≤ K := fun m hm => by
    have h1 := hc m hm
    have h2 := h.cnt m hm
    split at h1 <;> omega
  have hb : blockB (n : Int) = true := by unfold blockB; simp; omega
  rcases h.vol.write (data := data) (n : Int) hd with ⟨h1, _⟩ | ⟨_, h2, hw⟩ | ⟨_, h2, _⟩
  · rw [hb] at h1; cases h1
  · rw [Int.toNat_natCast] at hw
    exact ⟨⟨hw.vol, hw.exact h.exact, hcnt⟩, Or.inl ⟨h2, hw.holds⟩⟩
  · rw [h2]
    exact ⟨h, Or.inr ⟨rfl, rfl⟩⟩
theorem Held.few (h : Held V N0 E K) (u : Nat) : useOf V.C (rsOf N0 E) u ≤ K ∨ 256 ≤ u := by
  by_cases hu : u < 256
  · have h1 := h.exact.eq u hu
    have h2 := h.cnt u hu
    left; omega
  · right; omega
theorem Held.uses (h : Held V N0 E K) (hK : K ≤ 188) (u : Nat) : useOf V.C (rsOf N0 E) u ≤ 188 := by
  rcases h.few u with x | x
  · omega
  · by_cases hz : useOf V.C (rsOf N0 E) u = 0
    · omega
    · exfalso
      rw [← h.vol.heldSum] at hz
      have hm : u ∈ (firstsOf V).flatMap (heldAll V.C) := List.count_pos_iff.1 (by omega)
      obtain ⟨f, hf, hu⟩ := List.mem_flatMap.1 hm
      rw [h.vol.firsts] at hf
      obtain ⟨r, hr, rfl⟩ := List.mem_map.1 hf
      have := (h.vol.sound.held_lt hr u hu).2
      have := h.vol.sound.len
      omega
theorem Held.take (h : Held V N0 E K) (hK : K ≤ 188) (h1 : 1 ≤ K) (hE : E.length ≤ 2) (s : ByteArray) (hs : (refTakeR (dskOf V.C N0 E) s).2 = 0) :
    (takeR V s).2 = 0 ∧ (takeR V s).1.L.length ≤ V.L.length + 100 ∧ V.L.length ≤ (takeR V s).1.L.length ∧ ∃ E', Held (takeR V s).1 N0 E' (2 * K) ∧ dskOf (takeR V s).1.C N0 E' = (refTakeR (dskOf V.C N0 E) s).1 ∧ E'.length ≤ E.length + 1 := by
  have hr := h.vol.hasRoom h.exact hE (h.uses hK) h.vol.roots0
  rcases h.vol.takeCases s with ⟨c, hc, _, e⟩ | ⟨_, hno, _⟩ | ⟨_, _, h0, l1, l2, E', hcm⟩
  · rw [e] at hs; exact absurd hs hc
  · rw [hr] at hno; cases hno
  · obtain ⟨n, hn, hz, hcn⟩ := h.vol.takeCnt s h0
    refine ⟨h0, l1, l2, E', ⟨hcm.vol, hcm.exact h.exact, fun m hm => ?_⟩, hcm.holds, ?_⟩
    · rw [hcn m hm]
      have a1 := h.cnt m hm
      have a2 := h.vol.told_le m hm
      split <;> omega
    · have e1 := congrArg (fun d => d.L.length) hcm.holds
      simp only [dsk_len] at e1
      rw [e1]
      unfold refTakeR
      repeat' split
      all_goals simp [dsk_len]
theorem Held.returns (h : Held V N0 E K) (hK : K ≤ 188) (hE : E.length ≤ 2) (s : ByteArray) (hs : (refReturnR (dskOf V.C N0 E) s).2 = 0) :
    (returnR V s).2 = 0 ∧ (returnR V s).1.L.length ≤ V.L.length + 100 ∧ V.L.length ≤ (returnR V s).1.L.length ∧ ∃ N1, Vol [] (returnR V s).1 N1 E ∧ ExactS (returnR V s).1.C (rsOf N1 E) ∧ dskOf (returnR V s).1.C N1 E = (refReturnR (dskOf V.C N0 E) s).1 := by
  rcases h.vol.returnCases s with ⟨c, hc, _, e⟩ | ⟨_, i, hi, _, ⟨hno, _⟩ | ⟨_, h0, l1, l2, N1, hcm⟩⟩
  · rw [e] at hs; exact absurd hs hc
  · rw [h.vol.hasRoom h.exact hE (h.uses hK) (h.vol.rootsE hi)] at hno; cases hno
  · exact ⟨h0, l1, l2, N1, hcm.vol, hcm.exact h.exact, hcm.holds⟩
end
end Go.Proofs.Ytknjjjenklfeoaa

/-
  vellumkeep: holds: does the disk hold that?
-/
namespace Go.Proofs.Ytknjjjenklfeoaa
open Go.RowKit
attribute [local go_sem ↓] loadVar_clus storeVar_clus zeroValue_clus equalIn_clus
attribute [local go_sem] run_loadClus run_storeClus run_zeroClus run_storeClus_new run_loadClus_new zc_length HasAt_drew cellsAt_drew
/-- What all blocks hold, in a box. -/
structure ContAt (w : World) (b : Nat) (C : List Clus) : Prop where
  blk : w.heap[b]? = some (.cells (flatC C).toArray 28 (0, 0))
  cont : Cont C
theorem ContAt.range {w : World} {b : Nat} {C : List Clus} (h : ContAt w b C) (k : Nat) (hk : k < 64) : w.rangeAt b (k * 64) (cv (cl C k)) := fun j v hv => by
  have hl := cl_length h.cont.all (k := k) (by have := h.cont.len; omega)
  have hj := (List.getElem?_eq_some_iff.1 hv).1
  rw [cv_length, hl] at hj
  rw [cell_blk h.blk, List.getElem?_toArray, flatC_range C h.cont.all k (by have := h.cont.len; omega) j hj]
  exact hv
theorem ContAt.below {w w' : World} {b : Nat} {C : List Clus} (h : ContAt w b C) (hb : Below w.heap.size w w') : ContAt w' b C := ⟨(hb.block _ (blk_lt h.blk)).trans h.blk, h.cont⟩
theorem ContAt.kept {w w' : World} {S : Nat → Prop} {b : Nat} {C : List Clus} (h : ContAt w b C) (hk : Kept S w w') (hn : ¬ S b) : ContAt w' b C := ⟨hk.blk hn h.blk, h.cont⟩

set_option maxHeartbeats 2000000 in
set_option maxRecDepth 100000 in
theorem holds_any (w : World) (d v bc : Nat) (Cv Lv : Value) (base : List Clus) (V : VolR) (N0 : Nat) (E : List EntR) (h : DskAt w d v Cv Lv V) (hv : Vol base V N0 E) (hc : ContAt w bc (contentOf V.C N0)) :
    Calls Try.prog 8 #[.pointer (some ⟨d, 0, none⟩), .pointer (some ⟨bc, 0, none⟩)] w fun e w' => e = .returned (.bool true) ∧ Below w.heap.size w w' := by
  have h7 := hv.file.seven
  have hr0 : (⟨N0, 0, []⟩ : RootR) ∈ rsOf N0 E := by simp [rsOf]
  have hin : InFile V.C (num (cl V.C 0) 6) := by rw [hv.file.num6]; exact hv.sound.inFile hr0
  have HR := hide (fun (W : World) (hB : Below w.heap.size w W) (n : Int) => diskRead_any W d v Cv Lv V (h.below hB) n (by omega) hin)
  have hcl : ∀ k : Nat, k < 64 → blkRead V.C (num (cl V.C 0) 6) (k : Int) = (cl (contentOf V.C N0) k, 0) := fun k hk => by
    have hb : blockB (k : Int) = true := by unfold blockB; simp; omega
    rw [← read_same hv]
    unfold readR
    rw [if_pos hb, Int.toNat_natCast, dskOf_C]
  have Hcl := hide hcl
  have HC := hide hc
  clear h hc hcl
  generalize contentOf V.C N0 = CC at *
  go_enter Try.func8, Try.ntmps8
  go_wp2
  go_loopw [5] (fun i w' => ∃ k : Nat, k ≤ 64 ∧ i = .int .i64 k ∧ Below w.heap.size w w') (fun i _ => 64 - (intOf i).toNat)
  case atStart => exact ⟨0, by omega, rfl, Below.refl _ _⟩
  case round =>
    obtain ⟨k, hk, rfl, hb⟩ := hrel
    by_cases hlt : k < 64
    · have hki : (k : Int) < 64 := by omega
      have hr := unhide HR wr hb (k : Int)
      rw [unhide Hcl k hlt] at hr
      have Hr := hide hr
      have hxl := cl_length (unhide HC).cont.all (k := k) (by have := (unhide HC).cont.len; omega)
      have Hb := hide hb
      clear hr hb
      go_wp2_with fail
      refine (unhide Hr).mono ?_
      rintro e w1 ⟨rfl, b1⟩
      have B2 := ((unhide Hb).trans (b1.mono (unhide Hb).size)).alloc (Nat.le_trans (unhide Hb).size b1.size) (.cells (cv (cl CC k)).toArray 26)
      have rg := ((unhide HC).below B2).range k hlt
      have l1 := hasAt_of_range (n := 64) rg (by rw [cv_length, hxl])
      have l2 := cellsAt_of_range (n := 64) rg (by rw [cv_length, hxl])
      have l3 := box_has (heap_alloc_new w1 (.cells (cv (cl CC k)).toArray 26)) hxl
      have l4 := box_cells (heap_alloc_new w1 (.cells (cv (cl CC k)).toArray 26)) hxl
      have he : ∀ w, (eqClus (.agg (cv (cl CC k)).toArray) (.agg (cv (cl CC k)).toArray)).run Try.prog w = .ok true w := fun w => by rw [run_eqClus hxl hxl, decide_eq_true rfl]
      have B2 := hide B2
      clear rg b1 Hr
      generalize cl CC k = x at *
      generalize hW2 : w1.alloc (.cells (cv x).toArray 26) = W2 at *
      go_wp2
      clear hW2
      have m1 : ∀ n, HasAt (W2.drewN n) bc (k * 64) 64 := fun _ => l1
      have m2 : ∀ n, cellsAt (W2.drewN n) bc (k * 64) 64 = cv x := fun _ => l2
      have m3 : ∀ n, HasAt (W2.drewN n) w1.heap.size 0 64 := fun _ => l3
      have m4 : ∀ n, cellsAt (W2.drewN n) w1.heap.size 0 64 = cv x := fun _ => l4
      go_quiet (fail)
      go_wp2
      go_roundw
      case rel => exact ⟨k + 1, by omega, by go_num, (unhide B2).trans ((((Kept.refl (fun _ => False) W2).drewN nq).below).mono (unhide B2).size)⟩
      case measure => simp [intOf]; omega
    · have hki : ¬ (k : Int) < 64 := by omega
      have Hb := hide hb
      clear hb
      go_wp2
      go_ret
      exact ⟨rfl, unhide Hb⟩
end Go.Proofs.Ytknjjjenklfeoaa

/-
  vellumkeep: holdsOf: does a picture hold that?
-/
namespace Go.Proofs.Ytknjjjenklfeoaa
open Go.RowKit
attribute [local go_sem ↓] loadVar_clus storeVar_clus zeroValue_clus equalIn_clus
attribute [local go_sem] run_loadClus run_storeClus run_zeroClus run_storeClus_new run_loadClus_new zc_length HasAt_drew cellsAt_drew
set_option maxHeartbeats 2000000 in
set_option maxRecDepth 100000 in
theorem holdsOf_any (w : World) (d v bc : Nat) (Cv Lv : Value) (base : List Clus) (V : VolR) (N0 : Nat) (E : List EntR) (h : DskAt w d v Cv Lv V) (hv : Vol base V N0 E) (s : ByteArray) (hs : s.size ≤ maxLen) (CC : List Clus) (hc : ContAt w bc CC) (hcl : ∀ k : Nat, k < 64 → readOfR V s k = (cl CC k, 0)) :
    Calls Try.prog 9 #[.pointer (some ⟨d, 0, none⟩), .string s, .pointer (some ⟨bc, 0, none⟩)] w fun e w' => e = .returned (.bool true) ∧ Below w.heap.size w w' := by
  have h7 := hv.file.seven
  have hin := hv.inEnts
  have HR := hide (fun (W : World) (hB : Below w.heap.size w W) (n : Int) => diskReadOf_any W d v Cv Lv V (h.below hB) (by omega) s hs n hin)
  have Hcl := hide hcl
  have HC := hide hc
  clear h hc hcl
  go_enter Try.func9, Try.ntmps9
  go_wp2
  go_loopw [7] (fun i w' => ∃ k : Nat, k ≤ 64 ∧ i = .int .i64 k ∧ Below w.heap.size w w') (fun i _ => 64 - (intOf i).toNat)
  case atStart => exact ⟨0, by omega, rfl, Below.refl _ _⟩
  case round =>
    obtain ⟨k, hk, rfl, hb⟩ := hrel
    by_cases hlt : k < 64
    · have hki : (k : Int) < 64 := by omega
      have hr := unhide HR wr hb (k : Int)
      rw [unhide Hcl k hlt] at hr
      have Hr := hide hr
      have hxl := cl_length (unhide HC).cont.all (k := k) (by have := (unhide HC).cont.len; omega)
      have Hb := hide hb
      clear hr hb
      go_wp2_with fail
      refine (unhide Hr).mono ?_
      rintro e w1 ⟨rfl, b1⟩
      have B2 := ((unhide Hb).trans (b1.mono (unhide Hb).size)).alloc (Nat.le_trans (unhide Hb).size b1.size) (.cells (cv (cl CC k)).toArray 26)
      have rg := ((unhide HC).below B2).range k hlt
      have l1 := hasAt_of_range (n := 64) rg (by rw [cv_length, hxl])
      have l2 := cellsAt_of_range (n := 64) rg (by rw [cv_length, hxl])
      have l3 := box_has (heap_alloc_new w1 (.cells (cv (cl CC k)).toArray 26)) hxl
      have l4 := box_cells (heap_alloc_new w1 (.cells (cv (cl CC k)).toArray 26)) hxl
      have he : ∀ w, (eqClus (.agg (cv (cl CC k)).toArray) (.agg (cv (cl CC k)).toArray)).run Try.prog w = .ok true w := fun w => by rw [run_eqClus hxl hxl, decide_eq_true rfl]
      have B2 := hide B2
      clear rg b1 Hr
      generalize cl CC k = x at *
      generalize hW2 : w1.alloc (.cells (cv x).toArray 26) = W2 at *
      go_wp2
      clear hW2
      have m1 : ∀ n, HasAt (W2.drewN n) bc (k * 64) 64 := fun _ => l1
      have m2 : ∀ n, cellsAt (W2.drewN n) bc (k * 64) 64 = cv x := fun _ => l2
      have m3 : ∀ n, HasAt (W2.drewN n) w1.heap.size 0 64 := fun _ => l3
      have m4 : ∀ n, cellsAt (W2.drewN n) w1.heap.size 0 64 = cv x := fun _ => l4
      go_quiet (fail)
      go_wp2
      go_roundw
      case rel => exact ⟨k + 1, by omega, by go_num, (unhide B2).trans ((((Kept.refl (fun _ => False) W2).drewN nq).below).mono (unhide B2).size)⟩
      case measure => simp [intOf]; omega
    · have hki : ¬ (k : Int) < 64 := by omega
      have Hb := hide hb
      clear hb
      go_wp2
      go_ret
      exact ⟨rfl, unhide Hb⟩
end Go.Proofs.Ytknjjjenklfeoaa

/-
  vellumkeep: written: steps are written.
-/
namespace Go.Proofs.Ytknjjjenklfeoaa
open Go.RowKit
attribute [local go_sem ↓] loadVar_clus storeVar_clus zeroValue_clus equalIn_clus
attribute [local go_sem] run_loadClus run_storeClus run_zeroClus run_storeClus_new run_loadClus_new zc_length HasAt_drew cellsAt_drew
structure StepR where
  block : Int
  text : ByteArray
def stepCells (s : StepR) : List Value := [.int .i64 s.block, .string s.text]
/-- Steps lie behind a slice. -/
structure KRow (w : World) (a : Option Addr) (n : Nat) (st : Nat → StepR) : Prop where
  some : 0 < n → ∃ g o, a = some ⟨g, o, none⟩ ∧ g < w.heap.size ∧ ∀ i, i < n → w.rangeAt g (o + i * 2) (stepCells (st i))
  fits : ∀ i, i < n → (st i).text.size ≤ maxLen ∧ -9223372036854775808 ≤ (st i).block ∧ (st i).block ≤ 9223372036854775807
theorem VolAt.footKey {w : World} {v : Nat} {Cv Lv : Value} {V : VolR} (h : VolAt w v Cv Lv V) {k : Nat} {cs : Array Value} {t : TypeId} {fr : Nat × Nat} (hb : w.heap[k]? = some (.cells cs t fr)) (h1 : t ≠ 73) (h2 : t ≠ 26) (h3 : t ≠ 116) : ¬ foot v Cv Lv k := by
  have ty : ∀ {cs' : Array Value} {t' : TypeId} {fr' : Nat × Nat}, w.heap[k]? = some (.cells cs' t' fr') → t = t' := fun hb' => by
    rw [hb] at hb'
    injection hb' with e
    injection e
  rintro (e | e | e)
  · exact h1 (ty (by rw [e]; exact h.blk))
  · obtain ⟨cs', fr', hb'⟩ := row_blk h.rowC e
    exact h2 (ty hb')
  · obtain ⟨cs', fr', hb'⟩ := row_blk h.rowL e
    exact h3 (ty hb')
/-- A disk and what it holds. -/
structure KAt (W0 W : World) (d v bc : Nat) (Cv Lv : Value) (V : VolR) (C : List Clus) : Prop where
  dsk : DskAt W d v Cv Lv V
  cont : ContAt W bc C
  below : Below W0.heap.size W0 W
  lo : ∀ k, dfoot d v Cv Lv k → W0.heap.size ≤ k
  bcl : W0.heap.size ≤ bc
theorem KAt.nofoot {W0 W : World} {d v bc : Nat} {Cv Lv : Value} {V : VolR} {C : List Clus} (h : KAt W0 W d v bc Cv Lv V C) : ¬ foot v Cv Lv bc := h.dsk.vol.footKey h.cont.blk (by decide) (by decide) (by decide)
theorem KAt.later {W0 W W' : World} {d v bc : Nat} {Cv Lv : Value} {V : VolR} {C : List Clus} (h : KAt W0 W d v bc Cv Lv V C) (hb : Below W.heap.size W W') : KAt W0 W' d v bc Cv Lv V C :=
  ⟨h.dsk.below hb, h.cont.below hb, h.below.trans (hb.mono h.below.size), h.lo, h.bcl⟩
theorem KAt.step {W0 W W' : World} {d v bc : Nat} {Cv Lv C1 L1 : Value} {V V' : VolR} {C : List Clus} (h : KAt W0 W d v bc Cv Lv V C) (hs : VStep W W' v Cv Lv C1 L1 V') : KAt W0 W' d v bc C1 L1 V' C := by
  refine ⟨h.dsk.step hs, h.cont.kept hs.kept h.nofoot, ?_, ?_, h.bcl⟩
  · exact ⟨hs.kept.os.trans h.below.os, hs.kept.tape.trans h.below.tape, hs.kept.output.trans h.below.output, Nat.le_trans h.below.size hs.kept.size, fun i hi => by
      rw [hs.kept.block i (Nat.lt_of_lt_of_le hi h.below.size) (fun x => by have := h.lo i (Or.inr x); omega)]; exact h.below.block i hi⟩
  · rintro k (e | e)
    · exact h.lo k (Or.inl e)
    · rcases hs.new k e with x | x
      · exact h.lo k (Or.inr x)
      · have := h.below.size; omega
theorem KAt.put {W0 W : World} {d v bc : Nat} {Cv Lv : Value} {V : VolR} {C : List Clus} (h : KAt W0 W d v bc Cv Lv V C) (n : Nat) (hn : n < 64) (x : Clus) (hx : x.length = 64) : KAt W0 (W.setCells bc (n * 64) (cv x)) d v bc Cv Lv V (C.set n x) := by
  have hk := Kept.onlys W bc (n * 64) (cv x)
  have hne : ∀ k, dfoot d v Cv Lv k → ¬ k = bc := by
    rintro k (e | e) e2
    · subst e2
      have h1 := h.dsk.blk
      rw [← e, h.cont.blk] at h1
      injection h1 with h1
      injection h1 with _ h2
      exact absurd h2 (by decide)
    · exact h.nofoot (by rw [← e2]; exact e)
  refine ⟨h.dsk.kept hk hne, ⟨?_, ⟨?_, by rw [List.length_set]; exact h.cont.cont.len⟩⟩, ?_, h.lo, h.bcl⟩
  · rw [heap_setCells_same _ _ _ _ _ _ _ h.cont.blk, setList_flatC C h.cont.cont.all n (by have := h.cont.cont.len; omega) x hx]
  · intro y hy
    rcases List.mem_or_eq_of_mem_set hy with z | z
    · exact h.cont.cont.all y z
    · rw [z]; exact hx
  · exact ⟨hk.os.trans h.below.os, hk.tape.trans h.below.tape, hk.output.trans h.below.output, Nat.le_trans h.below.size hk.size, fun i hi => by
      rw [hk.block i (Nat.lt_of_lt_of_le hi h.below.size) (by have := h.bcl; omega)]; exact h.below.block i hi⟩
end Go.Proofs.Ytknjjjenklfeoaa

/-
  Plain: how many clusters are used behind a picture, and behind a write.
-/
namespace Go.Proofs.Ytknjjjenklfeoaa
section
variable {V V' : VolR} {N0 N1 : Nat} {E E' : List EntR} {data : Clus} {base base' : List Clus}
def cntB (V : VolR) (n : Nat) : Bool := decide (0 < countOf V.C n)
theorem cntTo_two {p q : Nat → Bool} (a c : Nat) : ∀ k, (∀ m, m < k → q m = true → p m = true ∨ m = a ∨ m = c) → cntTo q k ≤ cntTo p k + ((if a < k then 1 else 0) + (if c < k then 1 else 0))
  | 0, _ => Nat.zero_le _
  | k + 1, h => by
    have ih := cntTo_two a c k (fun m hm hq => h m (by omega) hq)
    have hk := h k (by omega)
    rw [cntTo, cntTo]
    have e1 : (if a < k then 1 else 0) ≤ (if a < k + 1 then 1 else 0) := by split <;> split <;> omega
    have e2 : (if c < k then 1 else 0) ≤ (if c < k + 1 then 1 else 0) := by split <;> split <;> omega
    cases hq : q k with
    | false => rw [if_neg (by decide)]; omega
    | true =>
      rw [if_pos rfl]
      rcases hk hq with x | x | x
      · rw [x, if_pos rfl]; omega
      · subst x
        rw [if_neg (Nat.lt_irrefl _)] at ih
        rw [if_pos (show k < k + 1 by omega)]
        omega
      · subst x
        rw [if_neg (Nat.lt_irrefl _)] at ih
        rw [if_pos (show k < k + 1 by omega)]
        omega
/-- A write costs two clusters at most. -/
theorem Held.writeUsed {K : Nat} (h : Held V N0 E K) (n : Nat) (hd : data.length = 64) : cntTo (cntB (writeV V n data).1) 256 ≤ cntTo (cntB V) 256 + 2 := by
  obtain ⟨a, c, hc⟩ := h.vol.writeCnt (data := data) (n : Int) hd
  have := cntTo_two (p := cntB V) (q := cntB (writeV V n data).1) a c 256 (fun m hm hq => by
    have h1 := hc m hm
    unfold cntB at hq ⊢
    have h2 := of_decide_eq_true hq
    by_cases e : m = a ∨ m = c
    · exact Or.inr e
    · rw [if_neg e] at h1
      exact Or.inl (decide_eq_true (by omega)))
  have e1 : (if a < 256 then 1 else 0) ≤ 1 := by split <;> omega
  have e2 : (if c < 256 then 1 else 0) ≤ 1 := by split <;> omega
  omega
end
end Go.Proofs.Ytknjjjenklfeoaa

/-
  vellumkeep: written: steps are written.
-/
namespace Go.Proofs.Ytknjjjenklfeoaa
open Go.RowKit
attribute [local go_sem ↓] loadVar_clus storeVar_clus zeroValue_clus equalIn_clus
attribute [local go_sem] run_loadClus run_storeClus run_zeroClus run_storeClus_new run_loadClus_new zc_length HasAt_drew cellsAt_drew
def BoxT (bx : Nat) (c : Clus) (w' : World) : Prop := HasAt w' bx 0 64 ∧ cellsAt w' bx 0 64 = cv c
/-- How far the steps have come. -/
structure Wr (W0 w W : World) (d v bc : Nat) (Cv Lv C1 L1 : Value) (V V' : VolR) (N0 : Nat) (E : List EntR) (K k : Nat) : Prop where
  at' : KAt W0 W d v bc C1 L1 V' (dskOf V'.C N0 E).C
  held : Held V' N0 E K
  pics : (dskOf V'.C N0 E).L = (dskOf V.C N0 E).L
  log : V'.L.length ≤ V.L.length + 60 * k
  kept : Kept (fun x => foot v Cv Lv x ∨ x = bc) w W
  new : ∀ x, foot v C1 L1 x → foot v Cv Lv x ∨ w.heap.size ≤ x
  used : cntTo (cntB V') 256 ≤ cntTo (cntB V) 256 + 2 * k

theorem Wr.lay {W0 w W W3 : World} {d v bc : Nat} {Cv Lv C1 L1 : Value} {V V' : VolR} {N0 : Nat} {E : List EntR} {K k : Nat} (h : Wr W0 w W d v bc Cv Lv C1 L1 V V' N0 E K k) (hb : Below W.heap.size W W3) : Wr W0 w W3 d v bc Cv Lv C1 L1 V V' N0 E K k :=
  ⟨h.at'.later hb, h.held, h.pics, h.log, h.kept.trans (Kept.of_below hb), h.new, h.used⟩
theorem Wr.did {W0 w W W4 : World} {d v bc : Nat} {Cv Lv C1 L1 C2 L2 : Value} {V V' : VolR} {N0 : Nat} {E : List EntR} {K k N : Nat} {data : Clus} (hK : 1 ≤ K) (h : Wr W0 w W d v bc Cv Lv C1 L1 V V' N0 E K k) (hN : N < 64) (hd : data.length = 64) (hs : VStep W W4 v C1 L1 C2 L2 (writeV V' N data).1) :
    ((writeV V' N data).2 = 0 ∧ Wr W0 w (W4.setCells bc (N * 64) (cv data)) d v bc Cv Lv C2 L2 V (writeV V' N data).1 N0 E K (k + 1)) ∨ ((writeV V' N data).2 = 5 ∧ Wr W0 w W4 d v bc Cv Lv C2 L2 V (writeV V' N data).1 N0 E K (k + 1)) := by
  obtain ⟨hh, hor⟩ := h.held.write hK N hN hd
  have hl := h.held.vol.write_lenL (N : Int) hd
  have hu := h.held.writeUsed N hd
  have hu0 := h.used
  have h4 := h.at'.step hs
  have hlog := h.log
  have kept4 : Kept (fun x => foot v Cv Lv x ∨ x = bc) w W4 := by
    refine ⟨hs.kept.os.trans h.kept.os, hs.kept.tape.trans h.kept.tape, hs.kept.output.trans h.kept.output, Nat.le_trans h.kept.size hs.kept.size, fun x hx hn => ?_⟩
    rw [hs.kept.block x (Nat.lt_of_lt_of_le hx h.kept.size) (fun hf => by
      rcases h.new x hf with y | y
      · exact hn (Or.inl y)
      · omega)]
    exact h.kept.block x hx hn
  have new4 : ∀ x, foot v C2 L2 x → foot v Cv Lv x ∨ w.heap.size ≤ x := fun x hx => by
    rcases hs.new x hx with y | y
    · exact h.new x y
    · have := h.kept.size; exact Or.inr (by omega)
  rcases hor with ⟨h0, e⟩ | ⟨h5, e⟩
  · left
    refine ⟨h0, ?_, hh, ?_, by omega, kept4.trans ((Kept.onlys W4 bc (N * 64) (cv data)).mono fun x e => Or.inr e), new4, by omega⟩
    · rw [e]; exact h4.put N hN data hd
    · rw [e]; exact h.pics
  · right
    rw [e] at h4 hh ⊢
    exact ⟨h5, h4, hh, h.pics, by omega, kept4, new4, by omega⟩

set_option linter.unusedSimpArgs false in
set_option maxHeartbeats 2000000 in
set_option maxRecDepth 100000 in
theorem written_any (W0 w : World) (d v bc : Nat) (Cv Lv : Value) (V : VolR) (N0 : Nat) (E : List EntR) (K : Nat) (hK : 1 ≤ K) (h : KAt W0 w d v bc Cv Lv V (dskOf V.C N0 E).C) (hh : Held V N0 E K)
    (a : Option Addr) (n cap : Nat) (st : Nat → StepR) (hs : KRow W0 a n st) (hn : n ≤ 1048576) (hL : V.L.length ≤ 200000000) :
    Calls Try.prog 6 #[.pointer (some ⟨d, 0, none⟩), .pointer (some ⟨bc, 0, none⟩), .slice a n cap] w fun e w' => e = .returned (.bool true) ∧ ∃ C1 L1 V', Wr W0 w w' d v bc Cv Lv C1 L1 V V' N0 E K n := by
  have W1 : Wr W0 w w d v bc Cv Lv Cv Lv V V N0 E K 0 := ⟨h, hh, rfl, Nat.le_add_right _ _, Kept.refl _ _, fun _ hx => Or.inl hx, by omega⟩
  have W1 := hide W1
  have HS := hide hs
  clear h hh hs
  have hni : (n : Int) ≤ 1048576 := by omega
  go_enter Try.func6, Try.ntmps6
  go_wp2
  go_loopw [7] (fun i w' => ∃ k : Nat, k ≤ n ∧ i = .int .i64 k ∧ ∃ C1 L1 V', Wr W0 w w' d v bc Cv Lv C1 L1 V V' N0 E K k) (fun i _ => n - (intOf i).toNat)
  case atStart => exact ⟨0, by omega, rfl, _, _, _, unhide W1⟩
  case round =>
    obtain ⟨k, hk, rfl, C1, L1, V1, hw⟩ := hrel
    clear W1
    by_cases hlt : k < n
    · have hki : (k : Int) < (n : Int) := by omega
      obtain ⟨g, o, rfl, hg, hrg⟩ := (unhide HS).some (by omega)
      obtain ⟨f1, f2⟩ := (unhide HS).fits k hlt
      have rg : ∀ W, Below W0.heap.size W0 W → W.cell? ⟨g, o + k * 2, none⟩ = some (.int .i64 (st k).block) ∧ W.cell? ⟨g, o + k * 2 + 1, none⟩ = some (.string (st k).text) := fun W hB => by
        have h1 := hrg k hlt 0 _ rfl
        have h2 := hrg k hlt 1 _ rfl
        exact ⟨(World.cell?_of_block (hB.block _ hg)).trans h1, (World.cell?_of_block (hB.block _ hg)).trans h2⟩
      obtain ⟨r1, r2⟩ := rg wr hw.at'.below
      have Hrg := hide rg
      have HW := hide hw
      clear hw rg hrg
      go_wp2_with fail
      refine (keepPick_any (st k).block wr f2).mono ?_
      rintro e w1 ⟨rfl, rfl⟩
      have hp := pickN_lt (st k).block
      generalize pickN (st k).block = N at *
      generalize (st k).block = bl at *
      generalize (st k).text = tx at *
      clear f2
      go_wp2_with fail
      refine (keepCluster_any tx w1 f1).mono ?_
      rintro e w2 ⟨rfl, b2⟩
      have hdl : (clusOf tx.data.toList).length = 64 := clusTo_length _ _ (Nat.min_le_left _ _) (Nat.min_le_right _ _)
      generalize clusOf tx.data.toList = data at *
      have B3 := hide (b2.alloc b2.size (.cells (cv data).toArray 26))
      have X3 := hide (heap_alloc_new w2 (.cells (cv data).toArray 26))
      have hsz2 := b2.size
      clear b2 r1 r2 f1
      go_wp2_with fail
      generalize hW3 : w2.alloc (.cells (cv data).toArray 26) = w3 at *
      clear hW3
      have HW3 := hide ((unhide HW).lay (unhide B3))
      have hlog := (unhide HW).log
      have hbx : w1.heap.size ≤ w2.heap.size := hsz2
      refine ((unhide HW).held.vol.diskWrite (data := data) (unhide HW3).at'.dsk (by omega) (N : Int) hdl).mono ?_
      rintro e w4 ⟨rfl, C2, L2, hs4⟩
      have hnb : ¬ foot v C1 L1 w2.heap.size := fun hf => by have := (unhide HW).at'.dsk.vol.foot_lt _ hf; omega
      have X4 := hs4.kept.blk hnb (unhide X3)
      have l1 := box_has X4 hdl
      have l2 := box_cells X4 hdl
      have h4 := (unhide HW3).at'.step hs4
      have th := there_blk h4.cont.blk (N * 64) 64 (by rw [List.size_toArray, h4.cont.cont.flat]; omega)
      have hs4' : VStep w3 w4.drew v C1 L1 C2 L2 (writeV V1 (N : Int) data).1 := ⟨hs4.at'.below ((Below.refl _ w4).drew), ⟨hs4.kept.os, hs4.kept.tape, hs4.kept.output, hs4.kept.size, hs4.kept.block⟩, hs4.new⟩
      have hor : (_ ∧ _) ∨ (_ ∧ _) := Wr.did hK (unhide HW3) hp hdl hs4
      have hor' : (_ ∧ _) ∨ (_ ∧ _) := Wr.did hK (unhide HW3) hp hdl hs4'
      have hNi : (N : Int) < 64 := by omega
      generalize writeV V1 (N : Int) data = R at *
      obtain ⟨R1, R2⟩ := R
      dsimp only at hor hor' ⊢
      clear hs4 hs4' h4 X4 HW3 X3 B3 HW
      rcases hor with ⟨rfl, _⟩ | ⟨rfl, hq⟩
      · have hq : Wr W0 w (w4.drew.setCells bc (N * 64) (cv data)) d v bc Cv Lv C2 L2 V R1 N0 E K (k + 1) := by
          rcases hor' with ⟨_, x⟩ | ⟨x, _⟩
          · exact x
          · cases x
        have HQ := hide hq
        have hT : BoxT w2.heap.size data w4.drew := ⟨l1, l2⟩
        have th' : w4.drew.there bc (N * 64) 64 := th
        clear hq hor'
        go_wp2
        refine wp_region_L (BoxT w2.heap.size data) 5 (by kernel_rfl) ?_
        refine wpAnyL_take (i := 0) (v := ?_) rfl (by kernel_rfl) (by kernel_rfl) (by kernel_rfl) (by kernel_rfl) (fun _ _ _ h => h) (Or.inl ⟨by rfl, fun W hW => ?_⟩) hT ?_
        rotate_left 1
        · (obtain ⟨t0, t1⟩ := hW; go_simp; with_reducible rfl)
        simp only [Act.put, List.setIfInBounds_toArray, List.set_cons_zero, List.set_cons_succ]
        refine wpAnyL_take (i := 1) (v := ?_) rfl (by kernel_rfl) (by kernel_rfl) (by kernel_rfl) (by kernel_rfl) (fun _ _ _ h => h) (Or.inl ⟨by rfl, fun W hW => ?_⟩) hT ?_
        rotate_left 1
        · (obtain ⟨t0, t1⟩ := hW; go_simp; with_reducible rfl)
        simp only [Act.put, List.setIfInBounds_toArray, List.set_cons_zero, List.set_cons_succ]
        refine wpAnyL_take (i := 2) (v := ?_) rfl (by kernel_rfl) (by kernel_rfl) (by kernel_rfl) (by kernel_rfl) (fun _ _ _ h => h) (Or.inl ⟨by rfl, fun W hW => ?_⟩) hT ?_
        rotate_left 1
        · (obtain ⟨t0, t1⟩ := hW; go_simp; with_reducible rfl)
        simp only [Act.put, List.setIfInBounds_toArray, List.set_cons_zero, List.set_cons_succ]
        refine wpAnyL_one (i := 3) (by kernel_rfl) rfl fun K3 hK3 => ?_
        go_simp
        refine hK3 _ _ (Or.inr hT) ?_
        try simp only [Act.put, List.setIfInBounds_toArray, List.set_cons_zero, List.set_cons_succ]
        refine wpAnyL_take (i := 4) (v := ?_) rfl (by kernel_rfl) (by kernel_rfl) (by kernel_rfl) (by kernel_rfl) (fun _ _ _ h => h) (Or.inl ⟨by rfl, fun W hW => ?_⟩) hT ?_
        rotate_left 1
        · (obtain ⟨t0, t1⟩ := hW; go_simp; with_reducible rfl)
        simp only [Act.put, List.setIfInBounds_toArray, List.set_cons_zero, List.set_cons_succ]
        refine wpAnyL_one (i := 5) (by kernel_rfl) rfl fun K5 hK5 => ?_
        go_simp
        refine hK5 _ _ (Or.inl rfl) ?_
        try simp only [Act.put, List.setIfInBounds_toArray, List.set_cons_zero, List.set_cons_succ]
        refine wpAnyL_done (by kernel_rfl) ?_ _
        clear hT th' l1 l2 th
        go_wp2
        go_roundw
        case rel => exact ⟨k + 1, by omega, by go_num, _, _, _, unhide HQ⟩
        case measure => simp [intOf]; omega
      · have HQ := hide hq
        clear hq
        have d5 : (((5 : Nat) : Int) == 0) = false := rfl
        have d6 : (((5 : Nat) : Int) != 5) = false := rfl
        go_wp2
        go_roundw
        case rel => exact ⟨k + 1, by omega, by go_num, _, _, _, unhide HQ⟩
        case measure => simp [intOf]; omega
    · have hki : ¬ (k : Int) < (n : Int) := by omega
      have hkn : k = n := by omega
      have HW := hide hw
      clear hw
      go_wp2
      go_ret
      exact ⟨rfl, _, _, _, by rw [← hkn]; exact unhide HW⟩
end Go.Proofs.Ytknjjjenklfeoaa

/-
  vellumkeep: begun: a disk that holds what is written to it.
-/
namespace Go.Proofs.Ytknjjjenklfeoaa
open Go.RowKit
attribute [local go_sem ↓] loadVar_clus storeVar_clus zeroValue_clus equalIn_clus
attribute [local go_sem] run_loadClus run_storeClus run_zeroClus run_storeClus_new run_loadClus_new zc_length HasAt_drew cellsAt_drew
def bClus (fs : Array (Nat × Value)) : Sem Value := Instr.build 26 fs
theorem build_clus (fs : Array (Nat × Value)) : Instr.build 26 fs = bClus fs := rfl
theorem run_bClus0 {w : World} : (bClus #[]).run Try.prog w = .ok (.agg (cv zc).toArray) w := by
  unfold bClus Instr.build
  simp only [zeroValue_clus]
  simp [run_zeroClus]
  rfl
attribute [local go_sem ↓] build_clus
attribute [local go_sem] run_bClus0
theorem new_held : Held newV 6 [] 1 := ⟨new_vol, new_exactV, fun m hm => by
  have h : ∀ k : Fin 256, countOf newV.C k.val ≤ 1 := by decide +kernel
  exact h ⟨m, hm⟩⟩
theorem needs_le (R : FileR) (b : Nat) : needs R b ≤ 2 := by
  unfold needs
  split
  · omega
  · split <;> omega
theorem new_write (n : Nat) (hn : n < 64) {data : Clus} (hd : data.length = 64) : (writeV newV n data).2 = 0 ∧ Vol [] (writeV newV n data).1 6 [] ∧ dskOf (writeV newV n data).1.C 6 [] = setD zDisk n data := by
  have hb : blockB (n : Int) = true := by unfold blockB; simp; omega
  rcases new_vol.write (data := data) (n : Int) hd with ⟨h1, _⟩ | ⟨_, h2, hw⟩ | ⟨_, _, h3⟩
  · rw [hb] at h1; cases h1
  · rw [Int.toNat_natCast, new_disk] at hw
    exact ⟨h2, hw.vol, hw.holds⟩
  · have h4 := h3 ⟨newV.C, rsOf 6 [], [], [], 0⟩ rfl rfl
    have h5 : 2 ≤ freeOf newV.C := by decide +kernel
    have h6 := needs_le ⟨newV.C, rsOf 6 [], [], [], 0⟩ (n : Int).toNat
    omega

set_option maxHeartbeats 2000000 in
set_option maxRecDepth 100000 in
theorem keepBegun_any (w : World) : Calls Try.prog 5 #[] w fun e w' => ∃ d v Cv Lv, e = .returned (.pointer (some ⟨d, 0, none⟩)) ∧ DskAt w' d v Cv Lv newV ∧ Below w.heap.size w w' ∧ ∀ k, dfoot d v Cv Lv k → w.heap.size ≤ k := by
  go_enter Try.func5, Try.ntmps5
  go_wp2_with fail
  refine (diskNew_any w).mono ?_
  rintro e w1 ⟨t, tv, TC, TL, rfl, hT, b1, f1⟩
  have HT := hide hT
  have B1 := hide b1
  have F1 := hide f1
  clear hT b1 f1
  go_wp2_with fail
  refine (diskNew_any w1).mono ?_
  rintro e w2 ⟨d, v, Cv, Lv, rfl, hD, b2, f2⟩
  have HT2 := hide ((unhide HT).below b2)
  have B2 := hide ((unhide B1).trans (b2.mono (unhide B1).size))
  have HD := hide hD
  have F2 := hide f2
  have hs12 := b2.size
  have hs01 := (unhide B1).size
  have Ft := hide (fun k hk => (unhide HT).foot_lt k hk)
  clear hD b2 f2 HT B1
  go_wp2_with fail
  refine (keepCluster_any ⟨#[107, 110, 111, 119, 110]⟩ w2 (by unfold maxLen; decide)).mono ?_
  rintro e w3 ⟨rfl, b3⟩
  have hdl : (clusOf (⟨#[107, 110, 111, 119, 110]⟩ : ByteArray).data.toList).length = 64 := clusTo_length _ _ (Nat.min_le_left _ _) (Nat.min_le_right _ _)
  have Hcl := hide (fun W => keepCluster_any ⟨#[107, 110, 111, 119, 110]⟩ W (by unfold maxLen; decide))
  generalize clusOf (⟨#[107, 110, 111, 119, 110]⟩ : ByteArray).data.toList = kn at *
  have HT3 := hide ((unhide HT2).below b3)
  have HD3 := hide ((unhide HD).below b3)
  have B3 := hide ((unhide B2).trans (b3.mono (unhide B2).size))
  have hs23 := b3.size
  clear b3 HT2 HD B2
  go_wp2_with fail
  obtain ⟨nw1, nw2, nw3⟩ := new_write 63 (by omega) hdl
  refine (new_vol.diskWrite (data := kn) (unhide HT3) (by have := new_logL; omega) 63 hdl).mono ?_
  rintro e w4 ⟨rfl, C4, L4, hs4⟩
  have HT4 := hide ((unhide HT3).step hs4)
  have HD4 := hide ((unhide HD3).kept hs4.kept (fun k hk hf => by
    have h1 := unhide F2 k hk
    have h2 := unhide Ft k (Or.inr hf)
    omega))
  have B4 : Hid (Below w.heap.size w w4) := by
    have hb := unhide B3
    exact ⟨hs4.kept.os.trans hb.os, hs4.kept.tape.trans hb.tape, hs4.kept.output.trans hb.output, Nat.le_trans hb.size hs4.kept.size, fun k hk => by
      rw [hs4.kept.block k (Nat.lt_of_lt_of_le hk hb.size) (fun hf => by have := unhide F1 k (Or.inr hf); omega)]; exact hb.block k hk⟩
  have e63 : (writeV newV 63 kn).2 = 0 := nw1
  have v63 : Vol [] (writeV newV 63 kn).1 6 [] := nw2
  have d63 : dskOf (writeV newV 63 kn).1.C 6 [] = setD zDisk 63 kn := nw3
  rw [e63]
  generalize (writeV newV 63 kn).1 = V4 at *
  have h7 := v63.file.seven
  have hin : InFile V4.C (num (cl V4.C 0) 6) := by rw [v63.file.num6]; exact v63.sound.inFile (by simp [rsOf] : (⟨6, 0, []⟩ : RootR) ∈ rsOf 6 [])
  have r63 : blkRead V4.C (num (cl V4.C 0) 6) 63 = (kn, 0) := by
    rw [← read_same v63, d63]
    rfl
  have r0 : blkRead V4.C (num (cl V4.C 0) 6) 0 = (zc, 0) := by
    rw [← read_same v63, d63]
    rfl
  have HR := hide (fun (W : World) (hB : Below w4.heap.size w4 W) (n : Int) => diskRead_any W t tv C4 L4 V4 ((unhide HT4).below hB) n (by omega) hin)
  have Hr1 := hide r63
  have Hr0 := hide r0
  clear hs4 HT3 HD3 B3 nw1 nw2 nw3 e63 v63 d63 r63 r0
  go_wp2_with fail
  have hr1 := unhide HR w4 (Below.refl _ _) 63
  rw [unhide Hr1] at hr1
  refine hr1.mono ?_
  rintro e w5 ⟨rfl, b5⟩
  have B5 := hide (b5.alloc b5.size (.cells (cv kn).toArray 26))
  have X5 := hide (heap_alloc_new w5 (.cells (cv kn).toArray 26))
  clear hr1 b5
  go_wp2_with fail
  have hr0 := unhide HR _ (unhide B5) 0
  rw [unhide Hr0] at hr0
  refine hr0.mono ?_
  rintro e w6 ⟨rfl, b6⟩
  have B6 := hide (((unhide B5).trans (b6.mono (unhide B5).size)).alloc (Nat.le_trans (unhide B5).size b6.size) (.cells (cv zc).toArray 26))
  have X6 := hide ((Below.heap_alloc w6 (.cells (cv zc).toArray 26) w5.heap.size (Nat.lt_of_lt_of_le (blk_lt (unhide X5)) b6.size)).trans ((b6.block _ (blk_lt (unhide X5))).trans (unhide X5)))
  have Z6 := hide (heap_alloc_new w6 (.cells (cv zc).toArray 26))
  clear hr0 b6
  go_wp2_with fail
  generalize hW7 : w6.alloc (.cells (cv zc).toArray 26) = w7 at *
  clear hW7
  have l1 : ∀ d os, HasAt (Go.Sort.grow (redrawn w7 d) os) w5.heap.size 0 64 := fun d os => box_has (((below_regrown w7 d os).block _ (blk_lt (unhide X6))).trans (unhide X6)) hdl
  have l2 : ∀ d os, cellsAt (Go.Sort.grow (redrawn w7 d) os) w5.heap.size 0 64 = cv kn := fun d os => box_cells (((below_regrown w7 d os).block _ (blk_lt (unhide X6))).trans (unhide X6)) hdl
  have l3 : ∀ d os, HasAt (Go.Sort.grow (redrawn w7 d) os) w6.heap.size 0 64 := fun d os => box_has (((below_regrown w7 d os).block _ (blk_lt (unhide Z6))).trans (unhide Z6)) zc_length
  have l4 : ∀ d os, cellsAt (Go.Sort.grow (redrawn w7 d) os) w6.heap.size 0 64 = cv zc := fun d os => box_cells (((below_regrown w7 d os).block _ (blk_lt (unhide Z6))).trans (unhide Z6)) zc_length
  have Hn := hide (fun d os => unhide Hcl (Go.Sort.grow (redrawn w7 d) os))
  have he : ∀ w, (eqClus (.agg (cv kn).toArray) (.agg (cv kn).toArray)).run Try.prog w = .ok true w := fun w => by rw [run_eqClus hdl hdl, decide_eq_true rfl]
  have hz : ∀ w, (eqClus (.agg (cv zc).toArray) (.agg (cv zc).toArray)).run Try.prog w = .ok true w := fun w => by rw [run_eqClus zc_length zc_length, decide_eq_true rfl]
  have HD7 := hide ((unhide HD4).below (unhide B6))
  have B7 := hide ((unhide B4).trans ((unhide B6).mono (unhide B4).size))
  clear HD4 B4 B5 B6 X5 X6 Z6 HR Hr1 Hr0 Hcl HT4 hin h7
  refine wp_region_quiet_below (by kernel_rfl) (by kernel_rfl) ?_
  repeat (go_big_quiet_step (exact Calls.regrown_of (unhide Hn _ _)))
  refine wpQuiet_nil ?_
  intro _ hw'
  obtain ⟨⟨dq, osq⟩, hw''⟩ := hw'
  subst hw''
  clear l1 l2 l3 l4 Hn
  go_wp2
  go_ret
  exact ⟨d, v, Cv, Lv, rfl, (unhide HD7).below (below_regrown w7 dq osq), (unhide B7).trans ((below_regrown w7 dq osq).mono (unhide B7).size), fun k hk => by have := unhide F2 k hk; omega⟩
end Go.Proofs.Ytknjjjenklfeoaa
