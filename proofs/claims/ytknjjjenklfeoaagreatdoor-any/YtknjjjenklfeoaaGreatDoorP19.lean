import Derived.Test.YtknjjjenklfeoaaGreatDoorP18
import Derived.Test.YtknjjjenklfeoaaGreatDoorP00
import Derived.OrdersHeld
/-
  Pictures of the reference's disk: loaded, laid, compared; a row of them.
-/
namespace Go.Proofs.YtknjjjenklfeoaaGreatDoor
open Go.RowKit

theorem picCells_length {p : PicR} (h : Cont p.C) : (picCells p).length = 4097 := by simp [picCells, h.flat]
theorem picCells_one (p : PicR) : ∀ v ∈ picCells p, v.oneCell' = true := by
  intro v hv
  rcases List.mem_cons.1 hv with rfl | h
  · rfl
  · exact flatC_one p.C v h
def loadPic (a : Addr) : Sem Value := loadVar 139 a
theorem loadVar_pic (a : Addr) : loadVar 139 a = loadPic a := rfl
theorem run_loadPic {w : World} {b o : Nat} (h : HasAt w b o 4097) : (loadPic ⟨b, o, none⟩).run Tryz.prog w = .ok (.agg (cellsAt w b o 4097).toArray) w :=
  run_loadVar_has h 139 _ Tryz.underlying139 rfl (by kernel_rfl)
def bsPic (parts : Array (Nat × Value)) : Sem Value := Instr.buildSlice 68 1 parts
theorem buildSlice_pic (parts : Array (Nat × Value)) : Instr.buildSlice 68 1 parts = bsPic parts := rfl
theorem run_bsPic {w : World} {p : PicR} (h : Cont p.C) : (bsPic #[(0, .agg (picCells p).toArray)]).run Tryz.prog w = .ok (.slice (some ⟨w.heap.size, 0, none⟩) 1 1) (w.alloc (.cells (picCells p).toArray 139)) :=
  run_buildSlice_one w 68 139 4097 (.agg (picCells ⟨[], zD⟩).toArray) (.agg (picCells p).toArray) Tryz.underlying68 (by kernel_rfl) (by omega) (by omega) (by simp [Value.cells, picCells_length h])
theorem Tryz.infoPic : (Tryz.prog.info? 139).map (fun i => (i.zero, i.size, i.bytes)) = some (some (.agg (picCells ⟨[], zD⟩).toArray), 4097, 4112) := by kernel_rfl
def zpic : PicR := ⟨[], zD⟩
def picAt (Ps : List PicR) (k : Nat) : PicR := Ps.getD k zpic
theorem picAt_mem {Ps : List PicR} {k : Nat} (hk : k < Ps.length) : picAt Ps k ∈ Ps := by
  unfold picAt
  rw [List.getD_eq_getElem?_getD, List.getElem?_eq_getElem hk]
  exact List.getElem_mem hk
theorem pics_get : ∀ (Ps : List PicR), (∀ p ∈ Ps, Cont p.C) → ∀ k, k < Ps.length → ∀ j, j < 4097 → (Ps.flatMap picCells)[k * 4097 + j]? = (picCells (picAt Ps k))[j]?
  | [], _, k, hk, _, _ => by simp at hk
  | p :: r, h, k, hk, j, hj => by
    have hl := picCells_length (h p (by simp))
    rw [List.flatMap_cons]
    cases k with
    | zero => rw [Nat.zero_mul, Nat.zero_add, List.getElem?_append_left (by omega)]; rfl
    | succ k =>
      have ih := pics_get r (fun q hq => h q (by simp [hq])) k (by simpa using hk) j hj
      rw [List.getElem?_append_right (by rw [hl]; omega), hl, show (k + 1) * 4097 + j - 4097 = k * 4097 + j by omega, ih]
      rfl
theorem pics_range {w : World} {base g cap : Nat} {Ps : List PicR} (h : w.ownsRow base 139 4097 (.slice (some ⟨g, 0, none⟩) Ps.length cap) Ps.length (Ps.flatMap picCells)) (hp : ∀ p ∈ Ps, Cont p.C) (k : Nat) (hk : k < Ps.length) : w.rangeAt g (k * 4097) (picCells (picAt Ps k)) := fun j v hv => by
  have hj := (List.getElem?_eq_some_iff.1 hv).1
  rw [picCells_length (hp _ (picAt_mem hk))] at hj
  have := h.cells (g := g) rfl (k * 4097 + j) v (by rw [pics_get Ps hp k hk j hj]; exact hv)
  have hadd : (⟨g, 0, none⟩ : Addr).add (k * 4097 + j) = ⟨g, k * 4097 + j, none⟩ := by unfold Addr.add; split <;> simp_all
  rw [hadd] at this
  exact this
def eqPic (x y : Value) : Sem Bool := Op.equalIn 10000 139 x y
theorem equalIn_pic (x y : Value) : Op.equalIn 10000 139 x y = eqPic x y := rfl
theorem sizeOf_cont (w : World) : (Go.sizeOf 67).run Tryz.prog w = .ok 4096 w := by
  cases hq : Tryz.prog.info? 67 with
  | none => exact absurd hq (by have h : (Tryz.prog.info? 67).isSome = true := by kernel_rfl
                                intro e; rw [e] at h; cases h)
  | some i =>
    have hz : (Tryz.prog.info? 67).map (·.size) = some 4096 := by kernel_rfl
    rw [hq] at hz
    simp at hz
    simp [Go.sizeOf, typeInfo, hq, hz]
theorem part_pic0 (p : PicR) (w : World) : (part 9 (picCells p).toArray 0).run Tryz.prog w = .ok (.string (txt p.name)) w := by
  have ha : (isAgg 9).run Tryz.prog w = .ok false w := by unfold isAgg; rw [Sem.run_bind, run_underlying Tryz.underlying9 w]; rfl
  unfold part
  rw [Sem.run_bind, ha]
  rfl
theorem part_pic1 (p : PicR) (hp : Cont p.C) (w : World) : (part 67 (picCells p).toArray 1).run Tryz.prog w = .ok (.agg (flatC p.C).toArray) w := by
  have ha : (isAgg 67).run Tryz.prog w = .ok true w := by unfold isAgg; rw [Sem.run_bind, run_underlying Tryz.underlying67 w]; rfl
  unfold part
  rw [Sem.run_bind, ha]
  simp only [Result.andThen_ok, if_true, Sem.run_bind, sizeOf_cont, Sem.run_pure]
  rw [show (picCells p).toArray.extract 1 (1 + 4096) = (flatC p.C).toArray by
    apply Array.ext'
    rw [Array.toList_extract]
    simp only [List.extract_eq_take_drop, picCells, List.drop_one, List.tail_cons, Nat.add_sub_cancel_left]
    exact List.take_of_length_le (by rw [hp.flat]; exact Nat.le_refl _)]
def picEq (p q : PicR) : Bool := decide (p.name = q.name) && decide (p.C = q.C)
theorem run_eqPic {p q : PicR} (hp : Cont p.C) (hq : Cont q.C) (w : World) : (eqPic (.agg (picCells p).toArray) (.agg (picCells q).toArray)).run Tryz.prog w = .ok (picEq p q) w := by
  have hs : Tryz.prog.stoodInHeld 139 = false := by kernel_rfl
  have h0 : (Op.equalIn 9999 9 (.string (txt p.name)) (.string (txt q.name))).run Tryz.prog w = .ok ((txt p.name).toList == (txt q.name).toList) w := run_equalIn_string (P := Tryz.prog) w 9998 9 (txt p.name) (txt q.name) Tryz.underlying9
  rw [txt_toList, txt_toList] at h0
  have h1 : (Op.equalIn 9999 67 (.agg (flatC p.C).toArray) (.agg (flatC q.C).toArray)).run Tryz.prog w = .ok (decide (p.C = q.C)) w := run_eq_cont 9996 p.C q.C hp.all hq.all hp.len hq.len w
  show (Op.equalIn (9999 + 1) 139 _ _).run Tryz.prog w = _
  rw [Op.equalIn]
  simp only [Sem.run_bind, run_underlying Tryz.underlying139, Result.andThen_ok, run_program, hs, Bool.false_eq_true, if_false]
  rw [← Array.forIn_toList]
  unfold picEq
  by_cases e : p.name = q.name
  · have e' : (p.name == q.name) = true := by simpa using e
    rw [e'] at h0
    rw [decide_eq_true e, Bool.true_and]
    by_cases e2 : p.C = q.C
    · rw [decide_eq_true e2] at h1 ⊢
      simp only [List.forIn_cons, List.forIn_nil, Sem.run_bind, part_pic0, part_pic1 p hp, part_pic1 q hq, Result.andThen_ok, h0, h1, ne_eq, String.reduceEq, not_false_eq_true, if_true, Bool.not_true, Bool.false_eq_true, if_false, Sem.run_pure]
    · rw [decide_eq_false e2] at h1 ⊢
      simp only [List.forIn_cons, List.forIn_nil, Sem.run_bind, part_pic0, part_pic1 p hp, part_pic1 q hq, Result.andThen_ok, h0, h1, ne_eq, String.reduceEq, not_false_eq_true, if_true, Bool.not_true, Bool.not_false, Bool.false_eq_true, if_false, Sem.run_pure]
  · have e' : (p.name == q.name) = false := by simpa using e
    rw [e'] at h0
    rw [decide_eq_false e, Bool.false_and]
    simp only [List.forIn_cons, List.forIn_nil, Sem.run_bind, part_pic0, Result.andThen_ok, h0, ne_eq, String.reduceEq, not_false_eq_true, if_true, Bool.not_false, Sem.run_pure]
end Go.Proofs.YtknjjjenklfeoaaGreatDoor

/-
  The reference's Copied, Same, and Disk of a file, with pictures.
-/
namespace Go.Proofs.YtknjjjenklfeoaaGreatDoor
open Go.RowKit
attribute [local go_sem ↓] loadVar_clus storeVar_clus zeroValue_clus loadVar_cont storeVar_cont zeroValue_cont build_disk equalIn_cont loadVar_pic buildSlice_pic equalIn_pic build_pic
attribute [local go_sem] run_loadClus run_storeClus run_zeroClus run_storeClus_new run_loadClus_new zc_length run_loadCont run_storeCont run_zeroCont run_bDisk run_loadPic run_bsPic run_bPic
/-- One picture more. -/
theorem DiskAt.growP {w w5 : World} {d g5 cap5 : Nat} {Pv : Value} {C : List Clus} {Ps : List PicR} {p : PicR} (h : DiskAt w d Pv ⟨C, Ps⟩) (hp : Cont p.C) (hne : ∀ g, Pv.ownBlock = some g → g ≠ d) (hg : w.grownBy w5 Pv.ownBlock)
    (hrow : w5.ownsRow 0 139 4097 (.slice (some ⟨g5, 0, none⟩) (Ps.length + 1) cap5) (Ps.length + 1) (Ps.flatMap picCells ++ picCells p)) (hd : g5 ≠ d) :
    DiskAt (w5.setCell ⟨d, 4096, none⟩ (.slice (some ⟨g5, 0, none⟩) (Ps.length + 1) cap5)) d (.slice (some ⟨g5, 0, none⟩) (Ps.length + 1) cap5) ⟨C, Ps ++ [p]⟩ := by
  have b5 := grown_blk hg h.blk hne
  have hfl := h.cont.flat
  simp only at hfl
  refine ⟨?_, ?_, h.cont, fun q hq => ?_⟩
  · rw [heap_setCell_same _ _ _ _ _ _ _ b5]
    congr 2
    apply Array.ext_getElem?
    intro i
    rw [Array.getElem?_setIfInBounds, List.getElem?_toArray, List.getElem?_toArray]
    simp only [diskCells, List.size_toArray, List.length_append, List.length_singleton, hfl]
    by_cases e : 4096 = i
    · subst e
      rw [if_pos rfl, if_pos (by omega), List.getElem?_append_right (by omega), hfl]; rfl
    · rw [if_neg e]
      by_cases hi : i < 4096
      · rw [List.getElem?_append_left (by omega), List.getElem?_append_left (by omega)]
      · rw [List.getElem?_eq_none (by simp [hfl]; omega), List.getElem?_eq_none (by simp [hfl]; omega)]
  · have := ownsRow_kept (Kept.only w5 d 4096 (.slice (some ⟨g5, 0, none⟩) (Ps.length + 1) cap5)) hrow (fun g hg e => by simp only [Value.ownBlock, Option.some.injEq] at hg; omega)
    simpa using this
  · rcases List.mem_append.1 hq with x | x
    · exact h.pics q x
    · rw [List.mem_singleton.1 x]; exact hp

set_option maxHeartbeats 1000000 in
set_option maxRecDepth 100000 in
theorem copied_any (w : World) (d : Nat) (Pv : Value) (D : DiskR) (h : DiskAt w d Pv D) (h4 : D.L.length ≤ 1000) :
    Calls Tryz.prog 58 #[.pointer (some ⟨d, 0, none⟩)] w fun e w' =>
      ∃ Qv, e = .returned (.pointer (some ⟨w.heap.size, 0, none⟩)) ∧ DiskAt w' w.heap.size Qv D ∧ (∀ g, Qv.ownBlock = some g → w.heap.size < g) ∧ Below w.heap.size w w' := by
  obtain ⟨C, L⟩ := D
  have l1 := h.has
  have l2 := h.cells
  have hA := h.cont.all
  have hl := h.cont.len
  have hC := h.cont
  have hP := h.pics
  obtain ⟨a, cap, hPv⟩ := row_form h.row
  subst hPv
  obtain ⟨i0, hi0, hz0, hz1, hz2⟩ := info_parts Tryz.infoPic
  have H := hide h
  clear h
  simp only at l2 hA hl hC hP h4
  go_enter Tryz.func58, Tryz.ntmps58
  go_wp2
  go_loopw [4] (fun i w' => ∃ (k : Nat) (Qv : Value), k ≤ L.length ∧ i = .int .i64 k ∧ DiskAt w' w.heap.size Qv ⟨C, L.take k⟩ ∧ (∀ g, Qv.ownBlock = some g → w.heap.size < g) ∧ Below w.heap.size w w') (fun i _ => L.length - (intOf i).toNat)
  case atStart =>
    refine ⟨0, .slice none 0 0, by omega, rfl, ?_, fun g hg => (by cases hg), (Below.refl _ _).alloc (Nat.le_refl _) _⟩
    exact ⟨heap_alloc_new _ _, World.ownsRow_nil _ _ _ _, hC, fun p hp => by cases hp⟩
  case round =>
    obtain ⟨k, Qv, hk, rfl, hQ, hQg, hb⟩ := hrel
    have hd := (unhide H).below hb
    by_cases hlt : k < L.length
    · obtain ⟨g2, cap2, e2, _⟩ := row_some hd.row (show 0 < L.length by omega)
      obtain ⟨rfl, rfl⟩ : a = some ⟨g2, 0, none⟩ ∧ cap = cap2 := by injection e2 with x1 x2 x3; exact ⟨x1, x3⟩
      have rg := pics_range hd.row hP k hlt
      have hpc := hP _ (picAt_mem hlt)
      have m1 : HasAt wr.drew g2 (k * 4097) 4097 := hasAt_of_range (w := wr) rg (picCells_length hpc)
      have m2 : cellsAt wr.drew g2 (k * 4097) 4097 = picCells (picAt L k) := cellsAt_of_range (w := wr) rg (picCells_length hpc)
      have hki : (k : Int) < (L.length : Int) := by omega
      have c2 : wr.cell? ⟨d, 4096, none⟩ = some (.slice (some ⟨g2, 0, none⟩) L.length cap) := hd.cPv
      have c0 : wr.drew.cell? ⟨d, 4096, none⟩ = some (.slice (some ⟨g2, 0, none⟩) L.length cap) := hd.cPv
      have c1 : wr.drew.cell? ⟨w.heap.size, 4096, none⟩ = some Qv := hQ.cPv
      have c3 : ∀ o, (wr.alloc o).drew.cell? ⟨w.heap.size, 4096, none⟩ = some Qv := fun o => (World.cell?_alloc_lt wr o _ hQ.lt).trans hQ.cPv
      have c4 : ∀ o, (wr.alloc o).drew.cell? ⟨d, 4096, none⟩ = some (.slice (some ⟨g2, 0, none⟩) L.length cap) := fun o => (World.cell?_alloc_lt wr o _ hd.lt).trans hd.cPv
      have ht : L.take (k + 1) = L.take k ++ [picAt L k] := by
        rw [List.take_succ_eq_append_getElem hlt]
        unfold picAt
        rw [List.getD_eq_getElem?_getD, List.getElem?_eq_getElem hlt]; rfl
      have hlk : (L.take k).length = k := by simp; omega
      have hrow : wr.ownsRow 0 139 4097 Qv k ((L.take k).flatMap picCells) := by have := hQ.row; simp only [hlk] at this; exact this
      have hne : ∀ g, Qv.ownBlock = some g → g ≠ w.heap.size := fun g hg e => by have := hQg g hg; omega
      have HQ := hide hQ
      have Hrow := hide hrow
      have Hb := hide hb
      have Ht := hide ht
      have Hne := hide hne
      have HQg := hide hQg
      have hsz := hb.size
      have hQlt := hQ.lt
      clear hd rg e2 hQ hrow hb ht hne hQg hlk
      generalize hpk : picAt L k = pk at *
      go_wp2
      go_region_law (refine step_append_lies _ (by rfl) _ _ _ (by rfl) 0 139 i0 _ 4097 4112 Tryz.underlying68 hi0 hz0 hz1 hz2 (by rw [show (Value.agg (picCells ⟨[], zD⟩).toArray).cells.size = (picCells ⟨[], zD⟩).length from by simp [Value.cells]]; exact picCells_length (p := ⟨[], zD⟩) ⟨zD_all, zD_length⟩) (by omega) Qv k ((L.take k).flatMap picCells) (by rfl) ((ownsRow_kept (S := fun _ => False) ((Kept.refl _ wr).drew) (unhide Hrow) (fun _ _ => id)).alloc _) ⟨wr.heap.size, 0, none⟩ 1 1 (picCells pk) (by rfl) (by rw [picCells_length hpc]) (World.news_of_block (cs := (picCells pk).toArray) (t := 139) (fr := (0, 0)) (heap_alloc_new wr.drew _)) (picCells_one pk) (by omega) (by unfold maxLen; omega) (by omega) (by omega) (wr.heap.size + 1) (by simp) ?_
                     intro g5 cap5 w5 hown5 hgrow hat hlt5
                     have b5 := hide (grown_blk hgrow ((unhide HQ).below (((Below.refl _ wr).drew).alloc (Nat.le_refl _) _)).blk (unhide Hne))
                     have c5 : w5.cell? ⟨w.heap.size, 4096, none⟩ = some Qv := (cell_blk (unhide b5) 4096).trans (by rw [← cell_blk (unhide HQ).blk]; exact (unhide HQ).cPv)
                     have z5 : ∀ i, w5.frozen? ⟨w.heap.size, i, none⟩ = false := fun i => frozen_blk (unhide b5) i)
      all_goals
        have hgn : g5 ≠ w.heap.size ∧ w.heap.size < g5 := by
          rcases hat with x | x
          · exact ⟨unhide Hne g5 x, unhide HQg g5 x⟩
          · omega
        have S1 := hide ((unhide Hb).alloc hsz (.cells (picCells pk).toArray 139))
        have S2 := hide (((unhide S1).drew.grown hgrow (by simp; omega) (fun k hk => by have := unhide HQg k hk; omega)).setCell (p := ⟨w.heap.size, 4096, none⟩) (Nat.le_refl _) (.slice (some ⟨g5, 0, none⟩) (k + 1) cap5))
        have hD5 : DiskAt (w5.setCell ⟨w.heap.size, 4096, none⟩ (.slice (some ⟨g5, 0, none⟩) (k + 1) cap5)) w.heap.size (.slice (some ⟨g5, 0, none⟩) (k + 1) cap5) ⟨C, L.take (k + 1)⟩ := by
          have hl : (L.take k).length = k := by simp; omega
          have := ((unhide HQ).below (((Below.refl _ wr).drew).alloc (Nat.le_refl _) (.cells (picCells pk).toArray 139))).growP (g5 := g5) (cap5 := cap5) hpc (unhide Hne) hgrow (by rw [hl]; exact hown5) hgn.1
          rw [hl] at this
          rw [unhide Ht]; exact this
        have HD5 := hide hD5
        clear hD5 hgrow hown5
        go_wp2
        go_roundw
        case rel => exact ⟨k + 1, _, by omega, by go_num, unhide HD5, fun g hg => (by simp only [Value.ownBlock, Option.some.injEq] at hg; omega), unhide S2⟩
        case measure => simp [intOf]; omega
    · have c2 : wr.cell? ⟨d, 4096, none⟩ = some (.slice a L.length cap) := hd.cPv
      have hkl : k = L.length := by omega
      have hfin : DiskAt wr w.heap.size Qv ⟨C, L⟩ := by rw [hkl, List.take_length] at hQ; exact hQ
      have HQ := hide hfin
      have Hb := hide hb
      have HQg := hide hQg
      clear hd hQ hfin hb hkl hQg
      go_wp2
      go_ret
      exact ⟨Qv, rfl, unhide HQ, unhide HQg, unhide Hb⟩
end Go.Proofs.YtknjjjenklfeoaaGreatDoor

/-
  The reference's Same, with pictures.
-/
namespace Go.Proofs.YtknjjjenklfeoaaGreatDoor
open Go.RowKit
attribute [local go_sem ↓] loadVar_clus storeVar_clus zeroValue_clus loadVar_cont storeVar_cont zeroValue_cont build_disk equalIn_cont loadVar_pic buildSlice_pic equalIn_pic build_pic
attribute [local go_sem] run_loadClus run_storeClus run_zeroClus run_storeClus_new run_loadClus_new zc_length run_loadCont run_storeCont run_zeroCont run_bDisk run_loadPic run_bsPic run_bPic HasAt_drewN cellsAt_drewN
def picsEq (Ps Qs : List PicR) : Nat → Nat → Bool
  | 0, _ => true
  | m + 1, k => if picEq (picAt Ps k) (picAt Qs k) then picsEq Ps Qs m (k + 1) else false
def sameR (D E : DiskR) : Bool := if D.C = E.C ∧ D.L.length = E.L.length then picsEq D.L E.L D.L.length 0 else false
theorem picEq_iff {p q : PicR} : picEq p q = true ↔ p = q := by
  obtain ⟨a, b⟩ := p
  obtain ⟨c, d⟩ := q
  simp [picEq]
theorem picsEq_iff (Ps Qs : List PicR) : ∀ m k, picsEq Ps Qs m k = true ↔ ∀ j, k ≤ j → j < k + m → picAt Ps j = picAt Qs j
  | 0, k => ⟨fun _ j h1 h2 => by omega, fun _ => rfl⟩
  | m + 1, k => by
    rw [picsEq]
    constructor
    · intro h j h1 h2
      split at h
      · rename_i hp
        by_cases e : j = k
        · subst e; exact picEq_iff.1 hp
        · exact (picsEq_iff Ps Qs m (k + 1)).1 h j (by omega) (by omega)
      · cases h
    · intro h
      rw [if_pos (picEq_iff.2 (h k (by omega) (by omega)))]
      exact (picsEq_iff Ps Qs m (k + 1)).2 fun j h1 h2 => h j (by omega) (by omega)
theorem sameR_iff {D E : DiskR} : sameR D E = true ↔ D = E := by
  obtain ⟨C, L⟩ := D
  obtain ⟨C2, L2⟩ := E
  unfold sameR
  simp only
  constructor
  · intro h
    split at h
    · rename_i hc
      obtain ⟨rfl, hl⟩ := hc
      congr 1
      have := (picsEq_iff L L2 L.length 0).1 h
      apply List.ext_getElem hl
      intro i h1 h2
      have := this i (by omega) (by omega)
      unfold picAt at this
      rw [List.getD_eq_getElem?_getD, List.getD_eq_getElem?_getD, List.getElem?_eq_getElem h1, List.getElem?_eq_getElem h2] at this
      exact this
    · cases h
  · intro h
    injection h with h1 h2
    subst h1
    subst h2
    rw [if_pos ⟨rfl, rfl⟩]
    exact (picsEq_iff L L L.length 0).2 fun _ _ _ => rfl

set_option maxHeartbeats 1000000 in
set_option maxRecDepth 100000 in
theorem same_any (w : World) (d e' : Nat) (Pv Qv : Value) (D E : DiskR) (h : DiskAt w d Pv D) (k : DiskAt w e' Qv E) (hD : D.L.length ≤ 1000) (hE : E.L.length ≤ 1000) :
    Calls Tryz.prog 59 #[.pointer (some ⟨d, 0, none⟩), .pointer (some ⟨e', 0, none⟩)] w fun e w' =>
      e = .returned (.bool (sameR D E)) ∧ Below w.heap.size w w' := by
  obtain ⟨C, L⟩ := D
  obtain ⟨C2, L2⟩ := E
  obtain ⟨a, cap, hPv⟩ := row_form h.row
  subst hPv
  obtain ⟨a2, cap2, hQv⟩ := row_form k.row
  subst hQv
  simp only at hD hE
  have c0 : ∀ n, (w.drewN n).cell? ⟨d, 4096, none⟩ = some (.slice a L.length cap) := fun n => h.cPv
  have c1 : ∀ n, (w.drewN n).cell? ⟨e', 4096, none⟩ = some (.slice a2 L2.length cap2) := fun n => k.cPv
  have l1 : ∀ n, HasAt (w.drewN n) d 0 4096 := fun n => h.has
  have l2 : ∀ n, cellsAt (w.drewN n) d 0 4096 = flatC C := fun n => h.cells
  have l3 : ∀ n, HasAt (w.drewN n) e' 0 4096 := fun n => k.has
  have l4 : ∀ n, cellsAt (w.drewN n) e' 0 4096 = flatC C2 := fun n => k.cells
  have he : ∀ w, (eqCont (.agg (flatC C).toArray) (.agg (flatC C2).toArray)).run Tryz.prog w = .ok (decide (C = C2)) w := fun w => run_eqCont h.cont.all k.cont.all h.cont.len k.cont.len w
  have Hs : Hid (sameR ⟨C, L⟩ ⟨C2, L2⟩ = if C = C2 ∧ L.length = L2.length then picsEq L L2 L.length 0 else false) := rfl
  have H := hide h
  have K := hide k
  clear h k
  by_cases hcc : C = C2
  · by_cases hll : L.length = L2.length
    · rw [if_pos ⟨hcc, hll⟩] at Hs
      rw [decide_eq_true hcc] at he
      have bl : ((L.length : Int) != (L2.length : Int)) = false := by rw [hll]; simp
      have Hll := hide hll
      have hle : L2.length ≤ L.length := by omega
      have hge : L.length ≤ L2.length := by omega
      clear hcc hll
      go_enter Tryz.func59, Tryz.ntmps59
      go_wp2
      go_quiet (fail)
      go_wp2
      go_loopw [5] (fun i w' => ∃ k nq : Nat, k ≤ L.length ∧ i = .int .i64 k ∧ w' = w.drewN nq ∧ picsEq L L2 L.length 0 = picsEq L L2 (L.length - k) k) (fun i _ => L.length - (intOf i).toNat)
      case atStart => exact ⟨0, nq, by omega, rfl, rfl, rfl⟩
      case round =>
        obtain ⟨k, nq2, hk, rfl, rfl, hp⟩ := hrel
        by_cases hlt : k < L.length
        · have hD0 := (unhide H).drewN nq2
          have hE0 := (unhide K).drewN nq2
          obtain ⟨g2, cp2, e2, _⟩ := row_some hD0.row (show 0 < L.length by omega)
          obtain ⟨rfl, rfl⟩ : a = some ⟨g2, 0, none⟩ ∧ cap = cp2 := by injection e2 with x1 x2 x3; exact ⟨x1, x3⟩
          obtain ⟨g3, cp3, e3, _⟩ := row_some hE0.row (show 0 < L2.length by omega)
          obtain ⟨rfl, rfl⟩ : a2 = some ⟨g3, 0, none⟩ ∧ cap2 = cp3 := by injection e3 with x1 x2 x3; exact ⟨x1, x3⟩
          have rg := pics_range (unhide H).row (unhide H).pics k hlt
          have rg2 := pics_range (unhide K).row (unhide K).pics k (show k < L2.length by omega)
          have hpc : Cont (picAt L k).C := (unhide H).pics _ (picAt_mem hlt)
          have hqc : Cont (picAt L2 k).C := (unhide K).pics _ (picAt_mem (show k < L2.length by omega))
          have m1 : ∀ n, HasAt (w.drewN n) g2 (k * 4097) 4097 := fun n => hasAt_of_range (w := w) rg (picCells_length hpc)
          have m2 : ∀ n, cellsAt (w.drewN n) g2 (k * 4097) 4097 = picCells (picAt L k) := fun n => cellsAt_of_range (w := w) rg (picCells_length hpc)
          have m3 : ∀ n, HasAt (w.drewN n) g3 (k * 4097) 4097 := fun n => hasAt_of_range (w := w) rg2 (picCells_length hqc)
          have m4 : ∀ n, cellsAt (w.drewN n) g3 (k * 4097) 4097 = picCells (picAt L2 k) := fun n => cellsAt_of_range (w := w) rg2 (picCells_length hqc)
          have hki : (k : Int) < (L.length : Int) := by omega
          have hki2 : (k : Int) < (L2.length : Int) := by omega
          have hpe : ∀ w, (eqPic (.agg (picCells (picAt L k)).toArray) (.agg (picCells (picAt L2 k)).toArray)).run Tryz.prog w = .ok (picEq (picAt L k) (picAt L2 k)) w := fun w => run_eqPic hpc hqc w
          rw [show L.length - k = (L.length - (k + 1)) + 1 by omega, picsEq] at hp
          clear hD0 hE0 e2 e3 rg rg2
          cases hq : picEq (picAt L k) (picAt L2 k) with
          | true =>
            rw [hq] at hpe hp
            rw [if_pos rfl] at hp
            have Hp := hide hp
            clear hp hq
            generalize picAt L k = pk at *
            generalize picAt L2 k = qk at *
            go_wp2
            go_quiet (fail)
            go_wp2
            go_roundw
            case rel => exact ⟨k + 1, _, by omega, by go_num, rfl, unhide Hp⟩
            case measure => simp [intOf]; omega
          | false =>
            rw [hq] at hpe hp
            rw [if_neg (by decide)] at hp
            rw [hp] at Hs
            clear hp hq
            generalize picAt L k = pk at *
            generalize picAt L2 k = qk at *
            go_wp2
            go_quiet (fail)
            go_wp2
            go_ret
            exact ⟨by rw [unhide Hs]; rfl, (((Kept.refl (fun _ => False) w).drewN nq2).drewN _).below⟩
        · have hki : ¬ (k : Int) < (L.length : Int) := by omega
          rw [show L.length - k = 0 by omega, picsEq] at hp
          rw [hp] at Hs
          clear hp
          go_wp2
          go_ret
          exact ⟨by rw [unhide Hs]; rfl, ((Kept.refl (fun _ => False) w).drewN nq2).below⟩
    · rw [if_neg (fun x => hll x.2)] at Hs
      rw [decide_eq_true hcc] at he
      have bl : ((L.length : Int) != (L2.length : Int)) = true := by rw [bne_iff_ne]; omega
      clear hcc
      go_enter Tryz.func59, Tryz.ntmps59
      go_wp2
      go_quiet (fail)
      go_wp2
      go_ret
      exact ⟨by rw [unhide Hs]; rfl, ((Kept.refl (fun _ => False) w).drewN nq).below⟩
  · rw [if_neg (fun x => hcc x.1)] at Hs
    rw [decide_eq_false hcc] at he
    clear hcc
    go_enter Tryz.func59, Tryz.ntmps59
    go_wp2
    go_quiet (fail)
    go_wp2
    go_ret
    exact ⟨by rw [unhide Hs]; rfl, ((Kept.refl (fun _ => False) w).drewN nq).below⟩
end Go.Proofs.YtknjjjenklfeoaaGreatDoor

/-
  A region that draws its order and ends in one store: loads are taken first, by what holds of the world until that store (the kit's law on regions that draw, said for a condition that the last operation may break).
-/
namespace Go.Proofs.YtknjjjenklfeoaaGreatDoor
open Go.RowKit
section
variable {P : Program} {ops : Array Oper} {Q : Exit → Act → World → Prop} {md : Region.Mode} {T : World → Prop} {k : Nat}

def wpAnyL (P : Program) (md : Region.Mode) (ops : Array Oper) (Q : Exit → Act → World → Prop) (T : World → Prop) (k : Nat) : Nat → Array Bool → Act → World → Prop
  | 0, listed, a, w => Region.ready md ops listed = [] ∧ Q .normal a w
  | fuel + 1, listed, a, w =>
    (Region.ready md ops listed = [] → Q .normal a w) ∧
    ∀ i ∈ Region.ready md ops listed, wpOp P ops Q i (fun a' w' => (i = k ∨ T w') ∧ wpAnyL P md ops Q T k fuel (listed.setIfInBounds i true) a' w') a w
theorem wpAny_of_L : ∀ (fuel : Nat) (listed : Array Bool) (a : Act) (w : World), wpAnyL P md ops Q T k fuel listed a w → wpAny P md ops Q fuel listed a w
  | 0, _, _, _, h => h
  | fuel + 1, _, _, _, h => ⟨h.1, fun i hi => wpOp_mono (fun a' w' h' => wpAny_of_L fuel _ a' w' h'.2) (h.2 i hi)⟩
theorem wpAnyL_first {i : Nat} {oi ok : Oper} {v : Value} (hi : ops[i]? = some oi) (hok : ops[k]? = some ok) (hdep : ∃ e ∈ ok.after, Region.binds md e = true ∧ e.on = i)
    (hsel : ∀ (j : Nat) (o : Oper) cs b, ops[j]? = some o → o.op ≠ .select cs b) (hik : i ≠ k)
    (hQ : ∀ c a w, Q (.panic c) (a.put oi.dst v) w → Q (.panic c) a w) :
    ∀ (fuel : Nat) (listed : Array Bool) (a : Act) (w : World),
      (∀ j oj, ops[j]? = some oj → j ≠ i → listed.getD j true = false → (∀ e ∈ oj.after, Region.binds md e = true → e.on ≠ i) → oi.apart ops oj = true) →
      i ∈ Region.ready md ops listed → YieldsIf P ops T oi v a → T w →
      wpAnyL P md ops Q T k fuel (listed.setIfInBounds i true) (a.put oi.dst v) w → wpAnyL P md ops Q T k (fuel + 1) listed a w := by
  intro fuel
  induction fuel with
  | zero =>
    intro listed a w _ hr hy hS H
    refine ⟨fun h => (by rw [h] at hr; cases hr), fun j hj => ?_⟩
    by_cases hji : j = i
    · subst hji; exact hy.wpOp hi hS ⟨Or.inr hS, H⟩
    · have := ready_mono hj hji
      rw [H.1] at this
      cases this
  | succ fuel ih =>
    intro listed a w hfree hr hy hS H
    refine ⟨fun h => (by rw [h] at hr; cases hr), fun j hj => ?_⟩
    by_cases hji : j = i
    · subst hji; exact hy.wpOp hi hS ⟨Or.inr hS, H⟩
    · have h1 := H.2 j (ready_mono hj hji)
      obtain ⟨hjun, oj, hoj, hall⟩ := mem_ready.1 hj
      have hnot : ∀ e ∈ oj.after, Region.binds md e = true → e.on ≠ i := fun e he hb heq => by
        have h1 := hall e he hb
        have h0 := (mem_ready.1 hr).1
        rw [heq] at h1
        rcases Nat.lt_or_ge i listed.size with h' | h'
        · simp [h'] at h0 h1; rw [h0] at h1; cases h1
        · simp [Array.getElem?_eq_none h'] at h1
      have hjk : j ≠ k := fun e => by
        subst e
        rw [hok] at hoj
        injection hoj with hoj
        subst hoj
        obtain ⟨e, he, hb, ho⟩ := hdep
        exact hnot e he hb ho
      have h2 := wpOp_putIf hoj (hfree j oj hoj hji hjun hnot) (fun cs b => hsel i oi cs b hi) (fun cs b => hsel j oj cs b hoj) hQ hy h1
      have hfree' : ∀ k ok, ops[k]? = some ok → k ≠ i → (listed.setIfInBounds j true).getD k true = false →
          (∀ e ∈ ok.after, Region.binds md e = true → e.on ≠ i) → oi.apart ops ok = true := fun k ok hk hki hun hno => by
        refine hfree k ok hk hki ?_ hno
        by_cases hjk : j = k
        · subst hjk; exact hjun
        · rw [getD_set_ne true hjk] at hun; exact hun
      refine wpOp_mono (fun a' w' h3 => ?_) h2
      have hT : T w' := by
        rcases h3.2.1 with z | z
        · exact absurd z hjk
        · exact z
      refine ⟨Or.inr hT, ih (listed.setIfInBounds j true) a' w' hfree' (ready_mono hr (Ne.symm hji)) h3.1 hT ?_⟩
      rw [Array.setIfInBounds_comm _ _ hji]
      exact h3.2.2
/-- The k-th waits for the i-th. -/
def waits (md : Region.Mode) (ops : Array Oper) (k i : Nat) : Bool := i != k && (match ops[k]? with
  | some o => o.after.any fun e => Region.binds md e && e.on == i
  | none => false)
theorem wpAnyL_take {i : Nat} {oi : Oper} {v : Value} {fuel : Nat} {listed : Array Bool} {a : Act} {w : World} (hi : ops[i]? = some oi) (hk : waits md ops k i = true)
    (hs : Region.noSelect ops = true) (hf : Region.free md ops listed i = true) (hr : (Region.ready md ops listed).contains i = true)
    (hQ : ∀ c a w, Q (.panic c) (a.put oi.dst v) w → Q (.panic c) a w) (hy : YieldsIf P ops T oi v a) (hS : T w)
    (h : wpAnyL P md ops Q T k fuel (listed.setIfInBounds i true) (a.put oi.dst v) w) : wpAnyL P md ops Q T k (fuel + 1) listed a w := by
  unfold waits at hk
  rw [Bool.and_eq_true] at hk
  obtain ⟨h1, h2⟩ := hk
  cases hq : ops[k]? with
  | none => rw [hq] at h2; cases h2
  | some ok =>
    rw [hq] at h2
    simp only [Array.any_eq_true'] at h2
    obtain ⟨e, he, h3⟩ := h2
    rw [Bool.and_eq_true] at h3
    exact wpAnyL_first hi hq ⟨e, he, h3.1, by simpa using h3.2⟩ (Region.noSelect_spec hs) (by simpa using h1) hQ fuel listed a w (Region.free_spec hi hf) (by simpa using hr) hy hS h
/-- One alone may come up. -/
theorem wpAnyL_one {i : Nat} {oi : Oper} {fuel : Nat} {listed : Array Bool} {a : Act} {w : World} (hr : Region.ready md ops listed = [i]) (hi : ops[i]? = some oi)
    (h : ∀ K : Act → World → Prop, (∀ a' w', (i = k ∨ T w') → wpAnyL P md ops Q T k fuel (listed.setIfInBounds i true) a' w' → K a' w') → if Region.wanted oi (yielded ops a.tmps) = true then Oper.wp P oi a w K Q else K (a.put oi.dst undef) w) : wpAnyL P md ops Q T k (fuel + 1) listed a w := by
  refine ⟨fun h0 => (by rw [hr] at h0; cases h0), fun j hj => ?_⟩
  rw [hr, List.mem_singleton] at hj
  subst hj
  have h := h (fun a' w' => (j = k ∨ T w') ∧ wpAnyL P md ops Q T k fuel (listed.setIfInBounds j true) a' w') (fun a' w' h1 h2 => ⟨h1, h2⟩)
  unfold wpOp
  simp only [hi]
  split
  · rename_i hw
    rw [if_pos hw] at h
    exact Or.inl h
  · rename_i hw
    rw [if_neg hw] at h
    exact h
theorem wpAnyL_done {listed : Array Bool} {a : Act} {w : World} (hr : Region.ready md ops listed = []) (h : Q .normal a w) : ∀ fuel, wpAnyL P md ops Q T k fuel listed a w
  | 0 => ⟨hr, h⟩
  | _ + 1 => ⟨fun _ => h, by rw [hr]; simp⟩
theorem wp_region_L {id : Nat} {a : Act} {w : World} (T : World → Prop) (k : Nat) (hm : P.follows .mixedOrders = true)
    (h : wpAnyL P .any ops Q T k ops.size (Array.replicate ops.size false) a { w with drawn := w.drawn + 1 }) : (Code.region id ops true).wp P Q a w :=
  wp_region_any hm (wpAny_of_L _ _ _ _ h)
end
end Go.Proofs.YtknjjjenklfeoaaGreatDoor
