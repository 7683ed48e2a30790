import Derived.Test.YtknjjjenklfeoaaGreatDoorP41
import Derived.Test.YtknjjjenklfeoaaGreatDoorP23
import Derived.Test.YtknjjjenklfeoaaGreatDoorP40
import Derived.Test.YtknjjjenklfeoaaGreatDoorP02
import Derived.Test.YtknjjjenklfeoaaGreatDoorP01
import Derived.Test.YtknjjjenklfeoaaGreatDoorP03
/-
  The reference's pictures: Return, List.
-/
namespace Go.Proofs.YtknjjjenklfeoaaGreatDoor
open Go.RowKit
attribute [local go_sem ↓] loadVar_clus storeVar_clus zeroValue_clus loadVar_cont storeVar_cont zeroValue_cont build_disk equalIn_cont loadVar_pic buildSlice_pic equalIn_pic build_pic
attribute [local go_sem] run_loadClus run_storeClus run_zeroClus run_storeClus_new run_loadClus_new zc_length run_loadCont run_storeCont run_zeroCont run_bDisk run_loadPic run_bsPic run_bPic

theorem DiskAt.setC {w : World} {d : Nat} {Pv : Value} {C : List Clus} {L : List PicR} (h : DiskAt w d Pv ⟨C, L⟩) {C' : List Clus} (hC : Cont C') : DiskAt (w.setCells d 0 (flatC C')) d Pv ⟨C', L⟩ := by
  have hk : Kept (fun x => x = d) w (w.setCells d 0 (flatC C')) := Kept.onlys _ _ _ _
  refine ⟨?_, ownsRow_kept hk h.row (fun g hg => h.neP g hg), hC, h.pics⟩
  have := heap_setCells_same (flatC C') 0 w d _ _ _ h.blk
  rw [this]
  congr 2
  show setList (flatC C ++ [Pv]).toArray 0 (flatC C') = (flatC C' ++ [Pv]).toArray
  exact setList_front _ _ _ (by have h1 := h.cont.flat; have h2 := hC.flat; simp only at h1; omega)

def refReturnR (D : DiskR) (s : ByteArray) : DiskR × Nat := if (thereR D s).2 = 0 then (⟨(picAt D.L (thereR D s).1.toNat).C, D.L⟩, 0) else (D, (thereR D s).2)
set_option maxHeartbeats 1000000 in
set_option maxRecDepth 100000 in
theorem refReturn_any (w : World) (d : Nat) (Pv : Value) (D : DiskR) (h : DiskAt w d Pv D) (h4 : D.L.length ≤ 1000) (s : ByteArray) (hs : s.size ≤ maxLen) :
    Calls Tryz.prog 121 #[.pointer (some ⟨d, 0, none⟩), .string s] w fun e w' => e = .returned (.int .i64 ((refReturnR D s).2 : Nat)) ∧ DiskAt w' d Pv (refReturnR D s).1 ∧ Kept (fun x => x = d) w w' := by
  obtain ⟨C, L⟩ := D
  have Ht := hide (there_any w d Pv ⟨C, L⟩ h h4 s hs)
  have H := hide h
  obtain ⟨a, cap, hPv⟩ := row_form h.row
  subst hPv
  simp only at h4
  have HR : Hid (refReturnR ⟨C, L⟩ s = if (thereR ⟨C, L⟩ s).2 = 0 then (⟨(picAt L (thereR ⟨C, L⟩ s).1.toNat).C, L⟩, 0) else (⟨C, L⟩, (thereR ⟨C, L⟩ s).2)) := rfl
  clear h
  rcases (show (∃ m, m ≠ 0 ∧ thereR ⟨C, L⟩ s = (-1, m)) ∨ ∃ i, i < L.length ∧ thereR ⟨C, L⟩ s = (((i : Nat) : Int), 0) by
    rcases thereR_cases ⟨C, L⟩ s with (e | e) | ⟨i, hi, e⟩
    · exact Or.inl ⟨2, by decide, e⟩
    · exact Or.inl ⟨4, by decide, e⟩
    · exact Or.inr ⟨i, hi, e⟩) with ⟨m, hm, e⟩ | ⟨i, hi, e⟩
  · rw [e, if_neg hm] at HR
    rw [e] at Ht
    dsimp only at Ht HR
    have d0 : (((m : Nat) : Int) == 0) = false := by rw [beq_eq_false_iff_ne]; omega
    clear e
    go_enter Tryz.func121, Tryz.ntmps121
    go_wp2_with fail
    refine (unhide Ht).mono ?_
    rintro e w1 ⟨rfl, hb1⟩
    have H1 := hide ((unhide H).below hb1)
    have HK : Hid (Kept (fun x => x = d) w w1) := ⟨hb1.os, hb1.tape, hb1.output, hb1.size, fun k hk _ => hb1.block k hk⟩
    clear hb1 Ht
    go_wp2
    go_ret
    rw [unhide HR]
    exact ⟨rfl, unhide H1, unhide HK⟩
  · rw [e, if_pos rfl] at HR
    rw [e] at Ht
    dsimp only at Ht HR
    rw [Int.toNat_natCast] at HR
    have hii : (i : Int) < (L.length : Int) := by omega
    obtain ⟨g2, cap2, e2, _⟩ := row_some (unhide H).row (show 0 < L.length by omega)
    obtain ⟨rfl, rfl⟩ : a = some ⟨g2, 0, none⟩ ∧ cap = cap2 := by injection e2 with x1 x2 x3; exact ⟨x1, x3⟩
    clear e e2
    go_enter Tryz.func121, Tryz.ntmps121
    go_wp2_with fail
    refine (unhide Ht).mono ?_
    rintro e w1 ⟨rfl, hb1⟩
    have H1 := (unhide H).below hb1
    have hpc := H1.pics _ (picAt_mem hi)
    have rg := pic_cont (pics_range H1.row H1.pics i hi)
    have c1 : w1.cell? ⟨d, 4096, none⟩ = some (.slice (some ⟨g2, 0, none⟩) L.length cap) := H1.cPv
    have r1 := hasAt_of_range (n := 4096) rg hpc.flat
    have r2 := cellsAt_of_range (n := 4096) rg hpc.flat
    have th := there_blk H1.blk 0 4096 (by have := H1.cont.flat; simp only at this; simp [diskCells, this])
    have hA := hpc.all
    have hl := hpc.len
    generalize (picAt L i).C = C' at *
    have H2 := hide (H1.setC hpc)
    have HK : Hid (Kept (fun x => x = d) w (w1.setCells d 0 (flatC C'))) := (show Kept (fun x => x = d) w w1 from ⟨hb1.os, hb1.tape, hb1.output, hb1.size, fun k hk _ => hb1.block k hk⟩).trans (Kept.onlys w1 d 0 (flatC C'))
    clear hb1 Ht H1 rg
    go_wp2
    go_ret
    rw [unhide HR]
    exact ⟨rfl, unhide H2, unhide HK⟩

def picNames (Ps : List PicR) (k : Nat) : List (List UInt8) := (Ps.take k).map (·.name)
theorem picNames_succ (Ps : List PicR) (k : Nat) (hk : k < Ps.length) : picNames Ps (k + 1) = picNames Ps k ++ [(picAt Ps k).name] := by
  unfold picNames picAt
  rw [List.take_succ_eq_append_getElem hk, List.map_append, List.getD_eq_getElem?_getD, List.getElem?_eq_getElem hk]; rfl
set_option maxHeartbeats 1000000 in
set_option maxRecDepth 100000 in
theorem refList_any (w : World) (d : Nat) (Pv : Value) (D : DiskR) (h : DiskAt w d Pv D) (h4 : D.L.length ≤ 1000) :
    Calls Tryz.prog 128 #[.pointer (some ⟨d, 0, none⟩)] w fun e w' => ∃ x, e = .returned x ∧ w'.ownsRow w.heap.size 9 1 x D.L.length (sv (picNames D.L D.L.length)) ∧ Below w.heap.size w w' := by
  obtain ⟨i0, hi0, hz0, hz1, hz2⟩ := info_parts Tryz.infoStr
  obtain ⟨C, L⟩ := D
  obtain ⟨a, cap, hPv⟩ := row_form h.row
  subst hPv
  have hlt0 := h.lt
  simp only at h4
  have H := hide h
  clear h
  go_enter Tryz.func128, Tryz.ntmps128
  go_wp2
  go_loopw [3, 4] (fun f i w' => ∃ k : Nat, k ≤ L.length ∧ i = .int .i64 k ∧ w'.ownsRow w.heap.size 9 1 f k (sv (picNames L k)) ∧ Below w.heap.size w w') (fun _ i _ => L.length - (intOf i).toNat)
  case atStart => exact ⟨0, by omega, rfl, World.ownsRow_nil _ _ _ _, Below.refl _ _⟩
  case round =>
    obtain ⟨k, hk, rfl, hrow, hb⟩ := hrel
    obtain ⟨fa, fcap, rfl⟩ := row_form hrow
    have hD := (unhide H).below hb
    have c0 : wr.cell? ⟨d, 4096, none⟩ = some (.slice a L.length cap) := hD.cPv
    by_cases hlt : k < L.length
    · obtain ⟨g2, cap2, e2, _⟩ := row_some hD.row (show 0 < L.length by omega)
      obtain ⟨rfl, rfl⟩ : a = some ⟨g2, 0, none⟩ ∧ cap = cap2 := by injection e2 with x1 x2 x3; exact ⟨x1, x3⟩
      have c1 := pic_name (pics_range hD.row hD.pics k hlt)
      have hki : (k : Int) < (L.length : Int) := by omega
      have hs := picNames_succ L k hlt
      generalize (picAt L k).name = nm at *
      have Hrow := hide hrow
      have Hb := hide hb
      clear hrow hb hD e2
      go_wp2_with (at_builtin; refine wpList_append_lies _ rfl _ _ _ rfl w.heap.size 9 i0 _ 1 16 Tryz.underlying34 hi0 hz0 hz1 hz2 rfl (by omega) (.slice fa k fcap) k (sv (picNames L k)) rfl ((unhide Hrow).alloc _) ⟨wr.heap.size, 0, none⟩ 1 1 [.string (txt nm)] rfl rfl (World.news_of_block (cs := #[.string (txt nm)]) (t := 9) (fr := (0, 0)) (heap_alloc_new wr _)) (by simp [Value.oneCell']) (by omega) (by unfold maxLen; omega) (by omega) (by have := (unhide Hb).size; simp; omega) (wr.heap.size + 1) (by simp) ?_; intro g5 cap5 w5 hown5 hgrow hat hlt5)
      have S5 := hide (((unhide Hb).alloc (unhide Hb).size (.cells #[.string (txt nm)] 9)).grown hgrow (by have := (unhide Hb).size; simp; omega) (fun k hk => ((unhide Hrow).lt k hk).1))
      go_roundw
      case rel => exact ⟨k + 1, by omega, by go_num, by rw [hs, sv_snoc]; exact hown5, unhide S5⟩
      case measure => simp [intOf]; omega
    · have hk4 : k = L.length := by omega
      have Hrow := hide hrow
      have Hb := hide hb
      clear hrow hb hD
      rw [hk4] at Hrow
      go_wp2
      go_ret
      refine ⟨_, rfl, ?_, unhide Hb⟩
      have := unhide Hrow
      rw [← hk4] at this ⊢
      exact this
end Go.Proofs.YtknjjjenklfeoaaGreatDoor

/-
  The reference's pictures: Take, Drop.
-/
namespace Go.Proofs.YtknjjjenklfeoaaGreatDoor
open Go.RowKit
attribute [local go_sem ↓] loadVar_clus storeVar_clus zeroValue_clus loadVar_cont storeVar_cont zeroValue_cont build_disk equalIn_cont loadVar_pic buildSlice_pic equalIn_pic build_pic
attribute [local go_sem] run_loadClus run_storeClus run_zeroClus run_storeClus_new run_loadClus_new zc_length run_loadCont run_storeCont run_zeroCont run_bDisk run_loadPic run_bsPic run_bPic

def refTakeR (D : DiskR) (s : ByteArray) : DiskR × Nat :=
  if isNameB s.data.toList = false then (D, 2) else if 0 ≤ refFind D s then (D, 3) else if 4 ≤ D.L.length then (D, 5) else (⟨D.C, D.L ++ [⟨s.data.toList, D.C⟩]⟩, 0)
/-- What a call has done to the reference's disk. -/
structure DStep (w w' : World) (d : Nat) (Pv Qv : Value) (D' : DiskR) : Prop where
  at' : DiskAt w' d Qv D'
  kept : Kept (fun x => x = d ∨ Pv.ownBlock = some x) w w'
  new : ∀ g, Qv.ownBlock = some g → Pv.ownBlock = some g ∨ w.heap.size ≤ g
theorem DStep.refl {w : World} {d : Nat} {Pv : Value} {D : DiskR} (h : DiskAt w d Pv D) : DStep w w d Pv Pv D := ⟨h, Kept.refl _ _, fun _ hg => Or.inl hg⟩

set_option maxHeartbeats 2000000 in
set_option maxRecDepth 100000 in
theorem refTake_any (w : World) (d : Nat) (Pv : Value) (D : DiskR) (h : DiskAt w d Pv D) (h4 : D.L.length ≤ 1000) (s : ByteArray) (hs : s.size ≤ maxLen) :
    Calls Tryz.prog 119 #[.pointer (some ⟨d, 0, none⟩), .string s] w fun e w' => e = .returned (.int .i64 ((refTakeR D s).2 : Nat)) ∧ ∃ Qv, DStep w w' d Pv Qv (refTakeR D s).1 := by
  have Hi := hide (isName_any s w hs)
  have Hf := hide (refFind_any w d Pv D h h4 s)
  have HR : Hid (refTakeR D s = if isNameB s.data.toList = false then (D, 2) else if 0 ≤ refFind D s then (D, 3) else if 4 ≤ D.L.length then (D, 5) else (⟨D.C, D.L ++ [⟨s.data.toList, D.C⟩]⟩, 0)) := rfl
  generalize isNameB s.data.toList = b at *
  generalize refFind D s = f at *
  have H := hide h
  cases b with
  | false =>
    rw [if_pos rfl] at HR
    clear h
    go_enter Tryz.func119, Tryz.ntmps119
    go_wp2_with fail
    refine (unhide Hi).mono ?_
    rintro e w1 ⟨rfl, rfl⟩
    go_wp2
    go_ret
    rw [unhide HR]
    exact ⟨rfl, _, DStep.refl (unhide H)⟩
  | true =>
    rw [if_neg (by decide)] at HR
    by_cases hf : 0 ≤ f
    · rw [if_pos hf] at HR
      have df : decide (f ≥ 0) = true := decide_eq_true hf
      clear h
      go_enter Tryz.func119, Tryz.ntmps119
      go_wp2_with fail
      refine (unhide Hi).mono ?_
      rintro e w1 ⟨rfl, rfl⟩
      go_wp2_with fail
      refine (unhide Hf).mono ?_
      rintro e w2 ⟨rfl, rfl⟩
      go_wp2
      go_ret
      rw [unhide HR]
      exact ⟨rfl, _, DStep.refl (unhide H)⟩
    · rw [if_neg hf] at HR
      have df : decide (f ≥ 0) = false := decide_eq_false hf
      obtain ⟨C, L⟩ := D
      obtain ⟨a, cap, hPv⟩ := row_form h.row
      subst hPv
      simp only at h4 HR
      have c0 : w.cell? ⟨d, 4096, none⟩ = some (.slice a L.length cap) := h.cPv
      by_cases hl : 4 ≤ L.length
      · rw [if_pos hl] at HR
        have dl : decide (((L.length : Nat) : Int) ≥ 4) = true := decide_eq_true (by omega)
        clear h
        go_enter Tryz.func119, Tryz.ntmps119
        go_wp2_with fail
        refine (unhide Hi).mono ?_
        rintro e w1 ⟨rfl, rfl⟩
        go_wp2_with fail
        refine (unhide Hf).mono ?_
        rintro e w2 ⟨rfl, rfl⟩
        go_wp2
        go_ret
        rw [unhide HR]
        exact ⟨rfl, _, DStep.refl (unhide H)⟩
      · rw [if_neg hl] at HR
        have dl : decide (((L.length : Nat) : Int) ≥ 4) = false := decide_eq_false (by omega)
        obtain ⟨i0, hi0, hz0, hz1, hz2⟩ := info_parts Tryz.infoPic
        have l1 : HasAt w.drew d 0 4096 := h.has
        have l2 : cellsAt w.drew d 0 4096 = flatC C := h.cells
        have hA := h.cont.all
        have hlC := h.cont.len
        have hpc : Cont (⟨s.data.toList, C⟩ : PicR).C := h.cont
        have c1 : w.drew.cell? ⟨d, 4096, none⟩ = some (.slice a L.length cap) := h.cPv
        have c3 : ∀ o, (w.alloc o).drew.cell? ⟨d, 4096, none⟩ = some (.slice a L.length cap) := fun o => (World.cell?_alloc_lt w o _ h.lt).trans h.cPv
        have hbp := run_bPic (w := w.drew) (nm := s.data.toList) hA hlC
        rw [txt_self] at hbp
        have hrow := h.row
        simp only at hrow
        have Hrow := hide hrow
        have Hne := hide h.neP
        have hdl := h.lt
        clear hrow h
        go_enter Tryz.func119, Tryz.ntmps119
        go_wp2_with fail
        refine (unhide Hi).mono ?_
        rintro e w1 ⟨rfl, rfl⟩
        go_wp2_with fail
        refine (unhide Hf).mono ?_
        rintro e w2 ⟨rfl, rfl⟩
        clear Hi Hf
        go_wp2
        go_region_law (refine step_append_lies _ (by rfl) _ _ _ (by rfl) 0 139 i0 _ 4097 4112 Tryz.underlying68 hi0 hz0 hz1 hz2 (by rw [show (Value.agg (picCells ⟨[], zD⟩).toArray).cells.size = (picCells ⟨[], zD⟩).length from by simp [Value.cells]]; exact picCells_length (p := ⟨[], zD⟩) ⟨zD_all, zD_length⟩) (by omega) (.slice a L.length cap) L.length (L.flatMap picCells) (by rfl) ((ownsRow_kept (S := fun _ => False) ((Kept.refl _ w2).drew) (unhide Hrow) (fun _ _ => id)).alloc _) ⟨w2.heap.size, 0, none⟩ 1 1 (picCells ⟨s.data.toList, C⟩) (by rfl) (by rw [picCells_length hpc]) (World.news_of_block (cs := (picCells ⟨s.data.toList, C⟩).toArray) (t := 139) (fr := (0, 0)) (heap_alloc_new w2.drew _)) (picCells_one ⟨s.data.toList, C⟩) (by omega) (by unfold maxLen; omega) (by omega) (by omega) (w2.heap.size + 1) (by simp) ?_
                       intro g5 cap5 w5 hown5 hgrow hat hlt5
                       have b5 := hide (grown_blk hgrow ((unhide H).below (((Below.refl _ w2).drew).alloc (Nat.le_refl _) _)).blk (unhide Hne))
                       have c5 : w5.cell? ⟨d, 4096, none⟩ = some (.slice a L.length cap) := (cell_blk (unhide b5) 4096).trans (by rw [← cell_blk (unhide H).blk]; exact (unhide H).cPv)
                       have z5 : ∀ i, w5.frozen? ⟨d, i, none⟩ = false := fun i => frozen_blk (unhide b5) i)
        all_goals
          have hgn : g5 ≠ d := by
            rcases hat with x | x
            · exact unhide Hne g5 x
            · omega
          have hD5 : DiskAt (w5.setCell ⟨d, 4096, none⟩ (.slice (some ⟨g5, 0, none⟩) (L.length + 1) cap5)) d (.slice (some ⟨g5, 0, none⟩) (L.length + 1) cap5) ⟨C, L ++ [⟨s.data.toList, C⟩]⟩ :=
            ((unhide H).below (((Below.refl _ w2).drew).alloc (Nat.le_refl _) (.cells (picCells ⟨s.data.toList, C⟩).toArray 139))).growP (g5 := g5) (cap5 := cap5) hpc (unhide Hne) hgrow hown5 hgn
          have kA : Kept (fun x => x = d ∨ (Value.slice a L.length cap).ownBlock = some x) w2 (w2.drew.alloc (.cells (picCells ⟨s.data.toList, C⟩).toArray 139)) := ((Kept.refl _ _).drew).alloc _
          have kB : Kept (fun x => x = d ∨ (Value.slice a L.length cap).ownBlock = some x) (w2.drew.alloc (.cells (picCells ⟨s.data.toList, C⟩).toArray 139)) w5 := ⟨hgrow.os, hgrow.tape, hgrow.output, hgrow.size, fun k hk hs => hgrow.block k hk (fun e => hs (Or.inr e.symm))⟩
          have kC : Kept (fun x => x = d ∨ (Value.slice a L.length cap).ownBlock = some x) w5 (w5.setCell ⟨d, 4096, none⟩ (.slice (some ⟨g5, 0, none⟩) (L.length + 1) cap5)) := (Kept.only w5 d 4096 _).mono (fun _ e => Or.inl e)
          have HS : Hid (DStep w2 (w5.setCell ⟨d, 4096, none⟩ (.slice (some ⟨g5, 0, none⟩) (L.length + 1) cap5)) d (.slice a L.length cap) (.slice (some ⟨g5, 0, none⟩) (L.length + 1) cap5) ⟨C, L ++ [⟨s.data.toList, C⟩]⟩) :=
            ⟨hD5, (kA.trans kB).trans kC, fun g hg => by
              simp only [Value.ownBlock, Option.some.injEq] at hg
              subst hg
              rcases hat with x | x
              · exact Or.inl x
              · exact Or.inr (by omega)⟩
          clear hD5 hgrow hown5 kA kB kC
          go_wp2
          go_ret
          rw [unhide HR]
          exact ⟨rfl, _, unhide HS⟩
end Go.Proofs.YtknjjjenklfeoaaGreatDoor

/-
  The reference's pictures: Drop.
-/
namespace Go.Proofs.YtknjjjenklfeoaaGreatDoor
open Go.RowKit
attribute [local go_sem ↓] loadVar_clus storeVar_clus zeroValue_clus loadVar_cont storeVar_cont zeroValue_cont build_disk equalIn_cont loadVar_pic buildSlice_pic equalIn_pic build_pic
attribute [local go_sem] run_loadClus run_storeClus run_zeroClus run_storeClus_new run_loadClus_new zc_length run_loadCont run_storeCont run_zeroCont run_bDisk run_loadPic run_bsPic run_bPic

theorem DiskAt.newP {w : World} {d : Nat} {Pv Qv : Value} {C : List Clus} {L L' : List PicR} (h : DiskAt w d Pv ⟨C, L⟩) (hrow : w.ownsRow 0 139 4097 Qv L'.length (L'.flatMap picCells)) (hp : ∀ p ∈ L', Cont p.C) (hne : ∀ g, Qv.ownBlock = some g → g ≠ d) :
    DiskAt (w.setCell ⟨d, 4096, none⟩ Qv) d Qv ⟨C, L'⟩ := by
  have hk : Kept (fun x => x = d) w (w.setCell ⟨d, 4096, none⟩ Qv) := Kept.only _ _ _ _
  refine ⟨?_, ownsRow_kept hk hrow hne, h.cont, hp⟩
  rw [heap_setCell_same _ _ _ _ _ _ _ h.blk]
  congr 2
  have hf := h.cont.flat
  simp only at hf
  show (flatC C ++ [Pv]).toArray.setIfInBounds 4096 Qv = (flatC C ++ [Qv]).toArray
  rw [List.setIfInBounds_toArray, List.set_append_right _ _ (by omega), hf]
  rfl
def erTo (L : List PicR) (a k : Nat) : List PicR := (L.take k).eraseIdx a
theorem erTo_skip (L : List PicR) (a : Nat) (ha : a < L.length) : erTo L a (a + 1) = erTo L a a := by
  unfold erTo
  have hl : (L.take a).length = a := by simp; omega
  have e1 : (L.take a ++ [L[a]]).eraseIdx a = L.take a := by
    rw [List.eraseIdx_append_of_length_le (by omega), show a - (L.take a).length = 0 by omega]
    simp
  have e2 : (L.take a).eraseIdx a = L.take a := List.eraseIdx_of_length_le (by omega)
  rw [List.take_succ_eq_append_getElem ha, e1, e2]
theorem erTo_add (L : List PicR) (a k : Nat) (hk : k < L.length) (hne : k ≠ a) : erTo L a (k + 1) = erTo L a k ++ [picAt L k] := by
  unfold erTo
  have hl : (L.take k).length = k := by simp; omega
  have hp : picAt L k = L[k] := by unfold picAt; rw [List.getD_eq_getElem?_getD, List.getElem?_eq_getElem hk]; rfl
  rw [List.take_succ_eq_append_getElem hk, hp]
  by_cases h : a < k
  · rw [List.eraseIdx_append_of_lt_length (by omega)]
  · rw [List.eraseIdx_append_of_length_le (by omega), List.eraseIdx_of_length_le (l := L.take k) (by omega), List.eraseIdx_of_length_le (by simp; omega)]
theorem erTo_mem {L : List PicR} {a k : Nat} {p : PicR} (h : p ∈ erTo L a k) : p ∈ L := List.mem_of_mem_take (List.mem_of_mem_eraseIdx h)
theorem erTo_len (L : List PicR) (a k : Nat) : (erTo L a k).length ≤ k := by
  have := List.length_eraseIdx_le (L.take k) a
  unfold erTo
  simp only [List.length_take] at this
  omega
/-- What a call has done to the reference's disk, in its own block alone. -/
structure DOnly (w w' : World) (d : Nat) (Pv Qv : Value) (D' : DiskR) : Prop where
  at' : DiskAt w' d Qv D'
  kept : Kept (fun x => x = d) w w'
  new : ∀ g, Qv.ownBlock = some g → Pv.ownBlock = some g ∨ w.heap.size ≤ g
def refDropR (D : DiskR) (s : ByteArray) : DiskR × Nat := if (thereR D s).2 = 0 then (⟨D.C, D.L.eraseIdx (thereR D s).1.toNat⟩, 0) else (D, (thereR D s).2)
set_option maxHeartbeats 2000000 in
set_option maxRecDepth 100000 in
theorem refDrop_any (w : World) (d : Nat) (Pv : Value) (D : DiskR) (h : DiskAt w d Pv D) (h4 : D.L.length ≤ 1000) (s : ByteArray) (hs : s.size ≤ maxLen) :
    Calls Tryz.prog 65 #[.pointer (some ⟨d, 0, none⟩), .string s] w fun e w' => e = .returned (.int .i64 ((refDropR D s).2 : Nat)) ∧ ∃ Qv, DOnly w w' d Pv Qv (refDropR D s).1 := by
  obtain ⟨C, L⟩ := D
  have Ht := hide (there_any w d Pv ⟨C, L⟩ h h4 s hs)
  have H := hide h
  obtain ⟨a, cap, hPv⟩ := row_form h.row
  subst hPv
  simp only at h4
  have hdl := h.lt
  have HR : Hid (refDropR ⟨C, L⟩ s = if (thereR ⟨C, L⟩ s).2 = 0 then (⟨C, L.eraseIdx (thereR ⟨C, L⟩ s).1.toNat⟩, 0) else (⟨C, L⟩, (thereR ⟨C, L⟩ s).2)) := rfl
  clear h
  rcases (show (∃ m, m ≠ 0 ∧ thereR ⟨C, L⟩ s = (-1, m)) ∨ ∃ i, i < L.length ∧ thereR ⟨C, L⟩ s = (((i : Nat) : Int), 0) by
    rcases thereR_cases ⟨C, L⟩ s with (e | e) | ⟨i, hi, e⟩
    · exact Or.inl ⟨2, by decide, e⟩
    · exact Or.inl ⟨4, by decide, e⟩
    · exact Or.inr ⟨i, hi, e⟩) with ⟨m, hm, e⟩ | ⟨i, hi, e⟩
  · rw [e, if_neg hm] at HR
    rw [e] at Ht
    dsimp only at Ht HR
    have d0 : (((m : Nat) : Int) != 0) = true := by rw [bne_iff_ne]; omega
    clear e
    go_enter Tryz.func65, Tryz.ntmps65
    go_wp2_with fail
    refine (unhide Ht).mono ?_
    rintro e w1 ⟨rfl, hb1⟩
    have HS : Hid (DOnly w w1 d (.slice a L.length cap) (.slice a L.length cap) ⟨C, L⟩) := ⟨(unhide H).below hb1, Kept.of_below hb1, fun g hg => Or.inl hg⟩
    clear hb1 Ht
    go_wp2
    go_ret
    rw [unhide HR]
    exact ⟨rfl, _, unhide HS⟩
  · rw [e, if_pos rfl] at HR
    rw [e] at Ht
    dsimp only at Ht HR
    rw [Int.toNat_natCast] at HR
    obtain ⟨i0, hi0, hz0, hz1, hz2⟩ := info_parts Tryz.infoPic
    obtain ⟨g2, cap2, e2, _⟩ := row_some (unhide H).row (show 0 < L.length by omega)
    obtain ⟨rfl, rfl⟩ : a = some ⟨g2, 0, none⟩ ∧ cap = cap2 := by injection e2 with x1 x2 x3; exact ⟨x1, x3⟩
    clear e e2
    go_enter Tryz.func65, Tryz.ntmps65
    go_wp2_with fail
    refine (unhide Ht).mono ?_
    rintro e w1 ⟨rfl, hb1⟩
    have B1 := hide hb1
    clear hb1 Ht
    go_wp2
    go_loopw [7, 8] (fun f j w' => ∃ k : Nat, k ≤ L.length ∧ j = .int .i64 k ∧ w'.ownsRow w.heap.size 139 4097 f (erTo L i k).length ((erTo L i k).flatMap picCells) ∧ Below w.heap.size w w') (fun _ j _ => L.length - (intOf j).toNat)
    case atStart => exact ⟨0, by omega, rfl, by rw [show erTo L i 0 = [] by simp [erTo]]; exact World.ownsRow_nil _ _ _ _, unhide B1⟩
    case round =>
      obtain ⟨k, hk, rfl, hrow, hb⟩ := hrel
      obtain ⟨fa, fcap, rfl⟩ := row_form hrow
      have hD := (unhide H).below hb
      have c0 : wr.cell? ⟨d, 4096, none⟩ = some (.slice (some ⟨g2, 0, none⟩) L.length cap) := hD.cPv
      have hel := erTo_len L i k
      by_cases hlt : k < L.length
      · have hki : (k : Int) < (L.length : Int) := by omega
        by_cases hki2 : k = i
        · subst hki2
          have dn : (((k : Nat) : Int) != ((k : Nat) : Int)) = false := by simp
          have hs := erTo_skip L k hlt
          have Hrow := hide hrow
          have Hb := hide hb
          clear hrow hb hD
          go_wp2
          go_roundw
          case rel => exact ⟨k + 1, by omega, by go_num, by rw [hs]; exact unhide Hrow, unhide Hb⟩
          case measure => simp [intOf]; omega
        · have dn : (((k : Nat) : Int) != ((i : Nat) : Int)) = true := by rw [bne_iff_ne]; omega
          have rg := pics_range hD.row hD.pics k hlt
          have hpc := hD.pics _ (picAt_mem hlt)
          have m1 := hasAt_of_range (n := 4097) rg (picCells_length hpc)
          have m2 := cellsAt_of_range (n := 4097) rg (picCells_length hpc)
          have hs := erTo_add L i k hlt hki2
          generalize picAt L k = pk at *
          have Hrow := hide hrow
          have Hb := hide hb
          clear hrow hb hD rg
          generalize erTo L i k = F at *
          go_wp2_with (at_builtin; refine wpList_append_lies _ rfl _ _ _ rfl w.heap.size 139 i0 _ 4097 4112 Tryz.underlying68 hi0 hz0 hz1 hz2 (by rw [show (Value.agg (picCells ⟨[], zD⟩).toArray).cells.size = (picCells ⟨[], zD⟩).length from by simp [Value.cells]]; exact picCells_length (p := ⟨[], zD⟩) ⟨zD_all, zD_length⟩) (by omega) (.slice fa F.length fcap) F.length (F.flatMap picCells) rfl ((unhide Hrow).alloc _) ⟨wr.heap.size, 0, none⟩ 1 1 (picCells pk) rfl (by rw [picCells_length hpc]) (World.news_of_block (cs := (picCells pk).toArray) (t := 139) (fr := (0, 0)) (heap_alloc_new wr _)) (picCells_one pk) (by omega) (by unfold maxLen; omega) (by omega) (by have := (unhide Hb).size; simp; omega) (wr.heap.size + 1) (by simp) ?_; intro g5 cap5 w5 hown5 hgrow hat hlt5)
          have S5 := hide (((unhide Hb).alloc (unhide Hb).size (.cells (picCells pk).toArray 139)).grown hgrow (by have := (unhide Hb).size; simp; omega) (fun k hk => ((unhide Hrow).lt k hk).1))
          go_roundw
          case rel => exact ⟨k + 1, by omega, by go_num, by rw [hs, List.length_append, List.flatMap_append, List.flatMap_cons, List.flatMap_nil, List.append_nil]; exact hown5, unhide S5⟩
          case measure => simp [intOf]; omega
      · have hk4 : k = L.length := by omega
        have hE : erTo L i k = L.eraseIdx i := by unfold erTo; rw [hk4, List.take_length]
        rw [hE] at hrow ⊢
        have hne : ∀ g, (Value.slice fa (L.eraseIdx i).length fcap).ownBlock = some g → g ≠ d := fun g hg => by have := (hrow.lt g hg).1; omega
        have f0 := fun j => frozen_blk hD.blk j
        have hD2 := hD.newP (row_base hrow (Nat.zero_le _)) (fun p hp => hD.pics p (List.mem_of_mem_eraseIdx hp)) hne
        have HS : Hid (DOnly w (wr.setCell ⟨d, 4096, none⟩ (.slice fa (L.eraseIdx i).length fcap)) d (.slice (some ⟨g2, 0, none⟩) L.length cap) (.slice fa (L.eraseIdx i).length fcap) ⟨C, L.eraseIdx i⟩) :=
          ⟨hD2, (Kept.of_below hb).trans (Kept.only wr d 4096 _), fun g hg => Or.inr (hrow.lt g hg).1⟩
        clear hD2 hD hrow hb hE hel hne
        generalize (L.eraseIdx i).length = nl at *
        go_wp2
        go_ret
        rw [unhide HR]
        exact ⟨rfl, _, unhide HS⟩
end Go.Proofs.YtknjjjenklfeoaaGreatDoor

/-
  The reference's Room: may a first table's tree be used once more?
-/
namespace Go.Proofs.YtknjjjenklfeoaaGreatDoor
open Go.RowKit
def nv (M : List Nat) : List Value := M.map nat64
theorem nv_length (M : List Nat) : (nv M).length = M.length := by simp [nv]
theorem nv_get (M : List Nat) (n : Nat) (hn : n < M.length) : (nv M)[n]? = some (.int .i64 ((M.getD n 0 : Nat) : Int)) := by
  unfold nv
  rw [List.getElem?_map, List.getD_eq_getElem?_getD, List.getElem?_eq_getElem hn]; rfl
def zI : List Nat := List.replicate 256 0
theorem zI_length : zI.length = 256 := List.length_replicate
def zeroInts : Sem Value := zeroValue 91
theorem zeroValue_ints : zeroValue 91 = zeroInts := rfl
theorem run_zeroInts (w : World) : zeroInts.run Tryz.prog w = .ok (.agg (nv zI).toArray) w :=
  (zero_of_info (P := Tryz.prog) (t := 91) (v := .agg (nv zI).toArray) (n := 256) (by kernel_rfl)).1 w
attribute [local go_sem ↓] loadVar_clus zeroValue_ints
attribute [local go_sem] run_loadClus run_zeroInts

def bump (M : List Nat) (n : Nat) : List Nat := M.set n (M.getD n 0 + 1)
theorem bump_length (M : List Nat) (n : Nat) : (bump M n).length = M.length := by simp [bump]
theorem bump_cells (M : List Nat) (n : Nat) : (nv M).toArray.setIfInBounds n (.int .i64 ((M.getD n 0 : Nat) + 1 : Int)) = (nv (bump M n)).toArray := by
  rw [List.setIfInBounds_toArray]
  unfold bump nv
  rw [List.map_set]
  congr 2
def moreIn (L : List Clus) (s : Nat) (M : List Nat) : Nat → List Nat
  | 0 => M
  | k + 1 => if num (cl L s) (2 * k) = 0 then moreIn L s M k else bump (moreIn L s M k) (num (cl L s) (2 * k) % 32768)
def moreOut (L : List Clus) (t : Nat) : Nat → List Nat
  | 0 => zI
  | i + 1 => if num (cl L t) (2 * i) = 0 then moreOut L t i else moreIn L (num (cl L t) (2 * i) % 32768) (bump (moreOut L t i) (num (cl L t) (2 * i) % 32768)) 32
theorem moreIn_length (L : List Clus) (s : Nat) (M : List Nat) : ∀ k, (moreIn L s M k).length = M.length
  | 0 => rfl
  | k + 1 => by
    rw [moreIn]
    split
    · exact moreIn_length L s M k
    · rw [bump_length]; exact moreIn_length L s M k
theorem moreOut_length (L : List Clus) (t : Nat) : ∀ i, (moreOut L t i).length = 256
  | 0 => zI_length
  | i + 1 => by
    rw [moreOut]
    split
    · exact moreOut_length L t i
    · rw [moreIn_length, bump_length]; exact moreOut_length L t i
def AtMost (b : Nat) (M : List Nat) : Prop := ∀ n, M.getD n 0 ≤ b
theorem bump_most {b : Nat} {M : List Nat} (h : AtMost b M) (n : Nat) : AtMost (b + 1) (bump M n) := fun m => by
  unfold bump
  rw [List.getD_eq_getElem?_getD, List.getElem?_set]
  have h1 := h n
  have h2 := h m
  rw [List.getD_eq_getElem?_getD] at h1 h2
  split
  · split
    · simp only [Option.getD_some, List.getD_eq_getElem?_getD]; omega
    · simp
  · omega
theorem moreIn_most {b : Nat} {M : List Nat} (L : List Clus) (s : Nat) (h : AtMost b M) : ∀ k, AtMost (b + k) (moreIn L s M k)
  | 0 => h
  | k + 1 => by
    rw [moreIn]
    split
    · exact fun n => by have := moreIn_most L s h k n; omega
    · exact bump_most (moreIn_most L s h k) _
theorem zI_most : AtMost 0 zI := fun n => by
  unfold zI
  rw [List.getD_eq_getElem?_getD, List.getElem?_replicate]
  split <;> simp
theorem moreOut_most (L : List Clus) (t : Nat) : ∀ i, AtMost (33 * i) (moreOut L t i)
  | 0 => zI_most
  | i + 1 => by
    rw [moreOut]
    split
    · exact fun n => by have := moreOut_most L t i n; omega
    · exact fun n => by have := moreIn_most L (num (cl L t) (2 * i) % 32768) (bump_most (moreOut_most L t i) (num (cl L t) (2 * i) % 32768)) 32 n; omega
def roomFrom (L : List Clus) (M : List Nat) : Nat → Nat → Bool
  | 0, _ => true
  | m + 1, n => if 254 < countOf L n + M.getD n 0 then false else roomFrom L M m (n + 1)
def roomR (L : List Clus) (t : Nat) : Bool := roomFrom L (moreOut L t 2) L.length 0 && decide (0 < freeOf L)

set_option maxHeartbeats 2000000 in
set_option maxRecDepth 100000 in
theorem refRoom_any (w : World) (f : Nat) (Lv Rv : Value) (R : FileR) (h : FileAt w f Lv Rv R) (i : Nat) (hi : i < R.roots.length) (hr1 : R.roots.length ≤ 1000) (hLL : R.L.length ≤ 256) (hL6 : 6 ≤ R.L.length) (hin : InFile R.L (rootOf R i).N) :
    Calls Tryz.prog 122 #[.pointer (some ⟨f, 0, none⟩), .int .i64 (i : Nat)] w fun e w' => e = .returned (.bool (roomR R.L (rootOf R i).N)) ∧ Below w.heap.size w w' := by
  obtain ⟨g, cap, rfl, hc⟩ := row_some h.rowL (by omega)
  obtain ⟨g2, cap2, rfl, hc2⟩ := row_some h.rowR (by omega)
  have hii : (i : Int) < (R.roots.length : Int) := by omega
  have L0 := Locs.two w (.cells (nv zI).toArray 91) (.cells (rootCells (rootOf R i)).toArray 132)
  have hB1 : Below w.heap.size w (w.alloc (.cells (nv zI).toArray 91)) := (Below.refl _ _).alloc (Nat.le_refl _) _
  have h1 := h.below hB1
  have c1 := h1.cRv
  have r0 : (w.alloc (.cells (nv zI).toArray 91)).cell? ⟨g2, i * 3, none⟩ = some (.int .i64 ((rootOf R i).N : Nat)) := by have := root_cell h1.rowR i hi 0 (by omega); rw [Nat.add_zero] at this; exact this.trans rfl
  have r1 : (w.alloc (.cells (nv zI).toArray 91)).cell? ⟨g2, i * 3 + 1, none⟩ = some (.int .i64 ((rootOf R i).At : Nat)) := (root_cell h1.rowR i hi 1 (by omega)).trans rfl
  have r2 : (w.alloc (.cells (nv zI).toArray 91)).cell? ⟨g2, i * 3 + 2, none⟩ = some (.string ⟨(rootOf R i).name.toArray⟩) := (root_cell h1.rowR i hi 2 (by omega)).trans rfl
  have H := hide h
  have L0 := hide L0
  have Hres : Hid (roomR R.L (rootOf R i).N = (roomFrom R.L (moreOut R.L (rootOf R i).N 2) R.L.length 0 && decide (0 < freeOf R.L))) := rfl
  have hNi : ((rootOf R i).N : Int) < (R.L.length : Int) := by have := hin.at'; omega
  clear h h1 hB1
  generalize hrr : rootOf R i = r at *
  go_enter Tryz.func122, Tryz.ntmps122
  go_wp2
  go_loopw [7] (fun j w' => ∃ k : Nat, k ≤ 2 ∧ j = .int .i64 k ∧ Locs w w' [.cells (nv (moreOut R.L r.N k)).toArray 91, .cells (rootCells r).toArray 132]) (fun j _ => 2 - (intOf j).toNat)
  case atStart => exact ⟨0, by omega, rfl, unhide L0⟩
  case round =>
    obtain ⟨k, hk, rfl, hL⟩ := hrel
    clear L0 c1 r0 r1 r2
    by_cases hlt : k < 2
    · have hki : (k : Int) < 2 := by omega
      have hbox : wr.cell? ⟨w.heap.size + 1, 0, none⟩ = some (.int .i64 (r.N : Nat)) := (cell_blk hL.o1 0).trans rfl
      have hr := (unhide H).below hL.below
      have hG : ∀ d os, FileAt (Go.Sort.grow (redrawn wr d) os) f _ _ R := fun d os => hr.below (below_regrown wr d os)
      have c0 := fun d os => (hG d os).cLv
      have cx := fun d os => cell_regrown hbox d os
      have l1 := fun d os => row_has (hG d os).rowL hr.lens _ hin.at'
      have l2 := fun d os => row_cells (hG d os).rowL hr.lens _ hin.at'
      have hlen := cl_length hr.lens hin.at'
      have Hn := hide (fun d os => number_any (cl R.L r.N) (2 * (k : Int)) (Go.Sort.grow (redrawn wr d) os) hlen (by omega) (by omega))
      rw [show (2 * (k : Int)).toNat = 2 * k by omega] at Hn
      have hxl := num_lt (cl R.L r.N) (2 * k)
      have hsec := hin.second k hlt
      have hblk := hin.block k hlt
      have hstep : moreOut R.L r.N (k + 1) = if num (cl R.L r.N) (2 * k) = 0 then moreOut R.L r.N k else moreIn R.L (num (cl R.L r.N) (2 * k) % 32768) (bump (moreOut R.L r.N k) (num (cl R.L r.N) (2 * k) % 32768)) 32 := rfl
      have hml := moreOut_length R.L r.N k
      have hmm := moreOut_most R.L r.N k
      generalize num (cl R.L r.N) (2 * k) = x at *
      generalize moreOut R.L r.N k = M at *
      have Hstep := hide hstep
      have Hblk := hide hblk
      have HL := hide hL
      clear hstep hG hblk hL
      go_wp2
      refine wp_region_quiet_below (by kernel_rfl) (by kernel_rfl) ?_
      repeat (go_big_quiet_step (exact Calls.regrown_of (unhide Hn _ _)))
      refine wpQuiet_nil ?_
      intro _ hw'
      obtain ⟨⟨dq, osq⟩, hw''⟩ := hw'
      subst hw''
      clear c0 cx l1 l2 Hn
      have L2 := (unhide HL).later (below_regrown wr dq osq)
      clear HL hbox hr
      generalize Go.Sort.grow (redrawn wr dq) osq = w2 at *
      by_cases hx0 : x = 0
      · subst hx0
        rw [if_pos rfl] at Hstep
        have HL2 := hide L2
        clear L2
        go_wp2
        go_roundw
        case rel => exact ⟨k + 1, by omega, by go_num, by rw [unhide Hstep]; exact unhide HL2⟩
        case measure => simp [intOf]; omega
      · have dx : ((x : Int) == 0) = false := by rw [beq_eq_false_iff_ne]; omega
        rw [if_neg hx0] at Hstep
        have hxL := hsec hx0
        have hblk := unhide Hblk hx0
        generalize hcc : x % 32768 = c at *
        have hci : (x : Int) % 32768 = (c : Nat) := by omega
        have hc256 : (c : Int) < 256 := by omega
        have cm : w2.cell? ⟨w.heap.size, c, none⟩ = some (.int .i64 ((M.getD c 0 : Nat) : Int)) := by
          rw [cell_blk L2.o0, List.getElem?_toArray, nv_get _ _ (by omega)]
        have fm := frozen_blk L2.o0 c
        have hmc := hmm c
        have L3 := L2.setCell 0 rfl c (.int .i64 ((M.getD c 0 : Nat) + 1 : Int))
        rw [Nat.add_zero, bump_cells] at L3
        simp only [List.set_cons_zero] at L3
        have hbm := bump_most hmm c
        have hbl : (bump M c).length = 256 := by rw [bump_length]; exact hml
        have HL3 := hide L3
        clear L2 L3 Hblk
        generalize M.getD c 0 = mc at *
        generalize bump M c = M1 at *
        go_wp2
        generalize w2.setCell ⟨w.heap.size, c, none⟩ (.int .i64 ((mc : Nat) + 1 : Int)) = w3 at *
        simp only [hci]
        go_loopw [9] (fun j w' => ∃ m : Nat, m ≤ 32 ∧ j = .int .i64 m ∧ Locs w w' [.cells (nv (moreIn R.L c M1 m)).toArray 91, .cells (rootCells r).toArray 132]) (fun j _ => 32 - (intOf j).toNat)
        case atStart => exact ⟨0, by omega, rfl, unhide HL3⟩
        case round =>
          obtain ⟨m, hm, rfl, hL⟩ := hrel
          clear HL3 cm fm
          by_cases hlt2 : m < 32
          · have hmi : (m : Int) < 32 := by omega
            have hr := (unhide H).below hL.below
            have c0 := hr.cLv
            have l1 := row_has hr.rowL hr.lens _ hxL
            have l2 := row_cells hr.rowL hr.lens _ hxL
            have Hn := hide (number_any (cl R.L c) (2 * (m : Int)) wr (cl_length hr.lens hxL) (by omega) (by omega))
            rw [show (2 * (m : Int)).toNat = 2 * m by omega] at Hn
            have hyl := num_lt (cl R.L c) (2 * m)
            have hyb := hblk m hlt2
            have hs3 : moreIn R.L c M1 (m + 1) = if num (cl R.L c) (2 * m) = 0 then moreIn R.L c M1 m else bump (moreIn R.L c M1 m) (num (cl R.L c) (2 * m) % 32768) := rfl
            have hnl : (moreIn R.L c M1 m).length = 256 := by rw [moreIn_length]; exact hbl
            have hnm := moreIn_most R.L c hbm m
            have hcL : (c : Int) < (R.L.length : Int) := by omega
            generalize num (cl R.L c) (2 * m) = y at *
            generalize moreIn R.L c M1 m = M2 at *
            have Hs3 := hide hs3
            have HL := hide hL
            clear hs3 hr hL
            go_wp2_with fail
            refine (unhide Hn).mono ?_
            rintro e w4 ⟨rfl, hb4⟩
            have L4 := (unhide HL).later hb4
            clear Hn hb4 HL c0 l1 l2
            by_cases hy0 : y = 0
            · subst hy0
              rw [if_pos rfl] at Hs3
              have HL4 := hide L4
              clear L4
              go_wp2
              go_roundw
              case rel => exact ⟨m + 1, by omega, by go_num, by rw [unhide Hs3]; exact unhide HL4⟩
              case measure => simp [intOf]; omega
            · have dy : ((y : Int) != 0) = true := by rw [bne_iff_ne]; omega
              rw [if_neg hy0] at Hs3
              generalize hee : y % 32768 = b at *
              have hbi : (y : Int) % 32768 = (b : Nat) := by omega
              have hb256 : (b : Int) < 256 := by omega
              have cm : w4.cell? ⟨w.heap.size, b, none⟩ = some (.int .i64 ((M2.getD b 0 : Nat) : Int)) := by
                rw [cell_blk L4.o0, List.getElem?_toArray, nv_get _ _ (by omega)]
              have fm := frozen_blk L4.o0 b
              have hmc2 := hnm b
              have L5 := L4.setCell 0 rfl b (.int .i64 ((M2.getD b 0 : Nat) + 1 : Int))
              rw [Nat.add_zero, bump_cells] at L5
              simp only [List.set_cons_zero] at L5
              have HL5 := hide L5
              clear L4 L5
              generalize M2.getD b 0 = mb at *
              go_wp2
              go_roundw
              case rel => exact ⟨m + 1, by omega, by go_num, by rw [unhide Hs3]; exact unhide HL5⟩
              case measure => simp [intOf]; omega
          · have hm32 : m = 32 := by omega
            subst hm32
            have HL := hide hL
            clear hL
            go_wp2
            go_roundw
            case rel => exact ⟨k + 1, by omega, by go_num, by rw [unhide Hstep]; exact unhide HL⟩
            case measure => simp [intOf]; omega
    · have hk2 : k = 2 := by omega
      subst hk2
      have hml := moreOut_length R.L r.N 2
      have hmm := moreOut_most R.L r.N 2
      generalize moreOut R.L r.N 2 = M at *
      have HL := hide hL
      clear hL
      go_wp2
      go_loopw [11] (fun j w' => ∃ n : Nat, n ≤ R.L.length ∧ j = .int .i64 n ∧ Locs w w' [.cells (nv M).toArray 91, .cells (rootCells r).toArray 132] ∧ roomFrom R.L M R.L.length 0 = roomFrom R.L M (R.L.length - n) n) (fun j _ => R.L.length - (intOf j).toNat)
      case atStart => exact ⟨0, by omega, rfl, unhide HL, rfl⟩
      case round =>
        obtain ⟨n, hn, rfl, hL, he⟩ := hrel
        clear HL
        have hr := (unhide H).below hL.below
        have c0 := hr.cLv
        by_cases hlt2 : n < R.L.length
        · have hni : (n : Int) < (R.L.length : Int) := by omega
          have hn256 : (n : Int) < 256 := by omega
          have hG : ∀ d os, FileAt (Go.Sort.grow (redrawn wr d) os) f _ _ R := fun d os => hr.below (below_regrown wr d os)
          have cm : wr.cell? ⟨w.heap.size, n, none⟩ = some (.int .i64 ((M.getD n 0 : Nat) : Int)) := by
            rw [cell_blk hL.o0, List.getElem?_toArray, nv_get _ _ (by omega)]
          have cms := fun d os => cell_regrown cm d os
          have Hcnt := hide (fun d os => (count_any (Go.Sort.grow (redrawn wr d) os) f _ _ R (hG d os) (n : Int) (by omega) (by omega) (by omega)).mono (R' := fun e w' => e = .returned (.int .i64 ((countOf R.L (n : Int).toNat : Nat) : Int)) ∧ Below (Go.Sort.grow (redrawn wr d) os).heap.size (Go.Sort.grow (redrawn wr d) os) w') (by rintro e w' ⟨rfl, rfl⟩; exact ⟨rfl, Below.refl _ _⟩))
          rw [Int.toNat_natCast] at Hcnt
          have hq := countOf_lt R.L n
          have hmn := hmm n
          rw [show R.L.length - n = (R.L.length - (n + 1)) + 1 by omega, roomFrom] at he
          generalize countOf R.L n = q at *
          generalize M.getD n 0 = mn at *
          have He := hide he
          have HL := hide hL
          clear hG cm he hL hr
          go_wp2
          refine wp_region_quiet_below (by kernel_rfl) (by kernel_rfl) ?_
          repeat (go_big_quiet_step (exact Calls.regrown_of (unhide Hcnt _ _)))
          refine wpQuiet_nil ?_
          intro _ hw'
          obtain ⟨⟨dq, osq⟩, hw''⟩ := hw'
          subst hw''
          have L2 := hide ((unhide HL).later (below_regrown wr dq osq))
          clear c0 cms Hcnt HL
          generalize Go.Sort.grow (redrawn wr dq) osq = w2 at *
          by_cases hgt : 254 < q + mn
          · have dg : decide ((254 : Int) < ((q : Nat) : Int) + ((mn : Nat) : Int)) = true := decide_eq_true (by omega)
            rw [if_pos hgt] at He
            have HB := hide (unhide L2).below
            clear L2
            go_wp2
            go_ret
            exact ⟨by rw [unhide Hres, unhide He]; rfl, unhide HB⟩
          · have dg : decide ((254 : Int) < ((q : Nat) : Int) + ((mn : Nat) : Int)) = false := decide_eq_false (by omega)
            rw [if_neg hgt] at He
            go_wp2
            go_roundw
            case rel => exact ⟨n + 1, by omega, by go_num, unhide L2, unhide He⟩
            case measure => simp [intOf]; omega
        · have hnl : n = R.L.length := by omega
          rw [hnl, Nat.sub_self, roomFrom] at he
          have He := hide he
          have Hf := hide (free_any wr f _ _ R hr hLL hL6)
          have HB := hide hL.below
          clear he hL hr hmm
          generalize freeOf R.L = fr at *
          go_wp2_with fail
          refine (unhide Hf).mono ?_
          rintro e w2 ⟨rfl, rfl⟩
          by_cases hfr : 0 < fr
          · have df : decide ((0 : Int) < ((fr : Nat) : Int)) = true := decide_eq_true (by omega)
            go_wp2
            go_ret
            exact ⟨by rw [unhide Hres, unhide He, decide_eq_true hfr]; rfl, unhide HB⟩
          · have df : decide ((0 : Int) < ((fr : Nat) : Int)) = false := decide_eq_false (by omega)
            go_wp2
            go_ret
            exact ⟨by rw [unhide Hres, unhide He, decide_eq_false hfr]; rfl, unhide HB⟩
end Go.Proofs.YtknjjjenklfeoaaGreatDoor
