import Derived.Test.YtknjjjenklfeoaaGreatDoorP19
import Derived.Test.YtknjjjenklfeoaaGreatDoorP18
/-
  The reference's Disk of a file, with pictures.
-/
namespace Go.Proofs.YtknjjjenklfeoaaGreatDoor
open Go.RowKit
attribute [local go_sem ↓] loadVar_clus storeVar_clus zeroValue_clus loadVar_cont storeVar_cont zeroValue_cont build_disk equalIn_cont loadVar_pic buildSlice_pic equalIn_pic build_pic
attribute [local go_sem] run_loadClus run_storeClus run_zeroClus run_storeClus_new run_loadClus_new zc_length run_loadCont run_storeCont run_zeroCont run_bDisk run_loadPic run_bsPic run_bPic HasAt_drewN cellsAt_drewN
def picOf (R : FileR) (i : Nat) : PicR := ⟨(rootOf R i).name, contentOf R.L (rootOf R i).N⟩
def picsTo (R : FileR) (k : Nat) : List PicR := (List.range (k - 1)).map fun i => picOf R (i + 1)
theorem picsTo_succ (R : FileR) (k : Nat) (hk : 1 ≤ k) : picsTo R (k + 1) = picsTo R k ++ [picOf R k] := by
  unfold picsTo
  rw [show k + 1 - 1 = (k - 1) + 1 by omega, List.range_succ, List.map_append]
  simp only [List.map_cons, List.map_nil]
  rw [show k - 1 + 1 = k by omega]
theorem picsTo_length (R : FileR) (k : Nat) : (picsTo R k).length = k - 1 := by simp [picsTo]
theorem diskOf_eq (R : FileR) : diskOf R = ⟨contentOf R.L (rootOf R 0).N, picsTo R R.roots.length⟩ := rfl
theorem cont_of {R : FileR} {f : Nat} {Lv Rv : Value} {w : World} (h : FileAt w f Lv Rv R) {t : Nat} (hin : InFile R.L t) : Cont (contentOf R.L t) :=
  ⟨by rw [← contTo_all]; exact contTo_lens h.lens hin 64, by simp [contentOf]⟩

def DiskT (f g2 n cap2 k d : Nat) (r : RootR) (Qv : Value) (w' : World) : Prop := w'.cell? ⟨f, 1, none⟩ = some (.slice (some ⟨g2, 0, none⟩) n cap2) ∧ w'.cell? ⟨g2, k * 3, none⟩ = some (.int .i64 (r.N : Nat)) ∧ w'.cell? ⟨g2, k * 3 + 1, none⟩ = some (.int .i64 (r.At : Nat)) ∧ w'.cell? ⟨g2, k * 3 + 2, none⟩ = some (.string ⟨r.name.toArray⟩) ∧ w'.cell? ⟨d, 4096, none⟩ = some Qv

set_option linter.unusedSimpArgs false in
set_option maxHeartbeats 4000000 in
set_option maxRecDepth 100000 in
theorem disk_any (w : World) (f : Nat) (Lv Rv : Value) (R : FileR) (h : FileAt w f Lv Rv R) (hin : ∀ i, i < R.roots.length → InFile R.L (rootOf R i).N) (hLL : R.L.length ≤ 256) (hr : 0 < R.roots.length) (hr2 : R.roots.length ≤ 1000) :
    Calls Tryz.prog 43 #[.pointer (some ⟨f, 0, none⟩)] w fun e w' =>
      ∃ d Qv, e = .returned (.pointer (some ⟨d, 0, none⟩)) ∧ w.heap.size ≤ d ∧ DiskAt w' d Qv (diskOf R) ∧ (∀ g, Qv.ownBlock = some g → w.heap.size ≤ g) ∧ Below w.heap.size w w' := by
  obtain ⟨i0, hi0, hz0, hz1, hz2⟩ := info_parts Tryz.infoPic
  have hc0 := cont_of h (hin 0 hr)
  have hcs := fun i hi => cont_of h (hin i hi)
  have hA : All64 (contentOf R.L (rootOf R 0).N) := hc0.all
  have hl64 := hc0.len
  obtain ⟨g2, cap2, rfl, _⟩ := row_some h.rowR (by omega)
  have c1 := h.cRv
  have r0 := root_cell h.rowR 0 (by omega) 0 (by omega)
  have r1 := root_cell h.rowR 0 (by omega) 1 (by omega)
  have r2 := root_cell h.rowR 0 (by omega) 2 (by omega)
  rw [show R.roots.getD 0 ⟨0, 0, []⟩ = rootOf R 0 from rfl] at r0 r1 r2
  simp only [rootCells, List.getElem?_cons_zero, List.getElem?_cons_succ, Nat.add_zero, Nat.zero_mul, Nat.zero_add] at r0 r1 r2
  have hri : (0 : Int) < (R.roots.length : Int) := by omega
  have Hc := hide (content_any w f Lv _ R (rootOf R 0) h (hin 0 hr) hLL)
  unfold rootCells at Hc
  have Hh := hide h
  have Hcs := hide hcs
  have Hin := hide hin
  clear h hcs hin
  go_enter Tryz.func43, Tryz.ntmps43
  go_wp2_with fail
  refine (unhide Hc).mono ?_
  rintro e w1 ⟨rfl, hb⟩
  have hN : DiskAt (w1.alloc (.cells (diskCells ⟨contentOf R.L (rootOf R 0).N, []⟩ (.slice none 0 0)).toArray 70)) w1.heap.size (.slice none 0 0) ⟨contentOf R.L (rootOf R 0).N, []⟩ := ⟨heap_alloc_new _ _, World.ownsRow_nil _ _ _ _, hc0, fun p hp => by cases hp⟩
  have HN := hide hN
  have hsz := hb.size
  have HB := hide (hb.alloc hb.size (.cells (diskCells ⟨contentOf R.L (rootOf R 0).N, []⟩ (.slice none 0 0)).toArray 70))
  clear hN Hc r0 r1 r2 c1 hb
  generalize hCC : contentOf R.L (rootOf R 0).N = C at *
  have HCC := hide hCC
  clear hCC
  go_wp2
  generalize w1.alloc (.cells (diskCells ⟨C, []⟩ (.slice none 0 0)).toArray 70) = W1 at *
  generalize w1.heap.size = d at *
  go_loopw [4] (fun i w' => ∃ (k : Nat) (Qv : Value), 1 ≤ k ∧ k ≤ R.roots.length ∧ i = .int .i64 k ∧ DiskAt w' d Qv ⟨C, picsTo R k⟩ ∧ (∀ g, Qv.ownBlock = some g → w.heap.size ≤ g ∧ g ≠ d) ∧ Below w.heap.size w w') (fun i _ => R.roots.length - (intOf i).toNat)
  case atStart => exact ⟨1, .slice none 0 0, by omega, by omega, rfl, unhide HN, fun g hg => (by cases hg), unhide HB⟩
  case round =>
    obtain ⟨k, Qv, hk1, hk, rfl, hQ, hQg, hb⟩ := hrel
    have hF := (unhide Hh).below hb
    have c1 := hF.cRv
    by_cases hlt : k < R.roots.length
    · have r0 := root_cell hF.rowR k hlt 0 (by omega)
      have r1 := root_cell hF.rowR k hlt 1 (by omega)
      have r2 := root_cell hF.rowR k hlt 2 (by omega)
      rw [show R.roots.getD k ⟨0, 0, []⟩ = rootOf R k from rfl] at r0 r1 r2
      simp only [rootCells, List.getElem?_cons_zero, List.getElem?_cons_succ, Nat.add_zero] at r0 r1 r2
      have hlk := picsTo_length R k
      have hrow : wr.ownsRow 0 139 4097 Qv (k - 1) ((picsTo R k).flatMap picCells) := by have := hQ.row; simp only [hlk] at this; exact this
      have hki : (k : Int) < (R.roots.length : Int) := by omega
      have Hp : Hid (picsTo R (k + 1) = picsTo R k ++ [picOf R k]) := picsTo_succ R k hk1
      have hpc : Cont (picOf R k).C := unhide Hcs k hlt
      have hfd : f ≠ d := fun e => by have := (unhide Hh).lt; omega
      have hgd : g2 ≠ d := fun e => by have := ((unhide Hh).rowR.lt g2 rfl).2; omega
      have hdl := hQ.lt
      have hfl := hF.lt
      have hgl := (hF.rowR.lt g2 rfl).2
      have Hc := hide (fun (W : World) (hB : Below wr.heap.size wr W) => content_any W f Lv _ R (rootOf R k) (hF.below hB) (unhide Hin k hlt) hLL)
      unfold rootCells at Hc
      have HF := hide hF
      have HQ := hide hQ
      have Hrow := hide hrow
      have Hb := hide hb
      have HQg := hide hQg
      have hbs := hb.size
      have hcq : ∀ W, Below wr.heap.size wr W → W.cell? ⟨d, 4096, none⟩ = some Qv := fun W hB => (hQ.below hB).cPv
      have Hcq := hide hcq
      have c7 : wr.drew.cell? ⟨d, 4096, none⟩ = some Qv := hQ.cPv
      clear hF hQ hrow hb hQg hcq
      have hbp : ∀ w, (bPic #[(0, .string ⟨(rootOf R k).name.toArray⟩), (1, .agg (flatC (contentOf R.L (rootOf R k).N)).toArray)]).run Tryz.prog w = .ok (.agg (picCells (picOf R k)).toArray) w := fun w => run_bPic (nm := (rootOf R k).name) hpc.all hpc.len
      go_wp2
      have hT : DiskT f g2 R.roots.length cap2 k d (rootOf R k) Qv wr.drew := ⟨c1, r0, r1, r2, c7⟩
      refine wp_region_L (DiskT f g2 R.roots.length cap2 k d (rootOf R k) Qv) 27 (by kernel_rfl) ?_
      refine wpAnyL_take (i := 0) (v := ?tv0) rfl (by kernel_rfl) (by kernel_rfl) (by kernel_rfl) (by kernel_rfl) (fun _ _ _ h => h) (Or.inl ⟨by rfl, fun W hW => ?ty0⟩) hT ?tr0
      case ty0 => (obtain ⟨t0, t1, t2, t3, t4⟩ := hW; go_simp; with_reducible rfl)
      simp only [Act.put, List.setIfInBounds_toArray, List.set_cons_zero, List.set_cons_succ]
      refine wpAnyL_take (i := 1) (v := ?tv1) rfl (by kernel_rfl) (by kernel_rfl) (by kernel_rfl) (by kernel_rfl) (fun _ _ _ h => h) (Or.inl ⟨by rfl, fun W hW => ?ty1⟩) hT ?tr1
      case ty1 => (obtain ⟨t0, t1, t2, t3, t4⟩ := hW; go_simp; with_reducible rfl)
      simp only [Act.put, List.setIfInBounds_toArray, List.set_cons_zero, List.set_cons_succ]
      refine wpAnyL_take (i := 2) (v := ?tv2) rfl (by kernel_rfl) (by kernel_rfl) (by kernel_rfl) (by kernel_rfl) (fun _ _ _ h => h) (Or.inl ⟨by rfl, fun W hW => ?ty2⟩) hT ?tr2
      case ty2 => (obtain ⟨t0, t1, t2, t3, t4⟩ := hW; go_simp; with_reducible rfl)
      simp only [Act.put, List.setIfInBounds_toArray, List.set_cons_zero, List.set_cons_succ]
      refine wpAnyL_take (i := 3) (v := ?tv3) rfl (by kernel_rfl) (by kernel_rfl) (by kernel_rfl) (by kernel_rfl) (fun _ _ _ h => h) (Or.inl ⟨by rfl, fun W hW => ?ty3⟩) hT ?tr3
      case ty3 => (obtain ⟨t0, t1, t2, t3, t4⟩ := hW; go_simp; with_reducible rfl)
      simp only [Act.put, List.setIfInBounds_toArray, List.set_cons_zero, List.set_cons_succ]
      refine wpAnyL_take (i := 4) (v := ?tv4) rfl (by kernel_rfl) (by kernel_rfl) (by kernel_rfl) (by kernel_rfl) (fun _ _ _ h => h) (Or.inl ⟨by rfl, fun W hW => ?ty4⟩) hT ?tr4
      case ty4 => (obtain ⟨t0, t1, t2, t3, t4⟩ := hW; go_simp; with_reducible rfl)
      simp only [Act.put, List.setIfInBounds_toArray, List.set_cons_zero, List.set_cons_succ]
      refine wpAnyL_take (i := 5) (v := ?tv5) rfl (by kernel_rfl) (by kernel_rfl) (by kernel_rfl) (by kernel_rfl) (fun _ _ _ h => h) (Or.inl ⟨by rfl, fun W hW => ?ty5⟩) hT ?tr5
      case ty5 => (obtain ⟨t0, t1, t2, t3, t4⟩ := hW; go_simp; with_reducible rfl)
      simp only [Act.put, List.setIfInBounds_toArray, List.set_cons_zero, List.set_cons_succ]
      refine wpAnyL_take (i := 6) (v := ?tv6) rfl (by kernel_rfl) (by kernel_rfl) (by kernel_rfl) (by kernel_rfl) (fun _ _ _ h => h) (Or.inl ⟨by rfl, fun W hW => ?ty6⟩) hT ?tr6
      case ty6 => (obtain ⟨t0, t1, t2, t3, t4⟩ := hW; go_simp; with_reducible rfl)
      simp only [Act.put, List.setIfInBounds_toArray, List.set_cons_zero, List.set_cons_succ]
      refine wpAnyL_take (i := 7) (v := ?tv7) rfl (by kernel_rfl) (by kernel_rfl) (by kernel_rfl) (by kernel_rfl) (fun _ _ _ h => h) (Or.inl ⟨by rfl, fun W hW => ?ty7⟩) hT ?tr7
      case ty7 => (obtain ⟨t0, t1, t2, t3, t4⟩ := hW; go_simp; with_reducible rfl)
      simp only [Act.put, List.setIfInBounds_toArray, List.set_cons_zero, List.set_cons_succ]
      refine wpAnyL_take (i := 8) (v := ?tv8) rfl (by kernel_rfl) (by kernel_rfl) (by kernel_rfl) (by kernel_rfl) (fun _ _ _ h => h) (Or.inl ⟨by rfl, fun W hW => ?ty8⟩) hT ?tr8
      case ty8 => (obtain ⟨t0, t1, t2, t3, t4⟩ := hW; go_simp; with_reducible rfl)
      simp only [Act.put, List.setIfInBounds_toArray, List.set_cons_zero, List.set_cons_succ]
      refine wpAnyL_take (i := 9) (v := ?tv9) rfl (by kernel_rfl) (by kernel_rfl) (by kernel_rfl) (by kernel_rfl) (fun _ _ _ h => h) (Or.inl ⟨by rfl, fun W hW => ?ty9⟩) hT ?tr9
      case ty9 => (obtain ⟨t0, t1, t2, t3, t4⟩ := hW; go_simp; with_reducible rfl)
      simp only [Act.put, List.setIfInBounds_toArray, List.set_cons_zero, List.set_cons_succ]
      refine wpAnyL_take (i := 10) (v := ?tv10) rfl (by kernel_rfl) (by kernel_rfl) (by kernel_rfl) (by kernel_rfl) (fun _ _ _ h => h) (Or.inl ⟨by rfl, fun W hW => ?ty10⟩) hT ?tr10
      case ty10 => (obtain ⟨t0, t1, t2, t3, t4⟩ := hW; go_simp; with_reducible rfl)
      simp only [Act.put, List.setIfInBounds_toArray, List.set_cons_zero, List.set_cons_succ]
      refine wpAnyL_take (i := 11) (v := ?tv11) rfl (by kernel_rfl) (by kernel_rfl) (by kernel_rfl) (by kernel_rfl) (fun _ _ _ h => h) (Or.inl ⟨by rfl, fun W hW => ?ty11⟩) hT ?tr11
      case ty11 => (obtain ⟨t0, t1, t2, t3, t4⟩ := hW; go_simp; with_reducible rfl)
      simp only [Act.put, List.setIfInBounds_toArray, List.set_cons_zero, List.set_cons_succ]
      refine wpAnyL_take (i := 12) (v := ?tv12) rfl (by kernel_rfl) (by kernel_rfl) (by kernel_rfl) (by kernel_rfl) (fun _ _ _ h => h) (Or.inl ⟨by rfl, fun W hW => ?ty12⟩) hT ?tr12
      case ty12 => (obtain ⟨t0, t1, t2, t3, t4⟩ := hW; go_simp; with_reducible rfl)
      simp only [Act.put, List.setIfInBounds_toArray, List.set_cons_zero, List.set_cons_succ]
      refine wpAnyL_take (i := 13) (v := ?tv13) rfl (by kernel_rfl) (by kernel_rfl) (by kernel_rfl) (by kernel_rfl) (fun _ _ _ h => h) (Or.inl ⟨by rfl, fun W hW => ?ty13⟩) hT ?tr13
      case ty13 => (obtain ⟨t0, t1, t2, t3, t4⟩ := hW; go_simp; with_reducible rfl)
      simp only [Act.put, List.setIfInBounds_toArray, List.set_cons_zero, List.set_cons_succ]
      refine wpAnyL_take (i := 14) (v := ?tv14) rfl (by kernel_rfl) (by kernel_rfl) (by kernel_rfl) (by kernel_rfl) (fun _ _ _ h => h) (Or.inl ⟨by rfl, fun W hW => ?ty14⟩) hT ?tr14
      case ty14 => (obtain ⟨t0, t1, t2, t3, t4⟩ := hW; go_simp; with_reducible rfl)
      simp only [Act.put, List.setIfInBounds_toArray, List.set_cons_zero, List.set_cons_succ]
      refine wpAnyL_take (i := 15) (v := ?tv15) rfl (by kernel_rfl) (by kernel_rfl) (by kernel_rfl) (by kernel_rfl) (fun _ _ _ h => h) (Or.inl ⟨by rfl, fun W hW => ?ty15⟩) hT ?tr15
      case ty15 => (obtain ⟨t0, t1, t2, t3, t4⟩ := hW; go_simp; with_reducible rfl)
      simp only [Act.put, List.setIfInBounds_toArray, List.set_cons_zero, List.set_cons_succ]
      refine wpAnyL_take (i := 16) (v := ?tv16) rfl (by kernel_rfl) (by kernel_rfl) (by kernel_rfl) (by kernel_rfl) (fun _ _ _ h => h) (Or.inl ⟨by rfl, fun W hW => ?ty16⟩) hT ?tr16
      case ty16 => (obtain ⟨t0, t1, t2, t3, t4⟩ := hW; go_simp; with_reducible rfl)
      simp only [Act.put, List.setIfInBounds_toArray, List.set_cons_zero, List.set_cons_succ]
      refine wpAnyL_take (i := 17) (v := ?tv17) rfl (by kernel_rfl) (by kernel_rfl) (by kernel_rfl) (by kernel_rfl) (fun _ _ _ h => h) (Or.inl ⟨by rfl, fun W hW => ?ty17⟩) hT ?tr17
      case ty17 => (obtain ⟨t0, t1, t2, t3, t4⟩ := hW; go_simp; with_reducible rfl)
      simp only [Act.put, List.setIfInBounds_toArray, List.set_cons_zero, List.set_cons_succ]
      refine wpAnyL_take (i := 18) (v := ?tv18) rfl (by kernel_rfl) (by kernel_rfl) (by kernel_rfl) (by kernel_rfl) (fun _ _ _ h => h) (Or.inl ⟨by rfl, fun W hW => ?ty18⟩) hT ?tr18
      case ty18 => (obtain ⟨t0, t1, t2, t3, t4⟩ := hW; go_simp; with_reducible rfl)
      simp only [Act.put, List.setIfInBounds_toArray, List.set_cons_zero, List.set_cons_succ]
      refine wpAnyL_take (i := 19) (v := ?tv19) rfl (by kernel_rfl) (by kernel_rfl) (by kernel_rfl) (by kernel_rfl) (fun _ _ _ h => h) (Or.inl ⟨by rfl, fun W hW => ?ty19⟩) hT ?tr19
      case ty19 => (obtain ⟨t0, t1, t2, t3, t4⟩ := hW; go_simp; with_reducible rfl)
      simp only [Act.put, List.setIfInBounds_toArray, List.set_cons_zero, List.set_cons_succ]
      refine wpAnyL_take (i := 20) (v := ?tv20) rfl (by kernel_rfl) (by kernel_rfl) (by kernel_rfl) (by kernel_rfl) (fun _ _ _ h => h) (Or.inl ⟨by rfl, fun W hW => ?ty20⟩) hT ?tr20
      case ty20 => (obtain ⟨t0, t1, t2, t3, t4⟩ := hW; go_simp; with_reducible rfl)
      simp only [Act.put, List.setIfInBounds_toArray, List.set_cons_zero, List.set_cons_succ]
      refine wpAnyL_one (i := 21) (by kernel_rfl) rfl fun K21 hK21 => ?_
      go_simp
      go_at_call 80
      refine (unhide Hc _ ((Below.refl _ _).drew)).mono ?_
      rintro e w2 ⟨rfl, b2⟩
      have B2 : Hid (Below wr.heap.size wr w2) := ((Below.refl _ wr).drew).trans b2
      have d2 : w2.cell? ⟨d, 4096, none⟩ = some Qv := unhide Hcq _ (unhide B2)
      have d3 : ∀ o, (w2.alloc o).cell? ⟨d, 4096, none⟩ = some Qv := fun o => unhide Hcq _ ((unhide B2).alloc (unhide B2).size o)
      have f2 : w2.cell? ⟨f, 1, none⟩ = some (.slice (some ⟨g2, 0, none⟩) R.roots.length cap2) := ((unhide HF).below (unhide B2)).cRv
      have hgw : ∀ W, Below wr.heap.size wr W → ∀ i, W.cell? ⟨g2, i, none⟩ = wr.cell? ⟨g2, i, none⟩ := fun W hB i => World.cell?_of_block (hB.block g2 hgl)
      have hT2 : DiskT f g2 R.roots.length cap2 k d (rootOf R k) Qv w2 := ⟨f2, (hgw _ (unhide B2) _).trans r0, (hgw _ (unhide B2) _).trans r1, (hgw _ (unhide B2) _).trans r2, d2⟩
      have hT3 : ∀ o, DiskT f g2 R.roots.length cap2 k d (rootOf R k) Qv (w2.alloc o) := fun o => ⟨((unhide HF).below ((unhide B2).alloc (unhide B2).size o)).cRv, (hgw _ ((unhide B2).alloc (unhide B2).size o) _).trans r0, (hgw _ ((unhide B2).alloc (unhide B2).size o) _).trans r1, (hgw _ ((unhide B2).alloc (unhide B2).size o) _).trans r2, d3 o⟩
      clear b2 hgw
      refine hK21 _ _ (Or.inr hT2) ?_
      try simp only [Act.put, List.setIfInBounds_toArray, List.set_cons_zero, List.set_cons_succ]
      refine wpAnyL_take (i := 22) (v := ?tv22) rfl (by kernel_rfl) (by kernel_rfl) (by kernel_rfl) (by kernel_rfl) (fun _ _ _ h => h) (Or.inl ⟨by rfl, fun W hW => ?ty22⟩) hT2 ?tr22
      case ty22 => (obtain ⟨t0, t1, t2, t3, t4⟩ := hW; go_simp; with_reducible rfl)
      simp only [Act.put, List.setIfInBounds_toArray, List.set_cons_zero, List.set_cons_succ]
      refine wpAnyL_one (i := 23) (by kernel_rfl) rfl fun K23 hK23 => ?_
      go_simp
      refine hK23 _ _ (Or.inr (hT3 _)) ?_
      try simp only [Act.put, List.setIfInBounds_toArray, List.set_cons_zero, List.set_cons_succ]
      refine wpAnyL_one (i := 24) (by kernel_rfl) rfl fun K24 hK24 => ?_
      refine step_append_lies _ (by rfl) _ _ _ (by rfl) 0 139 i0 _ 4097 4112 Tryz.underlying68 hi0 hz0 hz1 hz2 (by rw [show (Value.agg (picCells ⟨[], zD⟩).toArray).cells.size = (picCells ⟨[], zD⟩).length from by simp [Value.cells]]; exact picCells_length (p := ⟨[], zD⟩) ⟨zD_all, zD_length⟩) (by omega) Qv (k - 1) ((picsTo R k).flatMap picCells) (by rfl) (((ownsRow_kept (S := fun _ => False) (Kept.of_below (unhide B2)) (unhide Hrow) (fun _ _ => id))).alloc _) ⟨w2.heap.size, 0, none⟩ 1 1 (picCells (picOf R k)) (by rfl) (by rw [picCells_length hpc]) (World.news_of_block (cs := (picCells (picOf R k)).toArray) (t := 139) (fr := (0, 0)) (heap_alloc_new w2 _)) (picCells_one _) (by omega) (by unfold maxLen; omega) (by omega) (by omega) (w2.heap.size + 1) (by simp) ?_
      intro g5 cap5 w5 hown5 hgrow hat hlt5
      have b5 := hide (grown_blk hgrow ((unhide HQ).below ((unhide B2).alloc (unhide B2).size _)).blk (fun g hg => (unhide HQg g hg).2))
      have c5 : w5.cell? ⟨d, 4096, none⟩ = some Qv := (cell_blk (unhide b5) 4096).trans (by rw [← cell_blk (unhide HQ).blk]; exact (unhide HQ).cPv)
      have z5 : ∀ i, w5.frozen? ⟨d, i, none⟩ = false := fun i => frozen_blk (unhide b5) i
      have hgn : w.heap.size ≤ g5 ∧ g5 ≠ d := by
        rcases hat with x | x
        · exact unhide HQg g5 x
        · have := (unhide B2).size; omega
      have S1 := hide (((unhide Hb).trans ((unhide B2).mono (unhide Hb).size)).alloc (by have := (unhide B2).size; omega) (.cells (picCells (picOf R k)).toArray 139))
      have hB5 : Below w.heap.size w w5 := (unhide S1).grown hgrow (by have := (unhide B2).size; simp; omega) (fun k hk => (unhide HQg k hk).1)
      have S2 := hide (hB5.setCell (p := ⟨d, 4096, none⟩) hsz (.slice (some ⟨g5, 0, none⟩) (k - 1 + 1) cap5))
      have hD5 : DiskAt (w5.setCell ⟨d, 4096, none⟩ (.slice (some ⟨g5, 0, none⟩) (k - 1 + 1) cap5)) d (.slice (some ⟨g5, 0, none⟩) (k - 1 + 1) cap5) ⟨C, picsTo R (k + 1)⟩ := by
        have := ((unhide HQ).below ((unhide B2).alloc (unhide B2).size (.cells (picCells (picOf R k)).toArray 139))).growP (g5 := g5) (cap5 := cap5) hpc (fun g hg => (unhide HQg g hg).2) hgrow (by rw [hlk]; exact hown5) hgn.2
        rw [hlk] at this
        rw [unhide Hp]; exact this
      have ek : k - 1 + 1 = k := by omega
      rw [ek] at hD5 S2
      have HD5 := hide hD5
      clear ek
      have hT5 : DiskT f g2 R.roots.length cap2 k d (rootOf R k) Qv w5 := by
        have hF5 := (unhide Hh).below hB5
        have hgw : ∀ i, w5.cell? ⟨g2, i, none⟩ = wr.cell? ⟨g2, i, none⟩ := fun i => by
          have hg0 := ((unhide Hh).rowR.lt g2 rfl).2
          exact (World.cell?_of_block (hB5.block g2 hg0)).trans (World.cell?_of_block ((unhide Hb).block g2 hg0)).symm
        exact ⟨hF5.cRv, (hgw _).trans r0, (hgw _).trans r1, (hgw _).trans r2, c5⟩
      clear hD5 hgrow hown5 hB5
      refine hK24 _ _ (Or.inr hT5) ?_
      try simp only [Act.put, List.setIfInBounds_toArray, List.set_cons_zero, List.set_cons_succ]
      refine wpAnyL_one (i := 25) (by kernel_rfl) rfl fun K25 hK25 => ?_
      go_simp
      refine hK25 _ _ (Or.inr hT5) ?_
      try simp only [Act.put, List.setIfInBounds_toArray, List.set_cons_zero, List.set_cons_succ]
      refine wpAnyL_one (i := 26) (by kernel_rfl) rfl fun K26 hK26 => ?_
      go_simp
      refine hK26 _ _ (Or.inr hT5) ?_
      try simp only [Act.put, List.setIfInBounds_toArray, List.set_cons_zero, List.set_cons_succ]
      refine wpAnyL_one (i := 27) (by kernel_rfl) rfl fun K27 hK27 => ?_
      go_simp
      refine hK27 _ _ (Or.inl rfl) ?_
      try simp only [Act.put, List.setIfInBounds_toArray, List.set_cons_zero, List.set_cons_succ]
      refine wpAnyL_done (by kernel_rfl) ?_ _
      clear hT hT2 hT3 hT5
      go_wp2
      go_roundw
      case rel => exact ⟨k + 1, .slice (some ⟨g5, 0, none⟩) k cap5, by omega, by omega, by go_num, unhide HD5, fun g hg => (by simp only [Value.ownBlock, Option.some.injEq] at hg; subst hg; exact hgn), unhide S2⟩
      case measure => simp [intOf]; omega
    · have hkl : k = R.roots.length := by omega
      have hfin : DiskAt wr d Qv (diskOf R) := by rw [diskOf_eq, unhide HCC, ← hkl]; exact hQ
      have HQ := hide hfin
      have Hb := hide hb
      have HQg := hide hQg
      clear hQ hfin hb hkl hQg hF
      go_wp2
      go_ret
      exact ⟨d, Qv, rfl, hsz, unhide HQ, fun g hg => (unhide HQg g hg).1, unhide Hb⟩
end Go.Proofs.YtknjjjenklfeoaaGreatDoor

/-
  Plain: a file with its head and its list; as the reader sees it, noughts put behind it; what it holds.
-/
namespace Go.Proofs.YtknjjjenklfeoaaGreatDoor
open Go.RowKit

/-- A cluster of a file; noughts behind its end. -/
def vw (C : List Clus) (t : Nat) : Clus := if t < C.length then cl C t else zc
theorem cl_padTo (C : List Clus) (n t : Nat) (ht : t < n) : cl (padTo C n) t = vw C t := by
  unfold cl padTo vw
  rw [List.getD_eq_getElem?_getD, List.getElem?_map, List.getElem?_range ht]
  rfl
theorem vw_at {C : List Clus} {t : Nat} (h : t < C.length) : vw C t = cl C t := by unfold vw; rw [if_pos h]
theorem cl_past {C : List Clus} {t : Nat} (h : C.length ≤ t) : cl C t = [] := by unfold cl; rw [List.getD_eq_getElem?_getD, List.getElem?_eq_none h]; rfl
def rsOf (N0 : Nat) (E : List EntR) : List RootR := ⟨N0, 0, []⟩ :: E.map rootE
theorem rsOf_mem {N0 : Nat} {E : List EntR} {r : RootR} : r ∈ rsOf N0 E ↔ r = ⟨N0, 0, []⟩ ∨ ∃ e ∈ E, r = rootE e := by
  unfold rsOf
  rw [List.mem_cons, List.mem_map]
  constructor
  · rintro (h | ⟨e, he, h⟩)
    · exact Or.inl h
    · exact Or.inr ⟨e, he, h.symm⟩
  · rintro (h | ⟨e, he, h⟩)
    · exact Or.inl h
    · exact Or.inr ⟨e, he, h.symm⟩
/-- A file whose head tells T clusters and the first table N0, and whose list is E. -/
structure FileE (C : List Clus) (T N0 : Nat) (E : List EntR) : Prop where
  lens : ∀ c ∈ C, c.length = 64
  six : 6 ≤ C.length
  le : C.length ≤ T
  seven : 7 ≤ T
  most : T ≤ 256
  n0 : N0 < 65536
  head : cl C 0 = headBytes T N0
  list : cl C 5 = listBytes E
  ents : EntsOK E
section
variable {C : List Clus} {T N0 : Nat} {E : List EntR}
theorem FileE.num4 (h : FileE C T N0 E) : num (cl C 0) 4 = T := by rw [h.head]; exact num_head4 (by have := h.most; omega) h.n0
theorem FileE.num6 (h : FileE C T N0 E) : num (cl C 0) 6 = N0 := by rw [h.head]; exact num_head6 (by have := h.most; omega) h.n0
theorem FileE.headGood (h : FileE C T N0 E) : headGood C = true := by
  have h1 := h.six
  have h2 := h.le
  have h3 := h.most
  have h4 := h.seven
  unfold Go.Proofs.YtknjjjenklfeoaaGreatDoor.headGood
  rw [h.num4, h.head, head_velm, head_rest (by omega) h.n0]
  simp
  omega
theorem FileE.pad (h : FileE C T N0 E) : (R1of C).L = padTo C T := by show padTo C (num (cl C 0) 4) = _; rw [h.num4]
theorem FileE.listOf (h : FileE C T N0 E) : listOf (R1of C) = (true, rsOf N0 E) := by
  have h6 := h.six
  have h7 := h.seven
  show Go.Proofs.YtknjjjenklfeoaaGreatDoor.listFrom (cl (R1of C).L 5) 4 0 false [⟨num (cl C 0) 6, 0, []⟩] = _
  rw [h.pad, cl_padTo _ _ _ (by omega), vw_at (by omega), h.list, h.num6]
  exact h.ents.listFrom ⟨N0, 0, []⟩ 4 0 rfl (Nat.zero_le _)
theorem FileE.look (h : FileE C T N0 E) (hs : SoundL (padTo C T) (rsOf N0 E)) :
    (look C).bad = -1 ∧ (look C).L = padTo C T ∧ (look C).roots = rsOf N0 E ∧ (∀ n, n < 256 → (look C).used.getD n 0 = base6 n + useOf (padTo C T) (rsOf N0 E) n) ∧ Low 1000 (look C) := by
  have := look_sound h.headGood (by rw [h.listOf]) (by rw [h.listOf, h.pad]; exact hs)
  rw [h.listOf, h.pad] at this
  exact this
theorem FileE.exact (h : FileE C T N0 E) (hs : SoundL (padTo C T) (rsOf N0 E)) (hx : ExactS (padTo C T) (rsOf N0 E)) : exactB (Go.Proofs.YtknjjjenklfeoaaGreatDoor.look C) = true := by
  have := look_exact h.headGood (by rw [h.listOf]) (by rw [h.listOf, h.pad]; exact hs.toExact hx)
  exact this.2.2.2.1
/-- What a file holds. -/
def dskOf (L : List Clus) (N0 : Nat) (E : List EntR) : DiskR := ⟨contentOf L N0, E.map fun e => ⟨e.name, contentOf L e.first⟩⟩
theorem FileE.disk (h : FileE C T N0 E) (hs : SoundL (padTo C T) (rsOf N0 E)) : diskOf (Go.Proofs.YtknjjjenklfeoaaGreatDoor.look C) = dskOf (padTo C T) N0 E := by
  obtain ⟨_, h2, h3, _⟩ := h.look hs
  rw [diskOf_eq]
  unfold dskOf picsTo picOf rootOf
  rw [h2, h3]
  have e0 : ((rsOf N0 E).getD 0 ⟨0, 0, []⟩).N = N0 := rfl
  rw [e0]
  congr 1
  apply List.ext_getElem?
  intro i
  rw [List.getElem?_map, List.getElem?_map]
  have hl : (rsOf N0 E).length - 1 = E.length := by simp [rsOf]
  rw [hl]
  by_cases hi : i < E.length
  · rw [List.getElem?_range hi, List.getElem?_eq_getElem hi, Option.map_some, Option.map_some]
    have e : (rsOf N0 E).getD (i + 1) ⟨0, 0, []⟩ = rootE E[i] := by
      unfold rsOf
      rw [List.getD_cons_succ, List.getD_eq_getElem?_getD, List.getElem?_map, List.getElem?_eq_getElem hi]
      rfl
    rw [e]; rfl
  · rw [List.getElem?_eq_none (by simpa using hi), List.getElem?_eq_none (by omega)]; rfl
theorem padTo_self (hC : C.length = T) : padTo C T = C := by rw [← hC]; exact padTo_same

/-- Between two calls: the file is as long as its head says, and sound; all is flushed; the log leads to it. -/
structure Vol (base : List Clus) (V : VolR) (N0 : Nat) (E : List EntR) : Prop where
  file : FileE V.C V.C.length N0 E
  sound : SoundL V.C (rsOf N0 E)
  firm : V.loose = false
  log : Logged base V
section
variable {base : List Clus} {V : VolR}
theorem Vol.pad (_h : Vol base V N0 E) : padTo V.C V.C.length = V.C := padTo_same
theorem Vol.look (h : Vol base V N0 E) : (look V.C).bad = -1 ∧ (look V.C).L = V.C ∧ (look V.C).roots = rsOf N0 E ∧ (∀ n, n < 256 → (look V.C).used.getD n 0 = base6 n + useOf V.C (rsOf N0 E) n) ∧ Low 1000 (look V.C) := by
  have := h.file.look (by rw [h.pad]; exact h.sound)
  rw [h.pad] at this
  exact this
theorem Vol.exactB (h : Vol base V N0 E) (hx : ExactS V.C (rsOf N0 E)) : exactB (Go.Proofs.YtknjjjenklfeoaaGreatDoor.look V.C) = true := h.file.exact (by rw [h.pad]; exact h.sound) (by rw [h.pad]; exact hx)
theorem Vol.disk (h : Vol base V N0 E) : diskOf (Go.Proofs.YtknjjjenklfeoaaGreatDoor.look V.C) = dskOf V.C N0 E := by
  have := h.file.disk (by rw [h.pad]; exact h.sound)
  rw [h.pad] at this
  exact this
theorem Vol.firsts (h : Vol base V N0 E) : firstsOf V = (rsOf N0 E).map (·.N) := by
  unfold firstsOf
  rw [h.file.num6, h.file.ents.picFirsts h.file.list]
  simp [rsOf, rootE]
end
end
end Go.Proofs.YtknjjjenklfeoaaGreatDoor
