import Derived.Test.YtknjjjenklfeoaaGreatDoorP45
import Derived.Test.YtknjjjenklfeoaaGreatDoorP36
/-
  vellumlaw's shares: Return.
-/
namespace Go.Proofs.YtknjjjenklfeoaaGreatDoor
open Go.RowKit
attribute [local go_sem ↓] loadVar_clus storeVar_clus zeroValue_clus loadVar_op
attribute [local go_sem] run_loadClus run_storeClus run_zeroClus run_storeClus_new run_loadClus_new zc_length run_loadOp HasAt_drew cellsAt_drew

def ShareF (p bo y : Nat) (s : ByteArray) (w' : World) : Prop := w'.cell? ⟨p, 1, none⟩ = some (.pointer (some ⟨y, 0, none⟩)) ∧ w'.cell? ⟨bo, 2, none⟩ = some (.string s)

theorem refFindFrom_range (Ps : List PicR) (s : ByteArray) : ∀ m k, -1 ≤ refFindFrom Ps s m k ∧ refFindFrom Ps s m k ≤ ((k + m : Nat) : Int)
  | 0, k => by show -1 ≤ (-1 : Int) ∧ (-1 : Int) ≤ _; omega
  | m + 1, k => by
    have := refFindFrom_range Ps s m (k + 1)
    rw [refFindFrom]
    split <;> omega
theorem refFind_range (D : DiskR) (s : ByteArray) : -1 ≤ refFind D s ∧ refFind D s ≤ (D.L.length : Int) := by
  have := refFindFrom_range D.L s D.L.length 0
  unfold refFind
  omega
theorem root_next {R : FileR} {N0 : Nat} {E : List EntR} {i : Nat} (h : R.roots = rsOf N0 E) (hi : i < E.length) : rootOf R (i + 1) = rootE (E.getD i ze) := by
  unfold rootOf rsOf at *
  rw [h, List.getD_cons_succ, List.getD_eq_getElem?_getD, List.getD_eq_getElem?_getD, List.getElem?_map, List.getElem?_eq_getElem hi]
  rfl

set_option linter.unusedSimpArgs false in
set_option maxHeartbeats 4000000 in
set_option maxRecDepth 100000 in
theorem sharesReturn_any (w : World) (p : Nat) (P : PairR) (S : Nat → Prop) (N0 : Nat) (E : List EntR) (h : PairAt w p P S) (hst : Stands P N0 E) (hL : P.V.L.length ≤ 400000000) (o : OpR) (hn : o.name.size ≤ maxLen) (hkd : o.kind = 4) :
    Calls Tryz.prog 63 #[.pointer (some ⟨p, 0, none⟩), .agg (opCells o).toArray] w fun e w' => e = .returned (.bool true) ∧ ∃ P' N1 E', Stands P' N1 E' ∧ ∃ S', Went w w' p P S P' S' := by
  have hg := hst.vol
  obtain ⟨k1, k2, k3, k4, k5⟩ := hg.look
  have h7 := hg.file.seven
  have hmost := hg.file.most
  have hlens := hg.file.lens
  have hr0 : (⟨N0, 0, []⟩ : RootR) ∈ rsOf N0 E := by simp [rsOf]
  have hinE : ∀ i, i < E.length → InFile P.V.C (E.getD i ze).first := fun i hi => by
    obtain ⟨r, hr, e⟩ := List.mem_map.1 (hg.rootsE hi)
    rw [← e]
    exact hg.sound.inFile hr
  have hcase := hg.returnCases o.name
  have hrl : (rsOf N0 E).length ≤ 5 := by have := hg.file.ents.len; simp [rsOf]; omega
  have hFst := fun he => hg.returnHyps (s := o.name) he
  have hDl : P.D.L.length ≤ 4 := by rw [← hst.disk, dsk_len]; exact hg.file.ents.len
  have hfr2 := refFind_range P.D o.name
  have hb0 : Below w.heap.size w (w.alloc (.cells (opCells o).toArray 80)) := (Below.refl _ _).alloc (Nat.le_refl _) _
  have hbx0 : (w.alloc (.cells (opCells o).toArray 80)).heap[w.heap.size]? = some (.cells (opCells o).toArray 80 (0, 0)) := heap_alloc_new _ _
  have c0 := (h.below hb0).c0
  have H := hide h
  have HG := hide hg
  have HS := hide hst
  have B0 := hide hb0
  have X0 := hide hbx0
  have HC := hide hcase
  have hft := fun k hk => (unhide H).lt k ((unhide H).inD k (Or.inr hk))
  have Hft := hide hft
  have Hk := hide hkd
  have HFst := hide hFst
  clear h hg hb0 hbx0 hcase hft hst hkd hFst
  go_enter Tryz.func63, Tryz.ntmps63
  go_wp2_with fail
  generalize w.alloc (.cells (opCells o).toArray 80) = w0 at *
  refine (diskFile_any w0 _ _ _ _ _ ((unhide H).below (unhide B0)).dsk (by omega) (by omega)).mono ?_
  rintro e w1 ⟨fv, rfl, rf1, b1⟩
  have B1 := hide ((unhide B0).trans (b1.mono (unhide B0).size))
  have X1 := hide ((b1.block _ (blk_lt (unhide X0))).trans (unhide X0))
  have R1 : Hid (FRow w1 fv P.V.C) := ⟨row_base rf1 (Nat.zero_le _), hlens⟩
  clear B0 X0 rf1 b1 c0
  go_wp2_with fail
  refine (look_any w1 fv P.V.C (unhide R1) (by omega)).mono ?_
  rintro e w2 ⟨rfl, fl, fr, hLk⟩
  have B2 := hide ((unhide B1).trans (hLk.below.mono (unhide B1).size))
  have X2 := hide ((hLk.below.block _ (blk_lt (unhide X1))).trans (unhide X1))
  have F2 := hide hLk.at'
  have hfr : ∀ g, fl.ownBlock = some g → w.heap.size ≤ g := fun g hg => Nat.le_trans (unhide B1).size (hLk.fresh g hg)
  have Hfr := hide hfr
  have hfs : w.heap.size ≤ w1.heap.size := (unhide B1).size
  have c1 := ((unhide H).below (unhide B2)).c1
  have hf2 : w1.heap.size < w2.heap.size := blk_lt hLk.at'.blk
  have hs2 : w.heap.size ≤ w2.heap.size := (unhide B2).size
  clear hLk B1 X1 R1 hfr
  generalize w1.heap.size = f at *
  go_wp2_with fail
  refine (copied_any w2 P.y P.Pv P.D ((unhide H).below (unhide B2)).ref (by omega)).mono ?_
  rintro e w3 ⟨Qv, rfl, hD3, hQ3, b3⟩
  have B3 := hide ((unhide B2).trans (b3.mono (unhide B2).size))
  have X3 := hide ((b3.block _ (blk_lt (unhide X2))).trans (unhide X2))
  have F3 := hide ((unhide F2).below b3)
  have D3 := hide hD3
  have hz3 : w2.heap.size < w3.heap.size := hD3.lt
  have hQ : ∀ g, Qv.ownBlock = some g → w.heap.size ≤ g ∧ g < w3.heap.size := fun g hg => ⟨by have := hQ3 g hg; omega, (hD3.row.lt g hg).2⟩
  have HF2l : Hid (∀ g, fl.ownBlock = some g → g < w2.heap.size) := fun g hg => ((unhide F2).rowL.lt g hg).2
  have HF2r : Hid (∀ g, fr.ownBlock = some g → g < w2.heap.size) := fun g hg => ((unhide F2).rowR.lt g hg).2
  have HQ := hide hQ
  have HQ3 := hide hQ3
  have ck : w3.cell? ⟨w.heap.size, 0, none⟩ = some (.int .i64 4) := by rw [cell_blk (unhide X3) 0, List.getElem?_toArray]; show some (Value.int .i64 o.kind) = _; rw [unhide Hk]
  clear hD3 hQ3 b3 hQ X2 F2 c1 B2
  generalize w2.heap.size = z at *
  go_wp2_with fail
  have hTf : ShareF p w.heap.size P.y o.name w3.drew := ⟨((unhide H).below (unhide B3).drew).c1, (cell_blk (w := w3) (unhide X3) 2).trans rfl⟩
  have Hfi := hide (refFind_any w3.drew P.y P.Pv P.D ((unhide H).below (unhide B3).drew).ref (by omega) o.name)
  rw [(unhide HS).disk] at HC
  generalize hrf : refFind P.D o.name = rf at *
  have Hrf := hide hrf
  clear hrf
  obtain ⟨hrf1, hrf2⟩ := hfr2
  have hrf3 : rf ≤ 4 := by omega
  refine wp_region_L (ShareF p w.heap.size P.y o.name) 8 (by kernel_rfl) ?_
  refine wpAnyL_take (i := 0) (v := ?_) rfl (by kernel_rfl) (by kernel_rfl) (by kernel_rfl) (by kernel_rfl) (fun _ _ _ h => h) (Or.inl ⟨by rfl, fun W hW => ?_⟩) hTf ?_
  rotate_left 1
  · (obtain ⟨t0, t1⟩ := hW; go_simp; with_reducible rfl)
  simp only [Act.put, List.setIfInBounds_toArray, List.set_cons_zero, List.set_cons_succ]
  refine wpAnyL_take (i := 1) (v := ?_) rfl (by kernel_rfl) (by kernel_rfl) (by kernel_rfl) (by kernel_rfl) (fun _ _ _ h => h) (Or.inl ⟨by rfl, fun W hW => ?_⟩) hTf ?_
  rotate_left 1
  · (obtain ⟨t0, t1⟩ := hW; go_simp; with_reducible rfl)
  simp only [Act.put, List.setIfInBounds_toArray, List.set_cons_zero, List.set_cons_succ]
  refine wpAnyL_take (i := 2) (v := ?_) rfl (by kernel_rfl) (by kernel_rfl) (by kernel_rfl) (by kernel_rfl) (fun _ _ _ h => h) (Or.inl ⟨by rfl, fun W hW => ?_⟩) hTf ?_
  rotate_left 1
  · (obtain ⟨t0, t1⟩ := hW; go_simp; with_reducible rfl)
  simp only [Act.put, List.setIfInBounds_toArray, List.set_cons_zero, List.set_cons_succ]
  refine wpAnyL_take (i := 3) (v := ?_) rfl (by kernel_rfl) (by kernel_rfl) (by kernel_rfl) (by kernel_rfl) (fun _ _ _ h => h) (Or.inl ⟨by rfl, fun W hW => ?_⟩) hTf ?_
  rotate_left 1
  · (obtain ⟨t0, t1⟩ := hW; go_simp; with_reducible rfl)
  simp only [Act.put, List.setIfInBounds_toArray, List.set_cons_zero, List.set_cons_succ]
  refine wpAnyL_take (i := 4) (v := ?_) rfl (by kernel_rfl) (by kernel_rfl) (by kernel_rfl) (by kernel_rfl) (fun _ _ _ h => h) (Or.inl ⟨by rfl, fun W hW => ?_⟩) hTf ?_
  rotate_left 1
  · (obtain ⟨t0, t1⟩ := hW; go_simp; with_reducible rfl)
  simp only [Act.put, List.setIfInBounds_toArray, List.set_cons_zero, List.set_cons_succ]
  refine wpAnyL_take (i := 5) (v := ?_) rfl (by kernel_rfl) (by kernel_rfl) (by kernel_rfl) (by kernel_rfl) (fun _ _ _ h => h) (Or.inl ⟨by rfl, fun W hW => ?_⟩) hTf ?_
  rotate_left 1
  · (obtain ⟨t0, t1⟩ := hW; go_simp; with_reducible rfl)
  simp only [Act.put, List.setIfInBounds_toArray, List.set_cons_zero, List.set_cons_succ]
  refine wpAnyL_one (i := 6) (by kernel_rfl) rfl fun K6 hK6 => ?_
  go_simp
  go_at_call 120
  refine (unhide Hfi).mono ?_
  rintro e w3' ⟨rfl, rfl⟩
  refine hK6 _ _ (Or.inr hTf) ?_
  try simp only [Act.put, List.setIfInBounds_toArray, List.set_cons_zero, List.set_cons_succ]
  refine wpAnyL_take (i := 7) (v := ?_) rfl (by kernel_rfl) (by kernel_rfl) (by kernel_rfl) (by kernel_rfl) (fun _ _ _ h => h) (Or.inl ⟨by rfl, fun W hW => ?_⟩) hTf ?_
  rotate_left 1
  · (obtain ⟨t0, t1⟩ := hW; go_simp; with_reducible rfl)
  simp only [Act.put, List.setIfInBounds_toArray, List.set_cons_zero, List.set_cons_succ]
  refine wpAnyL_one (i := 8) (by kernel_rfl) rfl fun K8 hK8 => ?_
  go_simp
  refine hK8 _ _ (Or.inl rfl) ?_
  try simp only [Act.put, List.setIfInBounds_toArray, List.set_cons_zero, List.set_cons_succ]
  refine wpAnyL_done (by kernel_rfl) ?_ _
  clear hTf Hfi ck
  have hwr : IntKind.i64.wrap (1 + rf) = 1 + rf := IntWalk.i64_in _ (by omega)
  try rw [hwr]
  have hdr : Below w3.heap.size w3 w3.drew := (Below.refl _ w3).drew
  have B3' := hide ((unhide B3).drew)
  have X3' := hide (show w3.drew.heap[w.heap.size]? = _ from unhide X3)
  have F3' := hide ((unhide F3).below hdr)
  have D3' := hide ((unhide D3).below hdr)
  have hz3' : z < w3.drew.heap.size := hz3
  have HQ' : Hid (∀ g, Qv.ownBlock = some g → w.heap.size ≤ g ∧ g < w3.drew.heap.size) := unhide HQ
  clear B3 X3 F3 D3 hdr hwr hz3 HQ
  generalize w3.drew = w3 at *
  have B3 := B3'
  have X3 := X3'
  have F3 := F3'
  have D3 := D3'
  have hz3 := hz3'
  have HQ := HQ'
  clear B3' X3' F3' D3' hz3' HQ'
  go_wp2_with fail
  have hT : ShareT p w.heap.size P.d o.name w3.drew := ⟨((unhide H).below (unhide B3).drew).c0, (cell_blk (w := w3) (unhide X3) 2).trans rfl⟩
  have Hw := hide (diskReturn_any w3.drew P.d P.v P.Cv P.Lv P.V ((unhide H).below (unhide B3).drew).dsk (by omega) hmost (by omega) o.name hn (fun he => (unhide HFst he).1) (fun he => (unhide HFst he).2))
  generalize hR : returnR P.V o.name = R at *
  have HR := hide hR
  clear hR
  refine wp_region_L (ShareT p w.heap.size P.d o.name) 7 (by kernel_rfl) ?_
  refine wpAnyL_take (i := 0) (v := ?_) rfl (by kernel_rfl) (by kernel_rfl) (by kernel_rfl) (by kernel_rfl) (fun _ _ _ h => h) (Or.inl ⟨by rfl, fun W hW => ?_⟩) hT ?_
  rotate_left 1
  · (obtain ⟨t0, t1⟩ := hW; go_simp; with_reducible rfl)
  simp only [Act.put, List.setIfInBounds_toArray, List.set_cons_zero, List.set_cons_succ]
  refine wpAnyL_take (i := 1) (v := ?_) rfl (by kernel_rfl) (by kernel_rfl) (by kernel_rfl) (by kernel_rfl) (fun _ _ _ h => h) (Or.inl ⟨by rfl, fun W hW => ?_⟩) hT ?_
  rotate_left 1
  · (obtain ⟨t0, t1⟩ := hW; go_simp; with_reducible rfl)
  simp only [Act.put, List.setIfInBounds_toArray, List.set_cons_zero, List.set_cons_succ]
  refine wpAnyL_take (i := 2) (v := ?_) rfl (by kernel_rfl) (by kernel_rfl) (by kernel_rfl) (by kernel_rfl) (fun _ _ _ h => h) (Or.inl ⟨by rfl, fun W hW => ?_⟩) hT ?_
  rotate_left 1
  · (obtain ⟨t0, t1⟩ := hW; go_simp; with_reducible rfl)
  simp only [Act.put, List.setIfInBounds_toArray, List.set_cons_zero, List.set_cons_succ]
  refine wpAnyL_take (i := 3) (v := ?_) rfl (by kernel_rfl) (by kernel_rfl) (by kernel_rfl) (by kernel_rfl) (fun _ _ _ h => h) (Or.inl ⟨by rfl, fun W hW => ?_⟩) hT ?_
  rotate_left 1
  · (obtain ⟨t0, t1⟩ := hW; go_simp; with_reducible rfl)
  simp only [Act.put, List.setIfInBounds_toArray, List.set_cons_zero, List.set_cons_succ]
  refine wpAnyL_take (i := 4) (v := ?_) rfl (by kernel_rfl) (by kernel_rfl) (by kernel_rfl) (by kernel_rfl) (fun _ _ _ h => h) (Or.inl ⟨by rfl, fun W hW => ?_⟩) hT ?_
  rotate_left 1
  · (obtain ⟨t0, t1⟩ := hW; go_simp; with_reducible rfl)
  simp only [Act.put, List.setIfInBounds_toArray, List.set_cons_zero, List.set_cons_succ]
  refine wpAnyL_take (i := 5) (v := ?_) rfl (by kernel_rfl) (by kernel_rfl) (by kernel_rfl) (by kernel_rfl) (fun _ _ _ h => h) (Or.inl ⟨by rfl, fun W hW => ?_⟩) hT ?_
  rotate_left 1
  · (obtain ⟨t0, t1⟩ := hW; go_simp; with_reducible rfl)
  simp only [Act.put, List.setIfInBounds_toArray, List.set_cons_zero, List.set_cons_succ]
  refine wpAnyL_one (i := 6) (by kernel_rfl) rfl fun K6 hK6 => ?_
  go_simp
  go_at_call 28
  refine (unhide Hw).mono ?_
  rintro e w4 ⟨rfl, C4, L4, hS4⟩
  have S4 : Hid (VStep w3 w4 P.v P.Cv P.Lv C4 L4 R.1) := ⟨hS4.at', ⟨hS4.kept.os, hS4.kept.tape, hS4.kept.output, hS4.kept.size, hS4.kept.block⟩, hS4.new⟩
  have hnf : ∀ k, w.heap.size ≤ k → ¬ foot P.v P.Cv P.Lv k := fun k hk hf => by have := unhide Hft k hf; omega
  have X4 := hide ((unhide S4).kept.blk (hnf _ (Nat.le_refl _)) (unhide X3))
  have F4 := hide ((unhide F3).kept (unhide S4).kept (hnf _ hfs) (fun g hg => hnf g (unhide Hfr g hg)) (fun g hg => by obtain ⟨cs, fr', hb⟩ := row_blk (unhide F3).rowR hg; exact ((unhide H).below (unhide B3)).footKey hb (by decide) (by decide) (by decide)))
  have D4 := hide ((unhide D3).kept (unhide S4).kept (hnf _ hs2) (fun g hg => hnf g (unhide HQ g hg).1))
  have hsz4 : w3.heap.size ≤ w4.heap.size := (unhide S4).kept.size
  have c04 := (((unhide H).below (unhide B3)).step (unhide S4)).c0
  have hT4 : ShareT p w.heap.size P.d o.name w4 := ⟨c04, (cell_blk (unhide X4) 2).trans rfl⟩
  clear hS4 hnf
  refine hK6 _ _ (Or.inr hT4) ?_
  try simp only [Act.put, List.setIfInBounds_toArray, List.set_cons_zero, List.set_cons_succ]
  refine wpAnyL_one (i := 7) (by kernel_rfl) rfl fun K7 hK7 => ?_
  go_simp
  refine hK7 _ _ (Or.inl rfl) ?_
  try simp only [Act.put, List.setIfInBounds_toArray, List.set_cons_zero, List.set_cons_succ]
  refine wpAnyL_done (by kernel_rfl) ?_ _
  clear hT hT4 c04 Hw X3 F3 D3
  have cn4 : w4.cell? ⟨w.heap.size, 2, none⟩ = some (.string o.name) := (cell_blk (unhide X4) 2).trans rfl
  have Hw := hide (refReturn_any w4 z Qv P.D (unhide D4) (by omega) o.name hn)
  generalize hR' : refReturnR P.D o.name = R' at *
  clear hR'
  go_wp2_with fail
  refine (unhide Hw).mono ?_
  rintro e w5 ⟨rfl, hD5, hkk5⟩
  have hk5 : Kept (fun x => x = z ∨ Qv.ownBlock = some x) w4 w5 := hkk5.mono fun x e => Or.inl e
  have D5 := hide hD5
  have HQ5 : Hid (∀ g, Qv.ownBlock = some g → w.heap.size ≤ g) := fun g hg => (unhide HQ g hg).1
  have F5 := hide ((unhide F4).kept hk5 (fun x => by
    rcases x with x | x
    · omega
    · have := unhide HQ3 _ x; omega) (fun g hg x => by
    have := unhide HF2l g hg
    rcases x with x | x
    · omega
    · have := unhide HQ3 _ x; omega) (fun g hg x => by
    have := unhide HF2r g hg
    rcases x with x | x
    · omega
    · have := unhide HQ3 _ x; omega))
  have Hoth := hide (fun hl hm => Went.other (unhide H) (unhide B3) (unhide S4) hk5 ⟨hs2, hz3⟩ (unhide HQ) hl hm)
  have hnz : ¬ (S z ∨ foot P.v C4 L4 z) := fun x => by
    rcases ((unhide H).below (unhide B3)).step_new (unhide S4) z x with y | y
    · have := (unhide H).lt z y; omega
    · omega
  have Hnz := hide hnz
  clear hD5 hkk5 hk5 hnz
  clear Hw X4 F4 D4 cn4
  have cb5 := (unhide F5).cBad
  rw [k1] at cb5
  rcases unhide HC with ⟨c, hc, e1, e2⟩ | ⟨e2, i, hi, e3, ⟨hrm, e1⟩ | ⟨hrm, e1, hl, hm, N1, hcm⟩⟩
  · subst e1
    subst e2
    dsimp only at Hoth D5 ⊢
    have HW := hide (unhide Hoth (by omega) (Nat.le_refl _))
    have Hst : Hid (Stands { P with Cv := C4, Lv := L4, V := P.V } N0 E) := ⟨(unhide HS).vol, (unhide HS).disk, (unhide HS).exact⟩
    have d0 : (((c : Nat) : Int) == 0) = false := by rw [beq_eq_false_iff_ne]; omega
    have hnum := hide (fun W => num_any ((c : Nat) : Int) W)
    clear Hoth D5 F5 HC
    go_wp2_with fail
    refine (unhide hnum _).mono ?_
    rintro e w9 ⟨rfl, rfl⟩
    go_wp2
    go_ret
    exact ⟨rfl, _, _, _, unhide Hst, _, unhide HW⟩
  · subst e1
    dsimp only at Hoth ⊢
    rw [e2]
    have HW := hide (unhide Hoth (by omega) (Nat.le_refl _))
    have Hst : Hid (Stands { P with Cv := C4, Lv := L4, V := P.V } N0 E) := ⟨(unhide HS).vol, (unhide HS).disk, (unhide HS).exact⟩
    have hrt : rootOf (look P.V.C) (i + 1) = rootE (E.getD i ze) := root_next k3 hi
    rw [e3]
    have Hroom := hide (fun (W : World) (hB : Below w5.heap.size w5 W) => refRoom_any W f fl fr (look P.V.C) ((unhide F5).below hB) (i + 1) (by rw [k3]; simp [rsOf]; omega) (by rw [k3]; omega) (by rw [k2]; exact hmost) (by rw [k2]; omega) (by rw [hrt, k2]; exact hinE i hi))
    rw [hrt, k2, show (rootE (E.getD i ze)).N = (E.getD i ze).first from rfl, hrm, show ((i + 1 : Nat) : Int) = 1 + (i : Int) by omega] at Hroom
    clear Hoth D5 F5 HC hrm e2
    go_wp2_with fail
    refine (unhide Hroom _ (Below.refl _ _)).mono ?_
    rintro e w6 ⟨rfl, b6⟩
    have HW6 := hide ((unhide HW).below b6)
    clear b6 HW Hroom
    go_wp2
    go_ret
    exact ⟨rfl, _, _, _, unhide Hst, _, unhide HW6⟩
  · rw [e2, e1]
    have HW := hide (unhide Hoth hl hm)
    have hD0 := (unhide HS).disk
    have hrt : rootOf (look P.V.C) (i + 1) = rootE (E.getD i ze) := root_next k3 hi
    rw [e3]
    have Hroom := hide (fun (W : World) (hB : Below w5.heap.size w5 W) => refRoom_any W f fl fr (look P.V.C) ((unhide F5).below hB) (i + 1) (by rw [k3]; simp [rsOf]; omega) (by rw [k3]; omega) (by rw [k2]; exact hmost) (by rw [k2]; omega) (by rw [hrt, k2]; exact hinE i hi))
    rw [hrt, k2, show (rootE (E.getD i ze)).N = (E.getD i ze).first from rfl, hrm, show ((i + 1 : Nat) : Int) = 1 + (i : Int) by omega] at Hroom
    have Hst : Hid (Stands { P with Cv := C4, Lv := L4, V := R.1, y := z, D := R'.1, Pv := Qv } N1 E) := ⟨hcm.vol, hcm.holds, fun hx => hcm.exact ((unhide HS).exact hx)⟩
    have hnum := hide (fun W => num_any 0 W)
    clear Hoth F5 HC hrm e2 e1
    go_wp2_with fail
    refine (unhide Hroom _ (Below.refl _ _)).mono ?_
    rintro e w6 ⟨rfl, b6⟩
    have HW6 := hide ((unhide HW).below b6)
    have HD6 := hide ((unhide D5).below b6)
    have HN := hide (Went.newRef (unhide H) (unhide HW6) (unhide HD6) hs2 (unhide Hnz) (unhide HQ5))
    have f6 := fun j => frozen_blk (unhide HW6).at'.blk j
    have cy6 := (unhide HW6).at'.c1
    clear b6 HW Hroom
    go_wp2_with fail
    refine (unhide hnum _).mono ?_
    rintro e w9 ⟨rfl, rfl⟩
    go_wp2
    go_ret
    exact ⟨rfl, _, _, _, unhide Hst, _, unhide HN⟩
end Go.Proofs.YtknjjjenklfeoaaGreatDoor

/-
  vellumlaw's step: Drop.
-/
namespace Go.Proofs.YtknjjjenklfeoaaGreatDoor
open Go.RowKit
attribute [local go_sem ↓] loadVar_op
attribute [local go_sem] run_loadOp HasAt_drew cellsAt_drew

set_option linter.unusedSimpArgs false in
set_option maxHeartbeats 4000000 in
set_option maxRecDepth 100000 in
theorem stepDrop_any (w : World) (p b : Nat) (P : PairR) (S U : Nat → Prop) (N0 : Nat) (E : List EntR) (V : BookV) (B : BookR) (h : PairAt w p P S) (hst : Stands P N0 E) (hb : BookAt w b V B U) (hSU : ∀ k, S k → ¬ U k) (hpos : 0 < P.V.L.length) (hL : P.V.L.length ≤ 300000000) (hBl : P.B.length ≤ 1000) (hms : P.ms.length ≤ 1000000000) (o : OpR) (hn : o.name.size ≤ maxLen) (hk : o.kind = 5) :
    Calls Tryz.prog 34 (stepArgs p b o) w fun e w' => e = .returned (.tuple #[.pointer (some ⟨p, 0, none⟩), .bool true]) ∧ ∃ P' N1 E', Stands P' N1 E' ∧ ∃ S' V' B' U', Stepped w w' p b P S B U P' S' V' B' U' := by
  unfold stepArgs
  have hbx0 : (w.alloc (.cells (opCells o).toArray 80)).heap[w.heap.size]? = some (.cells (opCells o).toArray 80 (0, 0)) := heap_alloc_new _ _
  have hb0 : Below w.heap.size w (w.alloc (.cells (opCells o).toArray 80)) := (Below.refl _ _).alloc (Nat.le_refl _) _
  have ck : (w.alloc (.cells (opCells o).toArray 80)).cell? ⟨w.heap.size, 0, none⟩ = some (.int .i64 o.kind) := by rw [cell_blk hbx0 0, List.getElem?_toArray]; rfl
  have l1 : HasAt (w.alloc (.cells (opCells o).toArray 80)) w.heap.size 0 6 := fun j hj => by rw [Nat.zero_add, cell_blk hbx0, List.getElem?_toArray, List.getElem?_eq_getElem (by rw [opCells_length]; exact hj)]; rfl
  have l2 : cellsAt (w.alloc (.cells (opCells o).toArray 80)) w.heap.size 0 6 = opCells o := cellsAt_of_range (fun j v hv => by rw [Nat.zero_add, cell_blk hbx0, List.getElem?_toArray]; exact hv) (opCells_length o)
  have b1 : (o.kind == 1) = false := by rw [hk]; rfl
  have b2 : (o.kind == 2) = false := by rw [hk]; rfl
  have b3 : (o.kind == 3) = false := by rw [hk]; rfl
  have b4 : (o.kind == 4) = false := by rw [hk]; rfl
  have b5 : (o.kind == 5) = true := by rw [hk]; rfl
  have b6 : (o.kind == 6) = false := by rw [hk]; rfl
  have b7 : (o.kind == 7) = false := by rw [hk]; rfl
  have b9 : (o.kind == 9) = false := by rw [hk]; rfl
  have b10 : (o.kind == 10) = false := by rw [hk]; rfl
  have b11 : (o.kind == 11) = false := by rw [hk]; rfl
  have b12 : (o.kind == 12) = false := by rw [hk]; rfl
  have b13 : (o.kind == 13) = false := by rw [hk]; rfl
  have b14 : (o.kind == 14) = false := by rw [hk]; rfl
  have H := hide h
  have HB := hide hb
  have HS := hide hst
  have B0 := hide hb0
  have Hk := hide hk
  have hsz : (w.alloc (.cells (opCells o).toArray 80)).heap.size = w.heap.size + 1 := by simp
  have Hsz := hide hsz
  clear h hst hb0 hbx0 hk hb hsz
  go_enter Tryz.func34, Tryz.ntmps34
  go_wp2_with fail
  have hg := (unhide HS).vol
  have h7 := hg.file.seven
  have hmost := hg.file.most
  have hDl : P.D.L.length ≤ 4 := by rw [← (unhide HS).disk, dsk_len]; exact hg.file.ents.len
  have HC := hide (hg.dropCases o.name)
  rw [(unhide HS).disk] at HC
  have HFst := hide (fun he => hg.dropGoes (s := o.name) he)
  have hft := fun k hk => (unhide H).lt k ((unhide H).inD k (Or.inr hk))
  have Hft := hide hft
  have X0 : Hid ((w.alloc (.cells (opCells o).toArray 80)).heap[w.heap.size]? = some (.cells (opCells o).toArray 80 (0, 0))) := heap_alloc_new _ _
  clear hg hft ck l1 l2
  generalize w.alloc (.cells (opCells o).toArray 80) = w3 at *
  have B3 := B0
  have X3 := X0
  clear B0 X0
  have hT : ShareT p w.heap.size P.d o.name w3.drew := ⟨((unhide H).below (unhide B3).drew).c0, (cell_blk (w := w3) (unhide X3) 2).trans rfl⟩
  have Hw := hide (diskDrop_any w3.drew P.d P.v P.Cv P.Lv P.V ((unhide H).below (unhide B3).drew).dsk (by omega) hmost (by omega) o.name hn (unhide HFst))
  generalize hR : dropR P.V o.name = R at *
  have HR := hide hR
  clear hR
  refine wp_region_L (ShareT p w.heap.size P.d o.name) 7 (by kernel_rfl) ?_
  refine wpAnyL_take (i := 0) (v := ?_) rfl (by kernel_rfl) (by kernel_rfl) (by kernel_rfl) (by kernel_rfl) (fun _ _ _ h => h) (Or.inl ⟨by rfl, fun W hW => ?_⟩) hT ?_
  rotate_left 1
  · (obtain ⟨t0, t1⟩ := hW; go_simp; with_reducible rfl)
  simp only [Act.put, List.setIfInBounds_toArray, List.set_cons_zero, List.set_cons_succ]
  refine wpAnyL_take (i := 1) (v := ?_) rfl (by kernel_rfl) (by kernel_rfl) (by kernel_rfl) (by kernel_rfl) (fun _ _ _ h => h) (Or.inl ⟨by rfl, fun W hW => ?_⟩) hT ?_
  rotate_left 1
  · (obtain ⟨t0, t1⟩ := hW; go_simp; with_reducible rfl)
  simp only [Act.put, List.setIfInBounds_toArray, List.set_cons_zero, List.set_cons_succ]
  refine wpAnyL_take (i := 2) (v := ?_) rfl (by kernel_rfl) (by kernel_rfl) (by kernel_rfl) (by kernel_rfl) (fun _ _ _ h => h) (Or.inl ⟨by rfl, fun W hW => ?_⟩) hT ?_
  rotate_left 1
  · (obtain ⟨t0, t1⟩ := hW; go_simp; with_reducible rfl)
  simp only [Act.put, List.setIfInBounds_toArray, List.set_cons_zero, List.set_cons_succ]
  refine wpAnyL_take (i := 3) (v := ?_) rfl (by kernel_rfl) (by kernel_rfl) (by kernel_rfl) (by kernel_rfl) (fun _ _ _ h => h) (Or.inl ⟨by rfl, fun W hW => ?_⟩) hT ?_
  rotate_left 1
  · (obtain ⟨t0, t1⟩ := hW; go_simp; with_reducible rfl)
  simp only [Act.put, List.setIfInBounds_toArray, List.set_cons_zero, List.set_cons_succ]
  refine wpAnyL_take (i := 4) (v := ?_) rfl (by kernel_rfl) (by kernel_rfl) (by kernel_rfl) (by kernel_rfl) (fun _ _ _ h => h) (Or.inl ⟨by rfl, fun W hW => ?_⟩) hT ?_
  rotate_left 1
  · (obtain ⟨t0, t1⟩ := hW; go_simp; with_reducible rfl)
  simp only [Act.put, List.setIfInBounds_toArray, List.set_cons_zero, List.set_cons_succ]
  refine wpAnyL_take (i := 5) (v := ?_) rfl (by kernel_rfl) (by kernel_rfl) (by kernel_rfl) (by kernel_rfl) (fun _ _ _ h => h) (Or.inl ⟨by rfl, fun W hW => ?_⟩) hT ?_
  rotate_left 1
  · (obtain ⟨t0, t1⟩ := hW; go_simp; with_reducible rfl)
  simp only [Act.put, List.setIfInBounds_toArray, List.set_cons_zero, List.set_cons_succ]
  refine wpAnyL_one (i := 6) (by kernel_rfl) rfl fun K6 hK6 => ?_
  go_simp
  go_at_call 29
  refine (unhide Hw).mono ?_
  rintro e w4 ⟨rfl, C4, L4, hS4⟩
  have S4 : Hid (VStep w3 w4 P.v P.Cv P.Lv C4 L4 R.1) := ⟨hS4.at', ⟨hS4.kept.os, hS4.kept.tape, hS4.kept.output, hS4.kept.size, hS4.kept.block⟩, hS4.new⟩
  have hnf : ∀ k, w.heap.size ≤ k → ¬ foot P.v P.Cv P.Lv k := fun k hk hf => by have := unhide Hft k hf; omega
  have X4 := hide ((unhide S4).kept.blk (hnf _ (Nat.le_refl _)) (unhide X3))
  have h4 := hide (((unhide H).below (unhide B3)).step (unhide S4))
  have c04 := (unhide h4).c0
  have hT4 : ShareT p w.heap.size P.d o.name w4 := ⟨c04, (cell_blk (unhide X4) 2).trans rfl⟩
  clear hS4 hnf
  refine hK6 _ _ (Or.inr hT4) ?_
  try simp only [Act.put, List.setIfInBounds_toArray, List.set_cons_zero, List.set_cons_succ]
  refine wpAnyL_one (i := 7) (by kernel_rfl) rfl fun K7 hK7 => ?_
  go_simp
  refine hK7 _ _ (Or.inl rfl) ?_
  try simp only [Act.put, List.setIfInBounds_toArray, List.set_cons_zero, List.set_cons_succ]
  refine wpAnyL_done (by kernel_rfl) ?_ _
  clear hT hT4 c04 Hw X3
  go_wp2_with fail
  have hall : ∃ E1, (refDropR P.D o.name).2 = R.2 ∧ R.1.L.length ≤ P.V.L.length + 100 ∧ P.V.L.length ≤ R.1.L.length ∧ ∀ Qv, Stands { P with Cv := C4, Lv := L4, V := R.1, D := (refDropR P.D o.name).1, Pv := Qv } N0 E1 := by
    rcases unhide HC with ⟨c, hc, e1, e2⟩ | ⟨e2, e1, hl, hm, E', hcm⟩
    · rw [e1, e2]
      exact ⟨E, rfl, Nat.le_add_right _ _, Nat.le_refl _, fun Qv => ⟨(unhide HS).vol, (unhide HS).disk, (unhide HS).exact⟩⟩
    · rw [e1, e2]
      exact ⟨E', rfl, hl, hm, fun Qv => ⟨hcm.vol, hcm.holds, fun hx => hcm.exact ((unhide HS).exact hx)⟩⟩
  obtain ⟨E1, hsame, hl, hm, hst1⟩ := hall
  have Hst1 := hide hst1
  have hTb : ShareF p w.heap.size P.y o.name w4.drew := ⟨(unhide h4).c1, (cell_blk (w := w4) (unhide X4) 2).trans rfl⟩
  have Hnum := hide (fun W => num_any ((R.2 : Nat) : Int) W)
  have Hwr := hide (refDrop_any w4.drew P.y P.Pv P.D ((unhide h4).ref.below ((Below.refl _ w4).drew)) (by omega) o.name hn)
  rw [hsame] at Hwr
  have hylt := (unhide H).ref.lt
  have hplt := (unhide H).lt _ (unhide H).inP
  have hs3 := (unhide B3).size
  have hs4 := (unhide S4).kept.size
  have Hrest := hide (fun (w6 : World) (Qv : Value) (hr : DOnly w4.drew w6 P.y P.Pv Qv (refDropR P.D o.name).1) => Went.did (w6 := w6) (D' := (refDropR P.D o.name).1) (unhide H) (unhide B3) (unhide S4) ⟨hr.kept.os, hr.kept.tape, hr.kept.output, hr.kept.size, hr.kept.block⟩ hr.at' (fun g hg => by
    rcases hr.new g hg with x | x
    · exact Or.inl ((unhide H).inV g (Or.inl x))
    · exact Or.inr (Nat.le_trans (Nat.le_trans hs3 hs4) x)) hl hm)
  have hpy := (unhide h4).footNotY
  have hp5 : p < w4.heap.size := by omega
  have c15 := (unhide h4).c1
  have HT6 := hide (fun (w6 : World) (hk : Kept (fun x => x = P.y) w4.drew w6) => (show ShareF p w.heap.size P.y o.name w6 from
      ⟨(World.cell?_of_block (hk.block p hp5 hpy)).trans c15, (cell_blk (hk.blk (show ¬ w.heap.size = P.y by omega) (unhide X4)) 2).trans rfl⟩))
  clear hpy hp5 c15 hst1 HC
  refine wp_region_L (ShareF p w.heap.size P.y o.name) 10 (by kernel_rfl) ?_
  refine wpAnyL_take (i := 0) (v := ?_) rfl (by kernel_rfl) (by kernel_rfl) (by kernel_rfl) (by kernel_rfl) (fun _ _ _ h => h) (Or.inl ⟨by rfl, fun W hW => ?_⟩) hTb ?_
  rotate_left 1
  · (obtain ⟨t0, t1⟩ := hW; go_simp; with_reducible rfl)
  simp only [Act.put, List.setIfInBounds_toArray, List.set_cons_zero, List.set_cons_succ]
  refine wpAnyL_take (i := 2) (v := ?_) rfl (by kernel_rfl) (by kernel_rfl) (by kernel_rfl) (by kernel_rfl) (fun _ _ _ h => h) (Or.inl ⟨by rfl, fun W hW => ?_⟩) hTb ?_
  rotate_left 1
  · (obtain ⟨t0, t1⟩ := hW; go_simp; with_reducible rfl)
  simp only [Act.put, List.setIfInBounds_toArray, List.set_cons_zero, List.set_cons_succ]
  refine wpAnyL_take (i := 3) (v := ?_) rfl (by kernel_rfl) (by kernel_rfl) (by kernel_rfl) (by kernel_rfl) (fun _ _ _ h => h) (Or.inl ⟨by rfl, fun W hW => ?_⟩) hTb ?_
  rotate_left 1
  · (obtain ⟨t0, t1⟩ := hW; go_simp; with_reducible rfl)
  simp only [Act.put, List.setIfInBounds_toArray, List.set_cons_zero, List.set_cons_succ]
  refine wpAnyL_take (i := 4) (v := ?_) rfl (by kernel_rfl) (by kernel_rfl) (by kernel_rfl) (by kernel_rfl) (fun _ _ _ h => h) (Or.inl ⟨by rfl, fun W hW => ?_⟩) hTb ?_
  rotate_left 1
  · (obtain ⟨t0, t1⟩ := hW; go_simp; with_reducible rfl)
  simp only [Act.put, List.setIfInBounds_toArray, List.set_cons_zero, List.set_cons_succ]
  refine wpAnyL_take (i := 5) (v := ?_) rfl (by kernel_rfl) (by kernel_rfl) (by kernel_rfl) (by kernel_rfl) (fun _ _ _ h => h) (Or.inl ⟨by rfl, fun W hW => ?_⟩) hTb ?_
  rotate_left 1
  · (obtain ⟨t0, t1⟩ := hW; go_simp; with_reducible rfl)
  simp only [Act.put, List.setIfInBounds_toArray, List.set_cons_zero, List.set_cons_succ]
  refine wpAnyL_take (i := 6) (v := ?_) rfl (by kernel_rfl) (by kernel_rfl) (by kernel_rfl) (by kernel_rfl) (fun _ _ _ h => h) (Or.inl ⟨by rfl, fun W hW => ?_⟩) hTb ?_
  rotate_left 1
  · (obtain ⟨t0, t1⟩ := hW; go_simp; with_reducible rfl)
  simp only [Act.put, List.setIfInBounds_toArray, List.set_cons_zero, List.set_cons_succ]
  refine wpAnyL_take (i := 7) (v := ?_) rfl (by kernel_rfl) (by kernel_rfl) (by kernel_rfl) (by kernel_rfl) (fun _ _ _ h => h) (Or.inl ⟨by rfl, fun W hW => ?_⟩) hTb ?_
  rotate_left 1
  · (obtain ⟨t0, t1⟩ := hW; go_simp; with_reducible rfl)
  simp only [Act.put, List.setIfInBounds_toArray, List.set_cons_zero, List.set_cons_succ]
  refine wpAnyL_one (i := 1) (by kernel_rfl) rfl fun K1 hK1 => ?_
  go_simp
  go_at_call 64
  refine (unhide Hnum _).mono ?_
  rintro e w5' ⟨rfl, rfl⟩
  refine hK1 _ _ (Or.inr hTb) ?_
  try simp only [Act.put, List.setIfInBounds_toArray, List.set_cons_zero, List.set_cons_succ]
  refine wpAnyL_one (i := 8) (by kernel_rfl) rfl fun K8 hK8 => ?_
  go_simp
  go_at_call 65
  refine (unhide Hwr).mono ?_
  rintro e w1 ⟨rfl, Qv, hr6⟩
  have H1 := hide (unhide Hrest w1 Qv hr6)
  have HS1 := hide (unhide Hst1 Qv)
  have hT6 := unhide HT6 w1 hr6.kept
  clear hr6 Hrest Hst1 Hwr HT6
  refine hK8 _ _ (Or.inr hT6) ?_
  try simp only [Act.put, List.setIfInBounds_toArray, List.set_cons_zero, List.set_cons_succ]
  refine wpAnyL_take (i := 9) (v := ?_) rfl (by kernel_rfl) (by kernel_rfl) (by kernel_rfl) (by kernel_rfl) (fun _ _ _ h => h) (Or.inl ⟨by rfl, fun W hW => ?_⟩) hT6 ?_
  rotate_left 1
  · (obtain ⟨t0, t1⟩ := hW; go_simp; with_reducible rfl)
  simp only [Act.put, List.setIfInBounds_toArray, List.set_cons_zero, List.set_cons_succ]
  refine wpAnyL_one (i := 10) (by kernel_rfl) rfl fun K10 hK10 => ?_
  go_simp
  refine hK10 _ _ (Or.inl rfl) ?_
  try simp only [Act.put, List.setIfInBounds_toArray, List.set_cons_zero, List.set_cons_succ]
  refine wpAnyL_done (by kernel_rfl) ?_ _
  clear hTb hT6 X4 h4 S4
  have hl1 := (unhide H1).log
  generalize { P with Cv := C4, Lv := L4, V := R.1, D := (refDropR P.D o.name).1, Pv := Qv } = P1 at *
  generalize (fun k => (S k ∨ foot P.v C4 L4 k) ∨ Qv.ownBlock = some k) = S1 at *
  go_wp2_with fail
  refine (stands_any w1 p P1 S1 N0 E1 (unhide H1).at' (unhide HS1) ((unhide H1).logp hpos) (by omega) (by rw [(unhide H1).base]; exact hBl) (by rw [(unhide H1).marks]; exact hms)).mono ?_
  rintro e w2 ⟨rfl, Mv2, m2, hm2, hd2, S2, h2, k2, n2⟩
  have hfin : ∃ P' N1 E', Stands P' N1 E' ∧ ∃ S' V' B' U', Stepped w w2 p b P S B U P' S' V' B' U' := by
    have hlt := (unhide HB).lt
    have hw1 := unhide H1
    have hkS : Kept S w w1 := hw1.kept
    have hs1 := hkS.size
    have new1 : ∀ k, S1 k → S k ∨ w.heap.size ≤ k := fun k hk => by
      rcases hw1.new k hk with x | x
      · exact Or.inl x
      · exact Or.inr (by omega)
    have new2 : ∀ k, S2 k → S k ∨ w.heap.size ≤ k := fun k hk => by
      rcases n2 k hk with x | x
      · exact new1 k x
      · exact Or.inr (by omega)
    have hk2 : Kept S w w2 := by
      refine ⟨k2.os.trans hkS.os, k2.tape.trans hkS.tape, k2.output.trans hkS.output, Nat.le_trans hs1 k2.size, fun k hk hn => ?_⟩
      rw [k2.block k (by omega) (fun hx => by
        rcases new1 k hx with y | y
        · exact hn y
        · omega)]
      exact hkS.block k hk hn
    have hbk : BookAt w2 b V B U := (unhide HB).kept hk2 (fun k hu hsx => hSU k hsx hu)
    refine ⟨{ P1 with Mv := Mv2, ms := P1.ms ++ [m2] }, N0, E1, ⟨(unhide HS1).vol, (unhide HS1).disk, (unhide HS1).exact⟩, S2, V, B, U, h2, hbk, hw1.base, hw1.log, hw1.logp, ?_, by omega, by omega, by omega, by omega, fun x hx => Or.inl hx, fun x hx => Or.inl hx, fun x hx => Or.inl hx, hk2.mono fun k hk => Or.inl hk, new2, fun k hk => Or.inl hk, fun k hk hu => ?_⟩
    · show (P1.ms ++ [m2]).length ≤ _
      rw [hw1.marks]; simp
    · rcases new2 k hk with x | x
      · exact hSU k x hu
      · have := hlt k hu; omega
  have Hfin := hide hfin
  clear hfin h2 k2 n2
  go_wp2
  go_ret2
  exact ⟨rfl, unhide Hfin⟩
end Go.Proofs.YtknjjjenklfeoaaGreatDoor
