import Derived.Test.YtknjjjenklfeoaaGreatDoorP34
import Derived.Test.YtknjjjenklfeoaaGreatDoorP02
import Derived.Test.YtknjjjenklfeoaaGreatDoorP32
import Derived.Deep.Cut
/-
  Check: how the file stands.
-/
namespace Go.Proofs.YtknjjjenklfeoaaGreatDoor
open Go.RowKit Go.Shelf
attribute [local go_sem ↓] loadVar_clus storeVar_clus zeroValue_clus loadVar_cnt storeVar_cnt zeroValue_cnt loadVar_head storeVar_head zeroValue_head build_head
attribute [local go_sem] run_loadClus run_storeClus run_zeroClus run_storeClus_new run_loadClus_new zc_length run_loadCnt run_storeCnt run_zeroCnt run_storeCnt_new run_loadCnt_new zk_length run_loadHead run_storeHead run_zeroHead run_storeHead_new run_bHead HasAt_drew cellsAt_drew
attribute [local go_sem ↓] loadVar_use storeVar_use zeroValue_use
attribute [local go_sem] run_loadUse run_storeUse run_storeUse_new run_zeroUse zI_length
attribute [local go_sem] field_head1 field_head0 Oper.semAt_some
theorem state_len (s : StateR) : (stateCells s).length = 5 := rfl
theorem state_one (s : StateR) : ∀ v ∈ stateCells s, v.oneCell' = true := by
  intro v hv
  simp only [stateCells, List.mem_cons, List.not_mem_nil, or_false] at hv
  rcases hv with rfl | rfl | rfl | rfl | rfl <;> rfl
def loadSt (a : Addr) : Sem Value := loadVar 51 a
theorem loadVar_st (a : Addr) : loadVar 51 a = loadSt a := rfl
theorem run_loadSt {w : World} {b o : Nat} (h : HasAt w b o 5) : (loadSt ⟨b, o, none⟩).run Tryz.prog w = .ok (.agg (cellsAt w b o 5).toArray) w :=
  run_loadVar_has h 51 _ Tryz.underlying51 rfl (by kernel_rfl)
def storeSt (a : Addr) (v : Value) : Sem Unit := storeVar 51 a v
theorem storeVar_st (a : Addr) (v : Value) : storeVar 51 a v = storeSt a v := rfl
theorem run_storeSt {w : World} {b o : Nat} (s : StateR) (ht : w.there b o 5) : (storeSt ⟨b, o, none⟩ (.agg #[.int .i64 s.clusters, .int .i64 s.used, .int .i64 s.lost, .int .i64 s.over, .int .i64 s.unmarked])).run Tryz.prog w = .ok () (w.setCells b o (stateCells s)) := by
  have := run_storeVar_mid (P := Tryz.prog) w b o 51 (stateCells s).toArray (by simpa [state_len] using ht) (by simp only [List.size_toArray, state_len]; kernel_rfl) (all_oneCell_toArray (state_one s))
  exact this
theorem run_storeSt_new {w : World} {z : List Value} (s : StateR) (hz : z.length = 5) :
    (storeSt ⟨w.heap.size, 0, none⟩ (.agg #[.int .i64 s.clusters, .int .i64 s.used, .int .i64 s.lost, .int .i64 s.over, .int .i64 s.unmarked])).run Tryz.prog (w.alloc (.cells z.toArray 51)) = .ok () (w.alloc (.cells (stateCells s).toArray 51)) :=
  run_storeVar_new w 51 z.toArray (stateCells s).toArray (by simp only [List.size_toArray, state_len]; kernel_rfl) (by simp [state_len, hz]) (all_oneCell_toArray (state_one s))

def usedM (M : List Nat) (n : Nat) : Bool := decide (0 < M.getD n 0)
def lostM (M : List Nat) (k : List UInt8) (n : Nat) : Bool := M.getD n 0 == 0 && decide (0 < byteAt k n)
def overM (M : List Nat) (k : List UInt8) (n : Nat) : Bool := decide (0 < M.getD n 0) && decide (M.getD n 0 < byteAt k n)
def checkR (V : VolR) : StateR :=
  ⟨num (cl V.C 0) 4, cntTo (usedM (usesOf V)) 256, cntTo (lostM (usesOf V) (cntsOf V.C)) 256, cntTo (overM (usesOf V) (cntsOf V.C)) 256, lackAll V (usesOf V) (firstsOf V)⟩

def UseT (bu : Nat) (M : List Nat) (w' : World) : Prop := HasAt w' bu 0 256 ∧ cellsAt w' bu 0 256 = nv M
/-- Where Check stands: the answer's box, the uses, the state so far. -/
structure ChkAt (w W : World) (bu bs : Nat) (M : List Nat) (s : List Value) : Prop where
  below : Below w.heap.size w W
  bz : W.heap[w.heap.size]? = some (.cells zs5.toArray 51 (0, 0))
  bu' : W.heap[bu]? = some (.cells (nv M).toArray 161 (0, 0))
  bs' : W.heap[bs]? = some (.cells s.toArray 51 (0, 0))
  lo : w.heap.size < bs
theorem ChkAt.ne {w W : World} {bu bs : Nat} {M : List Nat} {s : List Value} (h : ChkAt w W bu bs M s) : bu ≠ bs := fun e => by
  have h1 := h.bu'
  rw [e] at h1
  rw [h.bs'] at h1
  injection h1 with h1
  injection h1 with _ h2
  exact absurd h2 (by decide)
theorem ChkAt.later {w W W' : World} {bu bs : Nat} {M : List Nat} {s : List Value} (h : ChkAt w W bu bs M s) (hb : Below W.heap.size W W') : ChkAt w W' bu bs M s :=
  ⟨h.below.trans (hb.mono h.below.size), (hb.block _ (blk_lt h.bz)).trans h.bz, (hb.block _ (blk_lt h.bu')).trans h.bu', (hb.block _ (blk_lt h.bs')).trans h.bs', h.lo⟩
theorem ChkAt.set {w W : World} {bu bs : Nat} {M : List Nat} {s : List Value} (h : ChkAt w W bu bs M s) (i : Nat) (v : Value) : ChkAt w (W.setCell ⟨bs, i, none⟩ v) bu bs M (s.set i v) := by
  have hk := Kept.only W bs i v
  have := h.lo
  have := h.ne
  refine ⟨?_, hk.blk (by omega) h.bz, hk.blk (by omega) h.bu', ?_, h.lo⟩
  · exact ⟨hk.os.trans h.below.os, hk.tape.trans h.below.tape, hk.output.trans h.below.output, Nat.le_trans h.below.size hk.size, fun i hi => by
      rw [hk.block i (Nat.lt_of_lt_of_le hi h.below.size) (by omega)]; exact h.below.block i hi⟩
  · rw [heap_setCell_same _ _ _ _ _ _ _ h.bs', List.setIfInBounds_toArray]
theorem ChkAt.all {w W : World} {bu bs : Nat} {M : List Nat} {s t : List Value} (h : ChkAt w W bu bs M s) (hl : s.length = t.length) : ChkAt w (W.setCells bs 0 t) bu bs M t := by
  have hk := Kept.onlys W bs 0 t
  have := h.lo
  have := h.ne
  refine ⟨?_, hk.blk (by omega) h.bz, hk.blk (by omega) h.bu', all_store h.bs' hl, h.lo⟩
  exact ⟨hk.os.trans h.below.os, hk.tape.trans h.below.tape, hk.output.trans h.below.output, Nat.le_trans h.below.size hk.size, fun i hi => by
      rw [hk.block i (Nat.lt_of_lt_of_le hi h.below.size) (by omega)]; exact h.below.block i hi⟩

attribute [local go_sem ↓] loadVar_st storeVar_st
attribute [local go_sem] run_loadSt
set_option linter.unusedSimpArgs false in
set_option maxHeartbeats 4000000 in
set_option maxRecDepth 100000 in
theorem volCheck_any (w : World) (v : Nat) (Cv Lv : Value) (V : VolR) (h : VolAt w v Cv Lv V) (h5 : 5 < V.C.length) (hC : V.C.length ≤ 256) (hF : ∀ f ∈ firstsOf V, FirstOK V f) :
    Calls Tryz.prog 52 #[.pointer (some ⟨v, 0, none⟩)] w fun e w' => e = .returned (.agg (stateCells (checkR V)).toArray) ∧ Below w.heap.size w w' := by
  have Hu := hide (fun (W : World) (hB : Below w.heap.size w W) => callsIn_wide.1 (uses_in W v Cv Lv V (h.below hB) h5 hC hF))
  have hml : (usesOf V).length = 256 := useAll_length V _
  have hmm := useAll_most (V := V) (firstsOf V) hF
  have hfl : (firstsOf V).length ≤ 5 := by
    unfold firstsOf picFirsts
    have := lenOf_le (entsOf (cl V.C 5))
    simp only [List.length_cons, List.length_map, List.length_take]
    omega
  have hll := lackAll_le (V := V) (usesOf V) (firstsOf V) hF
  have Hl := hide (fun (W : World) (hB : Below w.heap.size w W) => callsIn_wide.1 (unmarked_in W v Cv Lv V (h.below hB) h5 hC hF (usesOf V) hml))
  have Hh := hide (fun (W : World) (hB : Below w.heap.size w W) => head_vol W v Cv Lv V (h.below hB) (by omega))
  have Hc := hide (fun (W : World) (hB : Below w.heap.size w W) => counts_vol W v Cv Lv V (h.below hB) (by omega))
  have hcl := cntsOf_length V.C h.lenC (by omega)
  have HR : Hid (checkR V = ⟨num (cl V.C 0) 4, cntTo (usedM (usesOf V)) 256, cntTo (lostM (usesOf V) (cntsOf V.C)) 256, cntTo (overM (usesOf V) (cntsOf V.C)) 256, lackAll V (usesOf V) (firstsOf V)⟩) := rfl
  have hMm : ∀ n, (usesOf V).getD n 0 ≤ 10000 := fun n => by have := hmm n; unfold usesOf; omega
  have n4 := num_lt (cl V.C 0) 4
  have n6 := num_lt (cl V.C 0) 6
  generalize lackAll V (usesOf V) (firstsOf V) = q at *
  generalize usesOf V = M at *
  generalize cntsOf V.C = k at *
  generalize num (cl V.C 0) 4 = cls at *
  generalize num (cl V.C 0) 6 = fst at *
  clear h hF hmm
  go_enter Tryz.func52, Tryz.ntmps52
  go_wp2_with fail
  have B0 := hide ((Below.refl w.heap.size w).alloc (Nat.le_refl _) (.cells #[.int .i64 0, .int .i64 0, .int .i64 0, .int .i64 0, .int .i64 0] 51))
  have X0 := hide (heap_alloc_new w (.cells #[.int .i64 0, .int .i64 0, .int .i64 0, .int .i64 0, .int .i64 0] 51))
  generalize w.alloc (.cells #[.int .i64 0, .int .i64 0, .int .i64 0, .int .i64 0, .int .i64 0] 51) = w0 at *
  refine (unhide Hu w0 (unhide B0)).mono ?_
  rintro e w1 ⟨rfl, b1⟩
  have hs1 : w.heap.size < w1.heap.size := Nat.lt_of_lt_of_le (blk_lt (unhide X0)) b1.size
  have B1 := hide (((unhide B0).trans (b1.mono (unhide B0).size)).alloc (Nat.le_of_lt hs1) (.cells (nv M).toArray 161))
  have X1 := hide ((Below.heap_alloc w1 (.cells (nv M).toArray 161) w.heap.size hs1).trans ((b1.block _ (blk_lt (unhide X0))).trans (unhide X0)))
  have Y1 := hide (heap_alloc_new w1 (.cells (nv M).toArray 161))
  clear Hu B0 X0 b1
  have st1 : ∀ {w : World} {b : Nat}, w.there b 0 5 → (storeSt ⟨b, 0, none⟩ (.agg #[.int .i64 (cls : Nat), .int .i64 0, .int .i64 0, .int .i64 0, .int .i64 (q : Nat)])).run Tryz.prog w = .ok () (w.setCells b 0 (stateCells ⟨cls, 0, 0, 0, q⟩)) := fun ht => run_storeSt ⟨cls, 0, 0, 0, q⟩ ht
  have st2 : ∀ {w : World}, (storeSt ⟨w.heap.size, 0, none⟩ (.agg #[.int .i64 (cls : Nat), .int .i64 0, .int .i64 0, .int .i64 0, .int .i64 (q : Nat)])).run Tryz.prog (w.alloc (.cells #[.int .i64 0, .int .i64 0, .int .i64 0, .int .i64 0, .int .i64 0] 51)) = .ok () (w.alloc (.cells (stateCells ⟨cls, 0, 0, 0, q⟩).toArray 51)) := fun {w} => run_storeSt_new (w := w) (z := zs5) ⟨cls, 0, 0, 0, q⟩ rfl
  have hsz1 : Hid ((w1.alloc (.cells (nv M).toArray 161)).heap.size = w1.heap.size + 1) := World.size_alloc _ _
  go_wp2_with fail
  generalize w1.alloc (.cells (nv M).toArray 161) = wa at *
  generalize w1.heap.size = bu at *
  have HT := hide (fun (W : World) (hB : Below wa.heap.size wa W) => (show UseT bu M W from ⟨blk_has ((hB.block _ (blk_lt (unhide Y1))).trans (unhide Y1)) (by rw [nv_length, hml]), blk_cells ((hB.block _ (blk_lt (unhide Y1))).trans (unhide Y1)) (by rw [nv_length, hml])⟩))
  have hTa := unhide HT _ (Below.refl _ wa).drew
  have hsa : w.heap.size < wa.heap.size := blk_lt (unhide X1)
  go_cut [4] from 9 (fun s4 wc => ∃ bs, s4 = .pointer (some ⟨bs, 0, none⟩) ∧ ChkAt w wc bu bs M (stateCells ⟨cls, 0, 0, 0, q⟩))
  case first =>
    refine wp_region_L (UseT bu M) 8 (by kernel_rfl) ?_
    refine wpAnyL_take (i := 0) (v := ?_) rfl (by kernel_rfl) (by kernel_rfl) (by kernel_rfl) (by kernel_rfl) (fun _ _ _ h => h) (Or.inl ⟨by rfl, fun W hW => ?_⟩) hTa ?_
    rotate_left 1
    · (obtain ⟨t0, t1⟩ := hW; go_simp; with_reducible rfl)
    simp only [Act.put, List.setIfInBounds_toArray, List.set_cons_zero, List.set_cons_succ]
    refine wpAnyL_take (i := 3) (v := ?_) rfl (by kernel_rfl) (by kernel_rfl) (by kernel_rfl) (by kernel_rfl) (fun _ _ _ h => h) (Or.inl ⟨by rfl, fun W hW => ?_⟩) hTa ?_
    rotate_left 1
    · (obtain ⟨t0, t1⟩ := hW; go_simp; with_reducible rfl)
    simp only [Act.put, List.setIfInBounds_toArray, List.set_cons_zero, List.set_cons_succ]
    refine wpAnyL_take (i := 4) (v := ?_) rfl (by kernel_rfl) (by kernel_rfl) (by kernel_rfl) (by kernel_rfl) (fun _ _ _ h => h) (Or.inl ⟨by rfl, fun W hW => ?_⟩) hTa ?_
    rotate_left 1
    · (obtain ⟨t0, t1⟩ := hW; go_simp; with_reducible rfl)
    simp only [Act.put, List.setIfInBounds_toArray, List.set_cons_zero, List.set_cons_succ]
    have BB := hide (Below.refl wa.heap.size wa).drew
    have B1 := hide (unhide B1).drew
    refine wpAnyL_two (i := 1) (j := 7) (by kernel_rfl) rfl rfl (fun KA hKA => ?_) (fun KB hKB => ?_)
    · go_simp
      go_at_call 87
      refine (unhide Hh _ (unhide B1)).mono ?_
      rintro e w2 ⟨rfl, b2⟩
      have B2 := hide ((unhide B1).trans (b2.mono (unhide B1).size))
      have C2 := hide ((unhide BB).trans (b2.mono (unhide BB).size))
      have hT2 := unhide HT _ (unhide C2)
      clear b2
      refine hKA _ _ (Or.inr hT2) ?_
      try simp only [Act.put, List.setIfInBounds_toArray, List.set_cons_zero, List.set_cons_succ]
      refine wpAnyL_take (i := 2) (v := ?_) rfl (by kernel_rfl) (by kernel_rfl) (by kernel_rfl) (by kernel_rfl) (fun _ _ _ h => h) (Or.inl ⟨by rfl, fun W hW => ?_⟩) hT2 ?_
      rotate_left 1
      · (obtain ⟨t0, t1⟩ := hW; go_simp; with_reducible rfl)
      simp only [Act.put, List.setIfInBounds_toArray, List.set_cons_zero, List.set_cons_succ]
      refine wpAnyL_two (i := 5) (j := 7) (by kernel_rfl) rfl rfl (fun KC hKC => ?_) (fun KD hKD => ?_)
      · go_simp
        go_at_call 100
        refine (unhide Hl _ (unhide B2)).mono ?_
        rintro e w3 ⟨rfl, b3⟩
        have B3 := hide ((unhide B2).trans (b3.mono (unhide B2).size))
        have C3 := hide ((unhide C2).trans (b3.mono (unhide C2).size))
        have hT3 := unhide HT _ (unhide C3)
        have hT4 := fun x => unhide HT _ ((unhide C3).alloc (unhide C3).size x)
        clear b3
        refine hKC _ _ (Or.inr hT3) ?_
        try simp only [Act.put, List.setIfInBounds_toArray, List.set_cons_zero, List.set_cons_succ]
        refine wpAnyL_take (i := 6) (v := ?_) rfl (by kernel_rfl) (by kernel_rfl) (by kernel_rfl) (by kernel_rfl) (fun _ _ _ h => h) (Or.inl ⟨by rfl, fun W hW => ?_⟩) hT3 ?_
        rotate_left 1
        · (obtain ⟨t0, t1⟩ := hW; go_simp; with_reducible rfl)
        simp only [Act.put, List.setIfInBounds_toArray, List.set_cons_zero, List.set_cons_succ]
        refine wpAnyL_one (i := 7) (by kernel_rfl) rfl fun K7 hK7 => ?_
        go_simp
        refine hK7 _ _ (Or.inr (hT4 _)) ?_
        try simp only [Act.put, List.setIfInBounds_toArray, List.set_cons_zero, List.set_cons_succ]
        refine wpAnyL_one (i := 8) (by kernel_rfl) rfl fun K8 hK8 => ?_
        go_simp
        refine hK8 _ _ (Or.inl rfl) ?_
        try simp only [Act.put, List.setIfInBounds_toArray, List.set_cons_zero, List.set_cons_succ]
        refine wpAnyL_done (by kernel_rfl) ?_ _
        have hs3 : w.heap.size < w3.heap.size := Nat.lt_of_lt_of_le hsa (unhide C3).size
        have CC : ChkAt w (w3.alloc (.cells (stateCells ⟨cls, 0, 0, 0, q⟩).toArray 51)) bu w3.heap.size M (stateCells ⟨cls, 0, 0, 0, q⟩) :=
          ⟨(unhide B3).alloc (unhide B3).size _, (Below.heap_alloc _ _ _ hs3).trans (((unhide C3).block _ hsa).trans (unhide X1)), (Below.heap_alloc _ _ _ (Nat.lt_of_lt_of_le (blk_lt (unhide Y1)) (unhide C3).size)).trans (((unhide C3).block _ (blk_lt (unhide Y1))).trans (unhide Y1)), heap_alloc_new _ _, hs3⟩
        go_wp2
        go_meet
        exact ⟨_, rfl, CC⟩
      · go_simp
        have B3 := hide ((unhide B2).alloc (unhide B2).size (.cells #[.int .i64 0, .int .i64 0, .int .i64 0, .int .i64 0, .int .i64 0] 51))
        have C3 := hide ((unhide C2).alloc (unhide C2).size (.cells #[.int .i64 0, .int .i64 0, .int .i64 0, .int .i64 0, .int .i64 0] 51))
        have Z3 := hide (heap_alloc_new w2 (.cells #[.int .i64 0, .int .i64 0, .int .i64 0, .int .i64 0, .int .i64 0] 51))
        have hT3 := unhide HT _ (unhide C3)
        have hs2 : w.heap.size < w2.heap.size := Nat.lt_of_lt_of_le hsa (unhide C2).size
        refine hKD _ _ (Or.inr hT3) ?_
        try simp only [Act.put, List.setIfInBounds_toArray, List.set_cons_zero, List.set_cons_succ]
        refine wpAnyL_one (i := 5) (by kernel_rfl) rfl fun K5 hK5 => ?_
        go_simp
        go_at_call 100
        refine (unhide Hl _ (unhide B3)).mono ?_
        rintro e w4 ⟨rfl, b4⟩
        have B4 := hide ((unhide B3).trans (b4.mono (unhide B3).size))
        have C4 := hide ((unhide C3).trans (b4.mono (unhide C3).size))
        have Z4 := hide ((b4.block _ (blk_lt (unhide Z3))).trans (unhide Z3))
        have hT4 := unhide HT _ (unhide C4)
        have C0 : ChkAt w w4 bu w2.heap.size M zs5 := ⟨unhide B4, ((unhide C4).block _ hsa).trans (unhide X1), ((unhide C4).block _ (blk_lt (unhide Y1))).trans (unhide Y1), unhide Z4, hs2⟩
        have CC := hide (C0.all (t := stateCells ⟨cls, 0, 0, 0, q⟩) rfl)
        have th := there_blk (unhide Z4) 0 5 (by simp)
        clear b4 C0
        refine hK5 _ _ (Or.inr hT4) ?_
        try simp only [Act.put, List.setIfInBounds_toArray, List.set_cons_zero, List.set_cons_succ]
        refine wpAnyL_take (i := 6) (v := ?_) rfl (by kernel_rfl) (by kernel_rfl) (by kernel_rfl) (by kernel_rfl) (fun _ _ _ h => h) (Or.inl ⟨by rfl, fun W hW => ?_⟩) hT4 ?_
        rotate_left 1
        · (obtain ⟨t0, t1⟩ := hW; go_simp; with_reducible rfl)
        simp only [Act.put, List.setIfInBounds_toArray, List.set_cons_zero, List.set_cons_succ]
        refine wpAnyL_one (i := 8) (by kernel_rfl) rfl fun K8 hK8 => ?_
        go_simp
        refine hK8 _ _ (Or.inl rfl) ?_
        try simp only [Act.put, List.setIfInBounds_toArray, List.set_cons_zero, List.set_cons_succ]
        refine wpAnyL_done (by kernel_rfl) ?_ _
        go_wp2
        go_meet
        exact ⟨_, rfl, unhide CC⟩
    · go_simp
      have B2 := hide ((unhide B1).alloc (unhide B1).size (.cells #[.int .i64 0, .int .i64 0, .int .i64 0, .int .i64 0, .int .i64 0] 51))
      have C2 := hide ((unhide BB).alloc (unhide BB).size (.cells #[.int .i64 0, .int .i64 0, .int .i64 0, .int .i64 0, .int .i64 0] 51))
      have Z2 := hide (heap_alloc_new wa.drew (.cells #[.int .i64 0, .int .i64 0, .int .i64 0, .int .i64 0, .int .i64 0] 51))
      have hT2 := unhide HT _ (unhide C2)
      have hT2' := unhide HT _ ((Below.refl wa.heap.size wa).alloc (Nat.le_refl _) (.cells #[.int .i64 0, .int .i64 0, .int .i64 0, .int .i64 0, .int .i64 0] 51)).drew
      refine hKB _ _ (Or.inr (unhide HT _ (unhide C2))) ?_
      try simp only [Act.put, List.setIfInBounds_toArray, List.set_cons_zero, List.set_cons_succ]
      refine wpAnyL_one (i := 1) (by kernel_rfl) rfl fun K1 hK1 => ?_
      go_simp
      go_at_call 87
      refine (unhide Hh _ (unhide B2)).mono ?_
      rintro e w3 ⟨rfl, b3⟩
      have B3 := hide ((unhide B2).trans (b3.mono (unhide B2).size))
      have C3 := hide ((unhide C2).trans (b3.mono (unhide C2).size))
      have Z3 := hide ((b3.block _ (blk_lt (unhide Z2))).trans (unhide Z2))
      have hT3 := unhide HT _ (unhide C3)
      clear b3
      refine hK1 _ _ (Or.inr hT3) ?_
      try simp only [Act.put, List.setIfInBounds_toArray, List.set_cons_zero, List.set_cons_succ]
      refine wpAnyL_take (i := 2) (v := ?_) rfl (by kernel_rfl) (by kernel_rfl) (by kernel_rfl) (by kernel_rfl) (fun _ _ _ h => h) (Or.inl ⟨by rfl, fun W hW => ?_⟩) hT3 ?_
      rotate_left 1
      · (obtain ⟨t0, t1⟩ := hW; go_simp; with_reducible rfl)
      simp only [Act.put, List.setIfInBounds_toArray, List.set_cons_zero, List.set_cons_succ]
      refine wpAnyL_one (i := 5) (by kernel_rfl) rfl fun K5 hK5 => ?_
      go_simp
      go_at_call 100
      refine (unhide Hl _ (unhide B3)).mono ?_
      rintro e w4 ⟨rfl, b4⟩
      have B4 := hide ((unhide B3).trans (b4.mono (unhide B3).size))
      have C4 := hide ((unhide C3).trans (b4.mono (unhide C3).size))
      have Z4 := hide ((b4.block _ (blk_lt (unhide Z3))).trans (unhide Z3))
      have hT4 := unhide HT _ (unhide C4)
      have C0 : ChkAt w w4 bu wa.heap.size M zs5 := ⟨unhide B4, ((unhide C4).block _ hsa).trans (unhide X1), ((unhide C4).block _ (blk_lt (unhide Y1))).trans (unhide Y1), unhide Z4, hsa⟩
      have CC := hide (C0.all (t := stateCells ⟨cls, 0, 0, 0, q⟩) rfl)
      have th : w4.there wa.heap.size 0 5 := there_blk (unhide Z4) 0 5 (by simp)
      clear b4 C0
      refine hK5 _ _ (Or.inr hT4) ?_
      try simp only [Act.put, List.setIfInBounds_toArray, List.set_cons_zero, List.set_cons_succ]
      refine wpAnyL_take (i := 6) (v := ?_) rfl (by kernel_rfl) (by kernel_rfl) (by kernel_rfl) (by kernel_rfl) (fun _ _ _ h => h) (Or.inl ⟨by rfl, fun W hW => ?_⟩) hT4 ?_
      rotate_left 1
      · (obtain ⟨t0, t1⟩ := hW; go_simp; with_reducible rfl)
      simp only [Act.put, List.setIfInBounds_toArray, List.set_cons_zero, List.set_cons_succ]
      refine wpAnyL_one (i := 8) (by kernel_rfl) rfl fun K8 hK8 => ?_
      go_simp
      refine hK8 _ _ (Or.inl rfl) ?_
      try simp only [Act.put, List.setIfInBounds_toArray, List.set_cons_zero, List.set_cons_succ]
      refine wpAnyL_done (by kernel_rfl) ?_ _
      go_wp2
      go_meet
      exact ⟨_, rfl, unhide CC⟩
  case rest =>
    obtain ⟨bs, rfl, hcc⟩ := hcut
    have C1 := hide hcc
    have Hc' := hide (unhide Hc _ hcc.below)
    clear hcc Hl Hh HT hTa st1 st2 B1 X1 Y1 hsz1
    go_wp2_with fail
    refine (unhide Hc').mono ?_
    rintro e wd ⟨rfl, b5⟩
    have C5 := hide ((unhide C1).later b5)
    clear b5 C1 Hc' Hc
    go_wp2
    go_loopw [18] (fun i w' => ∃ j : Nat, j ≤ 256 ∧ i = .int .i64 j ∧ ChkAt w w' bu bs M (stateCells ⟨cls, cntTo (usedM M) j, cntTo (lostM M k) j, cntTo (overM M k) j, q⟩)) (fun i _ => 256 - (intOf i).toNat)
    case atStart => exact ⟨0, by omega, rfl, unhide C5⟩
    case round =>
      obtain ⟨j, hj, rfl, hC1⟩ := hrel
      clear C5
      by_cases hlt : j < 256
      · have hji : (j : Int) < 256 := by omega
        have hix := run_index_cnt wr k hcl j hlt
        have hbl := byteAt_lt k j
        have hU : cntTo (usedM M) (j + 1) = cntTo (usedM M) j + if 0 < M.getD j 0 then 1 else 0 := by simp [cntTo, usedM]
        have hLo : cntTo (lostM M k) (j + 1) = cntTo (lostM M k) j + if M.getD j 0 = 0 ∧ 0 < byteAt k j then 1 else 0 := by simp [cntTo, lostM]
        have hO : cntTo (overM M k) (j + 1) = cntTo (overM M k) j + if 0 < M.getD j 0 ∧ M.getD j 0 < byteAt k j then 1 else 0 := by simp [cntTo, overM]
        have l1 := cntTo_le (usedM M) j
        have l2 := cntTo_le (lostM M k) j
        have l3 := cntTo_le (overM M k) j
        have hm := hMm j
        have cu : wr.cell? ⟨bu, j, none⟩ = some (.int .i64 ((M.getD j 0 : Nat) : Int)) := by rw [cell_blk hC1.bu', List.getElem?_toArray, nv_get _ _ (by omega)]
        have s1 : wr.cell? ⟨bs, 1, none⟩ = some (.int .i64 (cntTo (usedM M) j : Nat)) := by rw [cell_blk hC1.bs']; rfl
        have s2 : wr.cell? ⟨bs, 2, none⟩ = some (.int .i64 (cntTo (lostM M k) j : Nat)) := by rw [cell_blk hC1.bs']; rfl
        have s3 : wr.cell? ⟨bs, 3, none⟩ = some (.int .i64 (cntTo (overM M k) j : Nat)) := by rw [cell_blk hC1.bs']; rfl
        have hfz : ∀ i, wr.frozen? ⟨bs, i, none⟩ = false := fun i => frozen_blk hC1.bs' i
        have hne := hC1.ne
        generalize byteAt k j = b at *
        generalize M.getD j 0 = u at *
        generalize cntTo (usedM M) j = u0 at *
        generalize cntTo (lostM M k) j = l0 at *
        generalize cntTo (overM M k) j = o0 at *
        have HU := hide hU
        have HL := hide hLo
        have HO := hide hO
        have HC := hide hC1
        clear hU hLo hO hC1
        by_cases hu0 : u = 0
        · subst hu0
          by_cases hq0 : 0 < b
          · have dq : decide ((0 : Int) < (b : Int)) = true := by simp; omega
            have dz : (((0 : Nat) : Int) == 0) = true := rfl
            have du : decide ((0 : Int) < ((0 : Nat) : Int)) = false := rfl
            go_wp2
            go_roundw
            case rel =>
              refine ⟨j + 1, by omega, by go_num, ?_⟩
              have eU : cntTo (usedM M) (j + 1) = u0 := by have e := unhide HU; split at e <;> omega
              have eL : cntTo (lostM M k) (j + 1) = l0 + 1 := by have e := unhide HL; split at e <;> omega
              have eO : cntTo (overM M k) (j + 1) = o0 := by have e := unhide HO; split at e <;> omega
              rw [eU, eL, eO]
              exact (unhide HC).set 2 (.int .i64 ((l0 : Int) + 1))
            case measure => simp [intOf]; omega
          · have hb0 : b = 0 := by omega
            subst hb0
            have dq : decide ((0 : Int) < ((0 : Nat) : Int)) = false := rfl
            have dz : (((0 : Nat) : Int) == 0) = true := rfl
            go_wp2
            go_roundw
            case rel =>
              refine ⟨j + 1, by omega, by go_num, ?_⟩
              have eU : cntTo (usedM M) (j + 1) = u0 := by have e := unhide HU; split at e <;> omega
              have eL : cntTo (lostM M k) (j + 1) = l0 := by have e := unhide HL; split at e <;> omega
              have eO : cntTo (overM M k) (j + 1) = o0 := by have e := unhide HO; split at e <;> omega
              rw [eU, eL, eO]
              exact unhide HC
            case measure => simp [intOf]; omega
        · have d1 : ((u : Int) == 0) = false := by rw [beq_eq_false_iff_ne]; omega
          have d2 : decide ((0 : Int) < (u : Int)) = true := by simp; omega
          by_cases hqu : u < b
          · have dq : decide ((u : Int) < (b : Int)) = true := by simp; omega
            go_wp2
            go_roundw
            case rel =>
              refine ⟨j + 1, by omega, by go_num, ?_⟩
              have eU : cntTo (usedM M) (j + 1) = u0 + 1 := by have e := unhide HU; split at e <;> omega
              have eL : cntTo (lostM M k) (j + 1) = l0 := by have e := unhide HL; split at e <;> omega
              have eO : cntTo (overM M k) (j + 1) = o0 + 1 := by have e := unhide HO; split at e <;> omega
              rw [eU, eL, eO]
              exact ((unhide HC).set 3 (.int .i64 ((o0 : Int) + 1))).set 1 (.int .i64 ((u0 : Int) + 1))
            case measure => simp [intOf]; omega
          · have dq : decide ((u : Int) < (b : Int)) = false := by simp; omega
            go_wp2
            go_roundw
            case rel =>
              refine ⟨j + 1, by omega, by go_num, ?_⟩
              have eU : cntTo (usedM M) (j + 1) = u0 + 1 := by have e := unhide HU; split at e <;> omega
              have eL : cntTo (lostM M k) (j + 1) = l0 := by have e := unhide HL; split at e <;> omega
              have eO : cntTo (overM M k) (j + 1) = o0 := by have e := unhide HO; split at e <;> omega
              rw [eU, eL, eO]
              exact (unhide HC).set 1 (.int .i64 ((u0 : Int) + 1))
            case measure => simp [intOf]; omega
      · have hj2 : j = 256 := by omega
        rw [hj2] at hC1
        have l1 := blk_has hC1.bs' (n := 5) (by rw [state_len])
        have l2 := blk_cells hC1.bs' (n := 5) (by rw [state_len])
        have th : wr.there w.heap.size 0 5 := there_blk hC1.bz 0 5 (by simp [zs5])
        have st1 : ∀ {w : World} {b : Nat} (s : StateR), w.there b 0 5 → (storeSt ⟨b, 0, none⟩ (.agg (stateCells s).toArray)).run Tryz.prog w = .ok () (w.setCells b 0 (stateCells s)) := fun s ht => run_storeSt s ht
        have B9 := hide (below_setCells hC1.below (Nat.le_refl _) 0 (stateCells ⟨cls, cntTo (usedM M) 256, cntTo (lostM M k) 256, cntTo (overM M k) 256, q⟩))
        have X9 := all_store hC1.bz (vs := stateCells ⟨cls, cntTo (usedM M) 256, cntTo (lostM M k) 256, cntTo (overM M k) 256, q⟩) rfl
        have n3 := hide (blk_has X9 (n := 5) (by rw [state_len]))
        have n4' := hide (blk_cells X9 (n := 5) (by rw [state_len]))
        have hji : ¬ (j : Int) < 256 := by omega
        clear hC1 X9
        generalize (⟨cls, cntTo (usedM M) 256, cntTo (lostM M k) 256, cntTo (overM M k) 256, q⟩ : StateR) = st at *
        go_wp2
        refine bodyPost_ret (results_cell rfl ⟨w.heap.size, 0, none⟩ rfl (v := .agg (stateCells st).toArray) (by rw [loadVar_st, run_loadSt (unhide n3), unhide n4'])) rfl ?_
        refine ⟨?_, unhide B9⟩
        rw [unhide HR]
end Go.Proofs.YtknjjjenklfeoaaGreatDoor

/-
  Plain: how many clusters are used, and what Check says of a file that is exact.
-/
namespace Go.Proofs.YtknjjjenklfeoaaGreatDoor
section
variable {base : List Clus} {V : VolR} {N0 : Nat} {E : List EntR}
theorem bumps_get : ∀ (us M : List Nat) (n : Nat), n < M.length → (bumps M us).getD n 0 = M.getD n 0 + us.count n
  | [], M, n, _ => by simp [bumps]
  | u :: r, M, n, hn => by
    have ih := bumps_get r (bump M u) n (by rw [bump_length]; exact hn)
    show (bumps (bump M u) r).getD n 0 = _
    rw [ih, List.count_cons]
    unfold bump
    rw [List.getD_eq_getElem?_getD, List.getElem?_set, List.getD_eq_getElem?_getD]
    by_cases e : u = n
    · subst e
      rw [if_pos rfl, if_pos hn]
      simp [List.getD_eq_getElem?_getD]
      omega
    · rw [if_neg e]
      simp [e]
theorem onesTo6 (n : Nat) : (onesTo 6).getD n 0 = base6 n := by
  rw [base6_eq]
  unfold onesTo
  rw [List.getD_eq_getElem?_getD]
  by_cases h : n < 6
  · rw [List.getElem?_append_left (by simpa using h), List.getElem?_replicate, if_pos h, if_pos h]; rfl
  · rw [List.getElem?_append_right (by simpa using h), List.getElem?_replicate, if_neg h]
    split <;> rfl
theorem Vol.heldSum (h : Vol base V N0 E) (n : Nat) : ((firstsOf V).flatMap (heldAll V.C)).count n = useOf V.C (rsOf N0 E) n := by
  rw [h.firsts]
  have key : ∀ rs : List RootR, (∀ r ∈ rs, r ∈ rsOf N0 E) → ((rs.map (·.N)).flatMap (heldAll V.C)).count n = useOf V.C rs n := by
    intro rs
    induction rs with
    | nil => intro _; rfl
    | cons r t ih =>
      intro hr
      have h1 := ih (fun x hx => hr x (List.mem_cons_of_mem _ hx))
      have h2 := count_held (h.sound.zero r (hr r (List.mem_cons_self ..))) n
      rw [List.map_cons, List.flatMap_cons, List.count_append, h1, h2]
      simp [useOf]
  exact key _ (fun _ hr => hr)
theorem Vol.uses (h : Vol base V N0 E) (n : Nat) (hn : n < 256) : (usesOf V).getD n 0 = base6 n + useOf V.C (rsOf N0 E) n := by
  unfold usesOf useAll
  rw [bumps_get _ _ _ (by rw [onesTo_length 6 (by omega)]; exact hn), onesTo6 n, h.heldSum]
theorem cntTo_cong {p q : Nat → Bool} (k : Nat) (h : ∀ n, n < k → p n = q n) : cntTo p k = cntTo q k := by
  induction k with
  | zero => rfl
  | succ k ih => rw [cntTo, cntTo, ih (fun n hn => h n (by omega)), h k (by omega)]
/-- Used: what is told, and the head, the counts, the list. -/
def useB (V : VolR) (N0 : Nat) (E : List EntR) (n : Nat) : Bool := decide (0 < base6 n + useOf V.C (rsOf N0 E) n)
theorem Vol.used (h : Vol base V N0 E) : cntTo (usedM (usesOf V)) 256 = cntTo (useB V N0 E) 256 := cntTo_cong 256 fun n hn => by unfold usedM useB; rw [h.uses n hn]
end
end Go.Proofs.YtknjjjenklfeoaaGreatDoor
