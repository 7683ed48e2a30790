import Derived.Test.YtknjjjenklfeoaaP26
import Derived.Test.YtknjjjenklfeoaaP21
import Derived.Test.YtknjjjenklfeoaaP08
import Derived.Test.YtknjjjenklfeoaaP25
/-
  The program's list as a cluster.
-/
namespace Go.Proofs.Ytknjjjenklfeoaa
open Go.RowKit

attribute [local go_sem ↓] loadVar_clus storeVar_clus zeroValue_clus loadVar_tab storeVar_tab zeroValue_tab loadVar_cnt storeVar_cnt zeroValue_cnt loadVar_head storeVar_head zeroValue_head build_head buildSlice_clus loadVar_wr storeVar_wr zeroValue_wr build_wr buildSlice_wr equalIn_clus loadVar_place storeVar_place zeroValue_place build_place loadVar_lst storeVar_lst zeroValue_lst storeVar_ent build_ent
attribute [local go_sem] run_loadClus run_storeClus run_zeroClus run_storeClus_new run_loadClus_new zc_length run_loadTab run_storeTab run_zeroTab run_storeTab_new run_loadTab_new zt_length run_loadCnt run_storeCnt run_zeroCnt run_storeCnt_new run_loadCnt_new zk_length run_loadHead run_storeHead run_zeroHead run_storeHead_new run_bHead HasAt_drew cellsAt_drew HasAt_drewN cellsAt_drewN run_bsClus run_loadWr run_zeroWr run_storeWr run_storeWr_new run_bWr0 run_bsWr run_loadPlace run_storePlace run_zeroPlace run_storePlace_new run_bPlace run_loadLst run_storeLst run_zeroLst run_storeLst_new run_storeEnt run_bEnt
attribute [local go_sem] field_head1 field_head0 Oper.semAt_some
attribute [local go_sem ↓] loadVar_ent zeroValue_ent
attribute [local go_sem] run_loadEnt run_zeroEnt run_storeEnt_new
attribute [local go_sem] field_ent0 field_ent1
def putBytes (c : Clus) (o : Nat) (s : List UInt8) : Clus := c.take o ++ s ++ c.drop (o + s.length)
theorem putBytes_length (c : Clus) (o : Nat) (s : List UInt8) (h : o + s.length ≤ c.length) : (putBytes c o s).length = c.length := by
  simp [putBytes]; omega
theorem putBytes_cells (c : Clus) (o : Nat) (s : List UInt8) (h : o + s.length ≤ c.length) : setList (cv c).toArray o (cv s) = (cv (putBytes c o s)).toArray := by
  have e : c = c.take o ++ (c.drop o).take s.length ++ c.drop (o + s.length) := by
    rw [List.append_assoc, ← List.drop_drop, List.take_append_drop, List.take_append_drop]
  have h2 := setList_mid (cv (c.take o)) (cv ((c.drop o).take s.length)) (cv s) (cv (c.drop (o + s.length))) (by simp [cv_length]; omega)
  rw [← cv_append, ← cv_append, ← cv_append, ← cv_append, ← e, cv_length, List.length_take, Nat.min_eq_left (by omega)] at h2
  exact h2
theorem byteAt_putBytes (c : Clus) (o : Nat) (s : List UInt8) (h : o + s.length ≤ c.length) (i : Nat) : byteAt (putBytes c o s) i = if o ≤ i ∧ i < o + s.length then byteAt s (i - o) else byteAt c i := by
  have hl : (c.take o).length = o := by rw [List.length_take]; omega
  unfold byteAt putBytes
  simp only [List.getD_eq_getElem?_getD]
  by_cases h1 : i < o
  · rw [List.append_assoc, List.getElem?_append_left (by omega), if_neg (by omega), List.getElem?_take, if_pos h1]
  · by_cases h2 : i < o + s.length
    · rw [List.append_assoc, List.getElem?_append_right (by omega), hl, List.getElem?_append_left (by omega), if_pos ⟨by omega, h2⟩]
    · rw [List.getElem?_append_right (by rw [List.length_append]; omega), if_neg (by omega), List.getElem?_drop, List.length_append, hl]
      congr 3; omega
theorem byteAt_putN (c : Clus) (k n m : Nat) (hk : k + 1 < c.length) (hn : n < 65536) : byteAt (putNum c k n) m = if m = k then n / 256 else if m = k + 1 then n % 256 else byteAt c m := by
  unfold putNum
  rw [byteAt_set _ _ _ _ (by rw [List.length_set]; exact hk), byteAt_set _ _ _ _ (by omega), toNat_ofNat _ (by omega), toNat_ofNat _ (by omega)]
  by_cases h1 : m = k
  · rw [if_neg (by omega), if_pos h1.symm, if_pos h1]
  · rw [if_neg h1]
    by_cases h2 : m = k + 1
    · rw [if_pos h2.symm, if_pos h2]
    · rw [if_neg (fun e => h2 e.symm), if_neg (fun e => h1 e.symm), if_neg h2]
/-- The list as it stands in the file, up to the k-th entry. -/
def listTo (L : List EntR) : Nat → Clus
  | 0 => zc
  | k + 1 => putNum (putBytes (listTo L k) (16 * k + 2) (L.getD k ze).name) (16 * k) (L.getD k ze).first
def Short (L : List EntR) : Prop := ∀ k, (L.getD k ze).name.length ≤ 12 ∧ (L.getD k ze).first < 65536
theorem listTo_length {L : List EntR} (h : Short L) : ∀ k, k ≤ 4 → (listTo L k).length = 64
  | 0, _ => zc_length
  | k + 1, hk => by
    have h1 := listTo_length h k (by omega)
    have h2 := (h k).1
    rw [listTo, putNum_length, putBytes_length _ _ _ (by omega), h1]
theorem byteAt_zc (i : Nat) : byteAt zc i = 0 := by
  unfold byteAt zc
  rw [List.getD_eq_getElem?_getD, List.getElem?_replicate]
  split <;> rfl
theorem byteAt_name (e : EntR) (he : e.first < 65536) (j : Nat) : byteAt (entBytes e) j = if j = 0 then e.first / 256 else if j = 1 then e.first % 256 else byteAt e.name (j - 2) := by
  match j with
  | 0 => simp only [if_true]; unfold byteAt entBytes; simp only [List.getD_cons_zero]; exact toNat_ofNat _ (by omega)
  | 1 => simp only [if_true]; rw [if_neg (by decide)]; unfold byteAt entBytes; simp only [List.getD_cons_succ, List.getD_cons_zero]; exact toNat_ofNat _ (by omega)
  | k + 2 => rw [if_neg (by omega), if_neg (by omega)]; unfold byteAt; rw [entBytes_name]; rfl
theorem byteAt_listTo {L : List EntR} (h : Short L) : ∀ k, k ≤ 4 → ∀ i j, j < 16 → byteAt (listTo L k) (16 * i + j) = if i < k then byteAt (entBytes (L.getD i ze)) j else 0
  | 0, _, i, j, _ => by rw [if_neg (by omega)]; exact byteAt_zc _
  | k + 1, hk, i, j, hj => by
    have h1 := listTo_length h k (by omega)
    obtain ⟨h2, h3⟩ := h k
    have ih := byteAt_listTo h k (by omega) i j hj
    have hz : ∀ m, 12 ≤ m → byteAt (L.getD k ze).name m = 0 := fun m hm => by
      unfold byteAt
      rw [List.getD_eq_getElem?_getD, List.getElem?_eq_none (by omega)]; rfl
    rw [listTo, byteAt_putN _ _ _ _ (by rw [putBytes_length _ _ _ (by omega), h1]; omega) h3, byteAt_putBytes _ _ _ (by omega), ih]
    by_cases e : i = k
    · subst e
      rw [if_pos (show i < i + 1 by omega), byteAt_name _ h3]
      by_cases j0 : j = 0
      · rw [if_pos (by omega), if_pos j0]
      · by_cases j1 : j = 1
        · rw [if_neg (by omega), if_pos (by omega), if_neg j0, if_pos j1]
        · rw [if_neg (by omega), if_neg (by omega), if_neg j0, if_neg j1]
          by_cases jl : j < 2 + (L.getD i ze).name.length
          · rw [if_pos ⟨by omega, by omega⟩]; congr 1; omega
          · rw [if_neg (by omega), if_neg (by omega)]
            unfold byteAt
            rw [List.getD_eq_getElem?_getD, List.getElem?_eq_none (by omega)]; rfl
    · rw [if_neg (by omega), if_neg (by omega), if_neg (by omega)]
      by_cases hik : i < k
      · rw [if_pos hik, if_pos (by omega)]
      · rw [if_neg hik, if_neg (by omega)]
theorem bytes_ext {a b : Clus} (hl : a.length = b.length) (h : ∀ i, i < a.length → byteAt a i = byteAt b i) : a = b := by
  apply List.ext_getElem hl
  intro i h1 h2
  have := h i h1
  unfold byteAt at this
  rw [List.getD_eq_getElem?_getD, List.getD_eq_getElem?_getD, List.getElem?_eq_getElem h1, List.getElem?_eq_getElem h2] at this
  exact UInt8.toNat_inj.1 this
theorem EntsOK.short4 {E : List EntR} (h : EntsOK E) : Short (pad4 E) := fun k => by
  refine ⟨?_, h.lt k⟩
  rcases h.at k with e | ⟨_, e⟩
  · rw [e]; decide
  · exact e.le
theorem EntsOK.clus {E : List EntR} (h : EntsOK E) : listTo (pad4 E) 4 = listBytes E := by
  refine bytes_ext (by rw [listTo_length h.short4 4 (by omega), h.length]) fun i hi => ?_
  rw [listTo_length h.short4 4 (by omega)] at hi
  have h1 := byteAt_listTo h.short4 4 (by omega) (i / 16) (i % 16) (by omega)
  rw [show 16 * (i / 16) + i % 16 = i by omega, if_pos (by omega)] at h1
  rw [h1]
  have h2 := h.get (i / 16) (by omega) (i % 16) (by omega)
  rw [show 16 * (i / 16) + i % 16 = i by omega] at h2
  unfold byteAt
  rw [h2]

theorem run_copy_name (w : World) (b o m : Nat) (t : TypeId) (c : Clus) (hc : c.length = 64) (hb : w.heap[b]? = some (.cells (cv c).toArray t (0, 0))) (s : List UInt8) (hs : s.length ≤ 12) (ho : o + 12 ≤ 64) :
    (Builtin.copy_ #[100, 9] 3 #[.slice (some ⟨b, o, none⟩) 12 m, .string (txt s)]).run Try.prog w = .ok (.int .i64 (s.length : Nat)) (w.setCells b o (cv s)) := by
  have hz : (txt s).size = s.length := by simp [txt, ByteArray.size]
  have h := run_copy_string (P := Try.prog) w 100 9 3 5 b o 12 m (txt s) Try.underlying100
    (run_sizeOf Try.sizeByte) (by rw [hz]; exact hs) (fun j hj => by rw [cell_blk hb, List.getElem?_toArray, cv_get _ _ (by rw [hc]; omega)]; rfl) (fun j _ => frozen_blk hb _)
  rw [h, hz]; rfl

set_option maxHeartbeats 2000000 in
set_option maxRecDepth 100000 in
theorem listCluster_any (w : World) (L : List EntR) (hL : L.length = 4) (hs : Short L) :
    Calls Try.prog 62 #[.agg (lv L).toArray] w fun e w' => e = .returned (.agg (cv (listTo L 4)).toArray) ∧ Below w.heap.size w w' := by
  have L0 := hide (Locs.three w (.cells (lv L).toArray 57) (.cells (cv zc).toArray 26) (.cells (cv zc).toArray 26))
  have l1 := blk_has (unhide L0).o0 (n := 8) (by rw [lv_length, hL])
  have l2 := blk_cells (unhide L0).o0 (n := 8) (by rw [lv_length, hL])
  go_enter Try.func62, Try.ntmps62
  go_wp2
  clear l1 l2
  go_loopw [4, 5, 6, 8] (fun _ _ _ i w' => ∃ k : Nat, k ≤ 4 ∧ i = .int .i64 k ∧ Locs w w' [.cells (lv L).toArray 57, .cells (cv zc).toArray 26, .cells (cv (listTo L k)).toArray 26]) (fun _ _ _ i _ => 4 - (intOf i).toNat)
  case atStart => exact ⟨0, by omega, rfl, unhide L0⟩
  case round =>
    obtain ⟨k, hk, rfl, hLo⟩ := hrel
    clear L0
    by_cases hlt : k < 4
    · rcases (show k = 0 ∨ k = 1 ∨ k = 2 ∨ k = 3 by omega) with rfl | rfl | rfl | rfl
      · have hll := listTo_length hs 0 (by omega)
        obtain ⟨hn12, hf⟩ := hs 0
        have hix : (Instr.index 57 (.agg (lv L).toArray) (.int .i64 0)).run Try.prog wr = .ok (.agg (ev (L.getD 0 ze)).toArray) wr := run_index_lst wr L hL 0 (by omega)
        have HE : Hid (listTo L 1 = putNum (putBytes (listTo L 0) 2 (L.getD 0 ze).name) 0 (L.getD 0 ze).first) := rfl
        generalize L.getD 0 ze = ent at *
        have hset := putBytes_cells (listTo L 0) 2 ent.name (by omega)
        have hpl := putBytes_length (listTo L 0) 2 ent.name (by omega)
        have La := hLo.alloc (.cells (ev ent).toArray 55)
        have b1 : (wr.alloc (.cells (ev ent).toArray 55)).drew.heap[wr.heap.size]? = some (.cells (ev ent).toArray 55 (0, 0)) := heap_alloc_new _ _
        have c1 : (wr.alloc (.cells (ev ent).toArray 55)).drew.cell? ⟨wr.heap.size, 0, none⟩ = some (.string (txt ent.name)) := (cell_blk b1 0).trans rfl
        have hcp := run_copy_name _ _ 2 62 _ _ hll La.drew.o2 ent.name hn12 (by omega)
        have L1 := La.drew.setCells 2 rfl 2 (cv ent.name)
        rw [hset] at L1
        simp only [List.set_cons_succ, List.set_cons_zero] at L1
        have hne : wr.heap.size ≠ w.heap.size + 1 + 1 := by have := hLo.lt (i := 2) rfl; omega
        have b2 : ((wr.alloc (.cells (ev ent).toArray 55)).drew.setCells (w.heap.size + 1 + 1) 2 (cv ent.name)).heap[wr.heap.size]? = some (.cells (ev ent).toArray 55 (0, 0)) := (Kept.onlys _ (w.heap.size + 1 + 1) 2 (cv ent.name)).blk hne b1
        have c2 : ((wr.alloc (.cells (ev ent).toArray 55)).drew.setCells (w.heap.size + 1 + 1) 2 (cv ent.name)).cell? ⟨wr.heap.size, 1, none⟩ = some (.int .i64 (ent.first : Nat)) := (cell_blk b2 1).trans rfl
        have L1 := hide L1
        clear La hLo b1 b2
        generalize hW1 : (wr.alloc (.cells (ev ent).toArray 55)).drew.setCells (w.heap.size + 1 + 1) 2 (cv ent.name) = W1 at *
        have Hp := hide (putNumber_any W1 _ _ _ (unhide L1).o2 (hpl.trans hll) 0 ent.first (by omega) hf)
        have ew : IntKind.u16.wrap (ent.first : Int) = ent.first := wraps_u16 _ (by omega) (by omega)
        have HE2 : Hid (txt ent.name = txt ent.name) := rfl
        go_wp2
        go_region
        go_wp2_with fail
        refine (unhide Hp).mono ?_
        rintro e w2 ⟨rfl, hb2, hk2⟩
        have L2 := (unhide L1).put 2 _ hk2 hb2
        simp only [List.set_cons_succ, List.set_cons_zero] at L2
        rw [← unhide HE] at L2
        have L2 := hide L2
        clear L1 Hp hb2 hk2 hcp c1 c2 hix hW1
        go_wp2
        go_roundw
        case rel => exact ⟨1, by omega, by go_num, unhide L2⟩
        case measure => simp [intOf]
      · have hll := listTo_length hs 1 (by omega)
        obtain ⟨hn12, hf⟩ := hs 1
        have hix : (Instr.index 57 (.agg (lv L).toArray) (.int .i64 1)).run Try.prog wr = .ok (.agg (ev (L.getD 1 ze)).toArray) wr := run_index_lst wr L hL 1 (by omega)
        have HE : Hid (listTo L 2 = putNum (putBytes (listTo L 1) 18 (L.getD 1 ze).name) 16 (L.getD 1 ze).first) := rfl
        generalize L.getD 1 ze = ent at *
        have hset := putBytes_cells (listTo L 1) 18 ent.name (by omega)
        have hpl := putBytes_length (listTo L 1) 18 ent.name (by omega)
        have La := hLo.alloc (.cells (ev ent).toArray 55)
        have b1 : (wr.alloc (.cells (ev ent).toArray 55)).drew.heap[wr.heap.size]? = some (.cells (ev ent).toArray 55 (0, 0)) := heap_alloc_new _ _
        have c1 : (wr.alloc (.cells (ev ent).toArray 55)).drew.cell? ⟨wr.heap.size, 0, none⟩ = some (.string (txt ent.name)) := (cell_blk b1 0).trans rfl
        have hcp := run_copy_name _ _ 18 46 _ _ hll La.drew.o2 ent.name hn12 (by omega)
        have L1 := La.drew.setCells 2 rfl 18 (cv ent.name)
        rw [hset] at L1
        simp only [List.set_cons_succ, List.set_cons_zero] at L1
        have hne : wr.heap.size ≠ w.heap.size + 1 + 1 := by have := hLo.lt (i := 2) rfl; omega
        have b2 : ((wr.alloc (.cells (ev ent).toArray 55)).drew.setCells (w.heap.size + 1 + 1) 18 (cv ent.name)).heap[wr.heap.size]? = some (.cells (ev ent).toArray 55 (0, 0)) := (Kept.onlys _ (w.heap.size + 1 + 1) 18 (cv ent.name)).blk hne b1
        have c2 : ((wr.alloc (.cells (ev ent).toArray 55)).drew.setCells (w.heap.size + 1 + 1) 18 (cv ent.name)).cell? ⟨wr.heap.size, 1, none⟩ = some (.int .i64 (ent.first : Nat)) := (cell_blk b2 1).trans rfl
        have L1 := hide L1
        clear La hLo b1 b2
        generalize hW1 : (wr.alloc (.cells (ev ent).toArray 55)).drew.setCells (w.heap.size + 1 + 1) 18 (cv ent.name) = W1 at *
        have Hp := hide (putNumber_any W1 _ _ _ (unhide L1).o2 (hpl.trans hll) 16 ent.first (by omega) hf)
        have ew : IntKind.u16.wrap (ent.first : Int) = ent.first := wraps_u16 _ (by omega) (by omega)
        have HE2 : Hid (txt ent.name = txt ent.name) := rfl
        go_wp2
        go_region
        go_wp2_with fail
        refine (unhide Hp).mono ?_
        rintro e w2 ⟨rfl, hb2, hk2⟩
        have L2 := (unhide L1).put 2 _ hk2 hb2
        simp only [List.set_cons_succ, List.set_cons_zero] at L2
        rw [← unhide HE] at L2
        have L2 := hide L2
        clear L1 Hp hb2 hk2 hcp c1 c2 hix hW1
        go_wp2
        go_roundw
        case rel => exact ⟨2, by omega, by go_num, unhide L2⟩
        case measure => simp [intOf]
      · have hll := listTo_length hs 2 (by omega)
        obtain ⟨hn12, hf⟩ := hs 2
        have hix : (Instr.index 57 (.agg (lv L).toArray) (.int .i64 2)).run Try.prog wr = .ok (.agg (ev (L.getD 2 ze)).toArray) wr := run_index_lst wr L hL 2 (by omega)
        have HE : Hid (listTo L 3 = putNum (putBytes (listTo L 2) 34 (L.getD 2 ze).name) 32 (L.getD 2 ze).first) := rfl
        generalize L.getD 2 ze = ent at *
        have hset := putBytes_cells (listTo L 2) 34 ent.name (by omega)
        have hpl := putBytes_length (listTo L 2) 34 ent.name (by omega)
        have La := hLo.alloc (.cells (ev ent).toArray 55)
        have b1 : (wr.alloc (.cells (ev ent).toArray 55)).drew.heap[wr.heap.size]? = some (.cells (ev ent).toArray 55 (0, 0)) := heap_alloc_new _ _
        have c1 : (wr.alloc (.cells (ev ent).toArray 55)).drew.cell? ⟨wr.heap.size, 0, none⟩ = some (.string (txt ent.name)) := (cell_blk b1 0).trans rfl
        have hcp := run_copy_name _ _ 34 30 _ _ hll La.drew.o2 ent.name hn12 (by omega)
        have L1 := La.drew.setCells 2 rfl 34 (cv ent.name)
        rw [hset] at L1
        simp only [List.set_cons_succ, List.set_cons_zero] at L1
        have hne : wr.heap.size ≠ w.heap.size + 1 + 1 := by have := hLo.lt (i := 2) rfl; omega
        have b2 : ((wr.alloc (.cells (ev ent).toArray 55)).drew.setCells (w.heap.size + 1 + 1) 34 (cv ent.name)).heap[wr.heap.size]? = some (.cells (ev ent).toArray 55 (0, 0)) := (Kept.onlys _ (w.heap.size + 1 + 1) 34 (cv ent.name)).blk hne b1
        have c2 : ((wr.alloc (.cells (ev ent).toArray 55)).drew.setCells (w.heap.size + 1 + 1) 34 (cv ent.name)).cell? ⟨wr.heap.size, 1, none⟩ = some (.int .i64 (ent.first : Nat)) := (cell_blk b2 1).trans rfl
        have L1 := hide L1
        clear La hLo b1 b2
        generalize hW1 : (wr.alloc (.cells (ev ent).toArray 55)).drew.setCells (w.heap.size + 1 + 1) 34 (cv ent.name) = W1 at *
        have Hp := hide (putNumber_any W1 _ _ _ (unhide L1).o2 (hpl.trans hll) 32 ent.first (by omega) hf)
        have ew : IntKind.u16.wrap (ent.first : Int) = ent.first := wraps_u16 _ (by omega) (by omega)
        have HE2 : Hid (txt ent.name = txt ent.name) := rfl
        go_wp2
        go_region
        go_wp2_with fail
        refine (unhide Hp).mono ?_
        rintro e w2 ⟨rfl, hb2, hk2⟩
        have L2 := (unhide L1).put 2 _ hk2 hb2
        simp only [List.set_cons_succ, List.set_cons_zero] at L2
        rw [← unhide HE] at L2
        have L2 := hide L2
        clear L1 Hp hb2 hk2 hcp c1 c2 hix hW1
        go_wp2
        go_roundw
        case rel => exact ⟨3, by omega, by go_num, unhide L2⟩
        case measure => simp [intOf]
      · have hll := listTo_length hs 3 (by omega)
        obtain ⟨hn12, hf⟩ := hs 3
        have hix : (Instr.index 57 (.agg (lv L).toArray) (.int .i64 3)).run Try.prog wr = .ok (.agg (ev (L.getD 3 ze)).toArray) wr := run_index_lst wr L hL 3 (by omega)
        have HE : Hid (listTo L 4 = putNum (putBytes (listTo L 3) 50 (L.getD 3 ze).name) 48 (L.getD 3 ze).first) := rfl
        generalize L.getD 3 ze = ent at *
        have hset := putBytes_cells (listTo L 3) 50 ent.name (by omega)
        have hpl := putBytes_length (listTo L 3) 50 ent.name (by omega)
        have La := hLo.alloc (.cells (ev ent).toArray 55)
        have b1 : (wr.alloc (.cells (ev ent).toArray 55)).drew.heap[wr.heap.size]? = some (.cells (ev ent).toArray 55 (0, 0)) := heap_alloc_new _ _
        have c1 : (wr.alloc (.cells (ev ent).toArray 55)).drew.cell? ⟨wr.heap.size, 0, none⟩ = some (.string (txt ent.name)) := (cell_blk b1 0).trans rfl
        have hcp := run_copy_name _ _ 50 14 _ _ hll La.drew.o2 ent.name hn12 (by omega)
        have L1 := La.drew.setCells 2 rfl 50 (cv ent.name)
        rw [hset] at L1
        simp only [List.set_cons_succ, List.set_cons_zero] at L1
        have hne : wr.heap.size ≠ w.heap.size + 1 + 1 := by have := hLo.lt (i := 2) rfl; omega
        have b2 : ((wr.alloc (.cells (ev ent).toArray 55)).drew.setCells (w.heap.size + 1 + 1) 50 (cv ent.name)).heap[wr.heap.size]? = some (.cells (ev ent).toArray 55 (0, 0)) := (Kept.onlys _ (w.heap.size + 1 + 1) 50 (cv ent.name)).blk hne b1
        have c2 : ((wr.alloc (.cells (ev ent).toArray 55)).drew.setCells (w.heap.size + 1 + 1) 50 (cv ent.name)).cell? ⟨wr.heap.size, 1, none⟩ = some (.int .i64 (ent.first : Nat)) := (cell_blk b2 1).trans rfl
        have L1 := hide L1
        clear La hLo b1 b2
        generalize hW1 : (wr.alloc (.cells (ev ent).toArray 55)).drew.setCells (w.heap.size + 1 + 1) 50 (cv ent.name) = W1 at *
        have Hp := hide (putNumber_any W1 _ _ _ (unhide L1).o2 (hpl.trans hll) 48 ent.first (by omega) hf)
        have ew : IntKind.u16.wrap (ent.first : Int) = ent.first := wraps_u16 _ (by omega) (by omega)
        have HE2 : Hid (txt ent.name = txt ent.name) := rfl
        go_wp2
        go_region
        go_wp2_with fail
        refine (unhide Hp).mono ?_
        rintro e w2 ⟨rfl, hb2, hk2⟩
        have L2 := (unhide L1).put 2 _ hk2 hb2
        simp only [List.set_cons_succ, List.set_cons_zero] at L2
        rw [← unhide HE] at L2
        have L2 := hide L2
        clear L1 Hp hb2 hk2 hcp c1 c2 hix hW1
        go_wp2
        go_roundw
        case rel => exact ⟨4, by omega, by go_num, unhide L2⟩
        case measure => simp [intOf]
    · have hk4 : k = 4 := by omega
      subst hk4
      have b1 := hLo.o1
      have b2 := hLo.o2
      have hbl := listTo_length hs 4 (by omega)
      have l1 := box_has b2 hbl
      have l2 := box_cells b2 hbl
      have th := there_blk b1 0 64 (by simp [cv_length, zc_length])
      have hset := hLo.setCells 1 rfl 0 (cv (listTo L 4))
      rw [setList_all _ _ (by simp [cv_length, zc_length, hbl])] at hset
      have o1 := hset.o1
      have l3 := box_has o1 hbl
      have l4 := box_cells o1 hbl
      have HB := hide hset.below
      clear hLo b1 b2 hset o1
      go_wp2
      refine bodyPost_ret (results_cell Try.results62 ⟨w.heap.size + 1, 0, none⟩ rfl ?_) rfl ⟨rfl, unhide HB⟩
      rw [loadVar_clus, run_loadClus l3, l4]
end Go.Proofs.Ytknjjjenklfeoaa

/-
  The program's pictures: the list is put.
-/
namespace Go.Proofs.Ytknjjjenklfeoaa
open Go.RowKit

attribute [local go_sem ↓] loadVar_clus storeVar_clus zeroValue_clus loadVar_tab storeVar_tab zeroValue_tab loadVar_cnt storeVar_cnt zeroValue_cnt loadVar_head storeVar_head zeroValue_head build_head buildSlice_clus loadVar_wr storeVar_wr zeroValue_wr build_wr buildSlice_wr equalIn_clus loadVar_place storeVar_place zeroValue_place build_place loadVar_lst storeVar_lst zeroValue_lst storeVar_ent build_ent
attribute [local go_sem] run_loadClus run_storeClus run_zeroClus run_storeClus_new run_loadClus_new zc_length run_loadTab run_storeTab run_zeroTab run_storeTab_new run_loadTab_new zt_length run_loadCnt run_storeCnt run_zeroCnt run_storeCnt_new run_loadCnt_new zk_length run_loadHead run_storeHead run_zeroHead run_storeHead_new run_bHead HasAt_drew cellsAt_drew HasAt_drewN cellsAt_drewN run_bsClus run_loadWr run_zeroWr run_storeWr run_storeWr_new run_bWr0 run_bsWr run_loadPlace run_storePlace run_zeroPlace run_storePlace_new run_bPlace run_loadLst run_storeLst run_zeroLst run_storeLst_new run_storeEnt run_bEnt
attribute [local go_sem] field_head1 field_head0 Oper.semAt_some
attribute [local go_sem ↓] loadVar_ent zeroValue_ent
attribute [local go_sem] run_loadEnt run_zeroEnt run_storeEnt_new
set_option maxHeartbeats 1000000 in
set_option maxRecDepth 100000 in
theorem putList_any (w : World) (v : Nat) (Cv Lv : Value) (V : VolR) (h : VolAt w v Cv Lv V) (L : List EntR) (hl4 : L.length = 4) (hs : Short L) (hC : V.C.length ≤ 1000) (hL : V.L.length ≤ 900000000) :
    Calls Try.prog 33 #[.pointer (some ⟨v, 0, none⟩), .agg (lv L).toArray] w fun e w' => e = .returned (.tuple #[]) ∧ ∃ Cv' Lv', VStep w w' v Cv Lv Cv' Lv' (putV V 5 (listTo L 4)) := by
  have E0 := (Env.start h).lay (.cells (lv L).toArray 57)
  have l1 := blk_has E0.drew.o0 (n := 8) (by rw [lv_length, hl4])
  have l2 := blk_cells E0.drew.o0 (n := 8) (by rw [lv_length, hl4])
  have hbl := listTo_length hs 4 (by omega)
  have Hp := hide (listCluster_any (w.alloc (.cells (lv L).toArray 57)).drew L hl4 hs)
  have Hpu : Hid (∀ W C1 L1, VolAt W v C1 L1 V → _) := fun W C1 L1 hW => put_any W v C1 L1 V hW 5 (by omega) (listTo L 4) hbl (by omega) (by omega)
  have HE := hide E0
  clear E0 h
  generalize listTo L 4 = c at *
  go_enter Try.func33, Try.ntmps33
  go_wp2
  go_region_law (first
    | (go_simp
       go_at_call 62
       refine (unhide Hp).mono ?_
       rintro e w1 ⟨rfl, hb1⟩
       have E1 := hide ((unhide HE).drew.later hb1))
    | (go_simp
       go_at_call 46
       refine (unhide Hpu _ _ _ (unhide E1).at').mono ?_
       rintro e w2 ⟨rfl, C2, L2, hS⟩
       have E2 := hide ((unhide E1).does hS).step
       clear hS))
  all_goals
    go_end0
    exact ⟨rfl, C2, L2, unhide E2⟩
end Go.Proofs.Ytknjjjenklfeoaa

/-
  Plain: a picture is taken.
-/
namespace Go.Proofs.Ytknjjjenklfeoaa
/-- Head and list may be others. -/
structure Kin (L L' : List Clus) : Prop where
  len : L'.length = L.length
  same : ∀ t, t ≠ 0 → t ≠ 5 → cl L' t = cl L t
section
variable {L L' : List Clus} {rs : List RootR}
theorem Kin.nm (h : Kin L L') {t : Nat} (h6 : 6 ≤ t) (q : Nat) : nm L' t q = nm L t q := by
  unfold Go.Proofs.Ytknjjjenklfeoaa.nm; rw [h.same t (by omega) (by omega)]
theorem Kin.count (h : Kin L L') (n : Nat) (hn : n < 256) : countOf L' n = countOf L n := by
  unfold countOf; rw [h.same _ (by omega) (by omega)]
theorem Kin.shape (h : Kin L L') (hs : SoundL L rs) : Shape L L' rs :=
  Shape.of_same (fun r hr => h.same _ (by have := hs.fst r hr; omega) (by have := hs.fst r hr; omega)) (fun s hx => h.same _ (by have := hs.sec s hx; omega) (by have := hs.sec s hx; omega))
theorem Kin.sound (h : Kin L L') (hs : SoundL L rs) : SoundL L' rs := by
  have hlen := hs.len
  refine hs.shape (h.shape hs) (by rw [h.len]; exact Nat.le_refl _) (by rw [h.len]; exact hs.len) (fun n hn => by rw [h.count n hn]; exact hs.cnt n hn) (fun n hn => by rw [h.count n hn]; exact hs.top n hn) (fun n hn hl => by rw [h.count n hn]; exact hs.none n hn (by rw [← h.len]; exact hl)) (fun r hr j hj hm => ?_) (fun s hx k hk hm => ?_)
  · have h6 := hs.fst r hr
    rw [h.nm h6.1] at hm ⊢
    have := hs.num_in (Or.inl ⟨r, hr, rfl⟩) j (by omega) (by omega)
    rw [h.count _ (by omega)]
    exact hs.mark1 r hr j hj hm
  · have h6 := hs.sec s hx
    rw [h.nm h6.1] at hm ⊢
    have := hs.num_in (Or.inr hx) k hk (by omega)
    rw [h.count _ (by omega)]
    exact hs.mark2 s hx k hk hm
theorem Kin.content (h : Kin L L') (hs : SoundL L rs) {r : RootR} (hr : r ∈ rs) : contentOf L' r.N = contentOf L r.N :=
  (h.shape hs).content (fun n hn => h.same n (by have := hs.blk n hn; omega) (by have := hs.blk n hn; omega)) hr
theorem Kin.tree (h : Kin L L') (hs : SoundL L rs) {r : RootR} (hr : r ∈ rs) (m : Nat) : treeOcc L' r.N m = treeOcc L r.N m := (h.shape hs).tree hr m
theorem Kin.exact (h : Kin L L') (hs : SoundL L rs) (hx : ExactS L rs) : ExactS L' rs := by
  have hlen := hs.len
  refine ⟨fun n hn => by rw [h.count n hn, (h.shape hs).use]; exact hx.eq n hn, fun r hr j hj h0 h1 => ?_, fun s hx' k hk h0 h1 => ?_⟩
  · have h6 := hs.fst r hr
    rw [h.nm h6.1] at h0 h1 ⊢
    have := hs.num_in (Or.inl ⟨r, hr, rfl⟩) j (by omega) h0
    rw [h.count _ (by omega)] at h1
    exact hx.lone1 r hr j hj h0 h1
  · rw [(h.shape hs).isSec] at hx'
    have h6 := hs.sec s hx'
    rw [h.nm h6.1] at h0 h1 ⊢
    have := hs.num_in (Or.inr hx') k hk h0
    rw [h.count _ (by omega)] at h1
    exact hx.lone2 s hx' k hk h0 h1
end
theorem put_kin {C : List Clus} {p : Nat} {c : Clus} (hp : p < C.length) (h : p = 0 ∨ p = 5) : Kin C (putsC C [(p, c)]) ∧ cl (putsC C [(p, c)]) p = c ∧ ∀ t, t ≠ p → cl (putsC C [(p, c)]) t = cl C t := by
  have e : putsC C [(p, c)] = putC C (p, c) := rfl
  have hl : (putC C (p, c)).length = C.length := by rw [putC_length]; simp only; omega
  have ho : ∀ t, t ≠ p → cl (putC C (p, c)) t = cl C t := fun t ht => by
    by_cases htl : t < C.length
    · rw [← vw_at (by omega), vw_putC, if_neg (fun z => ht z.symm), vw_at htl]
    · rw [cl_past (by omega), cl_past (by omega)]
  rw [e]
  exact ⟨⟨hl, fun t h0 h5 => ho t (by omega)⟩, by rw [← vw_at (by omega), vw_putC, if_pos rfl], ho⟩
section
variable {base : List Clus} {V : VolR} {N0 : Nat} {E : List EntR} {f n : Nat}
/-- What is known of a call that changes the list or the head. -/
structure Came (base : List Clus) (V : VolR) (N0 : Nat) (E : List EntR) (V' : VolR) (N1 : Nat) (E' : List EntR) (D' : DiskR) : Prop where
  vol : Vol base V' N1 E'
  holds : dskOf V'.C N1 E' = D'
  exact : ExactS V.C (rsOf N0 E) → ExactS V'.C (rsOf N1 E')
/-- What two files with the same tables hold alike. -/
theorem dskOf_mem {L L' : List Clus} (hh : dskOf L' N0 E = dskOf L N0 E) : ∀ r ∈ rsOf N0 E, contentOf L' r.N = contentOf L r.N := by
  intro r hr
  rcases rsOf_mem.1 hr with z | ⟨x, hx, z⟩
  · rw [z]; exact congrArg DiskR.C hh
  · rw [z]
    obtain ⟨i, hi, rfl⟩ := List.getElem_of_mem hx
    have h2 : (E.map fun e => (⟨e.name, contentOf L' e.first⟩ : PicR)) = E.map fun e => ⟨e.name, contentOf L e.first⟩ := congrArg DiskR.L hh
    have h3 := congrArg (fun l => l[i]?) h2
    simp only [List.getElem?_map, List.getElem?_eq_getElem hi, Option.map_some, Option.some.injEq] at h3
    exact congrArg PicR.C h3
theorem puts_copy (V : VolR) (f n : Nat) : Puts V (copyV V f n) := by
  unfold copyV copy1
  exact ((puts_putCnt (puts_renum (puts_lengthen (Puts.refl V) [n]) sharedOf _).flush _ 4).put _ _).flush
/-- The copied tree. -/
theorem Vol.copyTree (h : Vol base V N0 E) (hf : f ∈ (rsOf N0 E).map (·.N)) (hn : n < 256) (h0 : countOf V.C n = 0) (hfit : fitsB (cntsOf V.C) (toldAll V.C f) = true) :
    SoundL (copyV V f n).C (rsOf N0 E) ∧ (∀ j, j < 32 → nm (copyV V f n).C n j = nm (copyV V f n).C f j) ∧ (∀ m, treeOcc (copyV V f n).C n m = (if n = m then 1 else 0) + (toldAll V.C f).count m) ∧
      (¬ IsFst (rsOf N0 E) n ∧ ¬ IsSec (copyV V f n).C (rsOf N0 E) n ∧ ¬ IsBlk (copyV V f n).C (rsOf N0 E) n) ∧ contentOf (copyV V f n).C n = contentOf (copyV V f n).C f ∧ (∀ r ∈ rsOf N0 E, contentOf (copyV V f n).C r.N = contentOf V.C r.N) ∧ (toldAll V.C f).count n = 0 := by
  obtain ⟨e, a1, a2, a3, a4, a5, a6, a7, a8⟩ := h.copied hf hn h0 hfit
  obtain ⟨k1, k2, k3⟩ := h.copy_cnt hf hn hfit
  have hun := h.sound.untold hn h0
  obtain ⟨r, hr, rfl⟩ := List.mem_map.1 hf
  have hr6 := h.sound.fst r hr
  have hrn : r.N ≠ n := fun z => hun.1 ⟨r, hr, z⟩
  have ec : cl (copyV V r.N n).C n = cl (copyV V r.N n).C r.N := by rw [a5, a6 r.N (by omega) hr6.2 hrn (by unfold ofTree; simp)]
  have en : ∀ j, nm (copyV V r.N n).C n j = nm (copyV V r.N n).C r.N j := fun j => by unfold nm; rw [ec]
  have hs := a2.sound
  rw [padTo_self a3] at hs
  have hun2 : ¬ IsFst (rsOf N0 E) n ∧ ¬ IsSec (copyV V r.N n).C (rsOf N0 E) n ∧ ¬ IsBlk (copyV V r.N n).C (rsOf N0 E) n := ⟨hun.1, fun x => hun.2.1 ((a8.isSec n).1 x), fun x => hun.2.2 ((a8.isBlk n).1 x)⟩
  have hh := a2.holds
  rw [padTo_self a3] at hh
  refine ⟨hs, fun j _ => en j, fun m => ?_, hun2, content_copy (fun j _ => en j), fun r' hr' => ?_, ?_⟩
  · have h1 : treeOcc (copyV V r.N n).C r.N m = treeOcc V.C r.N m := a8.tree hr m
    have h2 := count_told (h.sound.zero r hr) m
    unfold treeOcc at h1 ⊢
    have h3 : ∀ j, secOcc (copyV V r.N n).C n j m = secOcc (copyV V r.N n).C r.N j m := fun j => by unfold secOcc; rw [en j]
    rw [h3 0, h3 1, h2]
    omega
  · exact dskOf_mem hh r' hr'
  · refine List.count_eq_zero.2 fun x => ?_
    obtain ⟨j, hj, hj0, y | ⟨k, hk, hk0, y⟩⟩ := mem_toldAll (h.sound.zero r hr) x
    · exact hun.2.1 ⟨r, hr, j, hj, hj0, y⟩
    · exact hun.2.2 ⟨_, ⟨r, hr, j, hj, hj0, rfl⟩, k, hk, hk0, y⟩
/-- What is used once has its mark behind the copy, if it had before. -/
theorem Vol.copyLone (h : Vol base V N0 E) (hf : f ∈ (rsOf N0 E).map (·.N)) (hn : n < 256) (h0 : countOf V.C n = 0) (hfit : fitsB (cntsOf V.C) (toldAll V.C f) = true) (hx : ExactS V.C (rsOf N0 E)) {t : Nat} (ht : IsFst (rsOf N0 E) t ∨ IsSec V.C (rsOf N0 E) t) (q : Nat) (hq : q < 32) (hne : nm (copyV V f n).C t q ≠ 0)
    (h1 : countOf (copyV V f n).C (nm (copyV V f n).C t q % 32768) = 1) : 32768 ≤ nm (copyV V f n).C t q := by
  obtain ⟨e, a1, a2, a3, a4, a5, a6, a7, a8⟩ := h.copied hf hn h0 hfit
  have hun := h.sound.untold hn h0
  have hlen := h.sound.len
  have ht6 := h.sound.tab_lt ht
  have htn : t ≠ n := fun z => by
    rw [z] at ht
    rcases ht with y | y
    · exact hun.1 y
    · exact hun.2.1 y
  obtain ⟨r, hr, rfl⟩ := List.mem_map.1 hf
  have same : SameN (nm (copyV V r.N n).C t q) (nm V.C t q) := by
    rcases ht with ⟨r', hr', rfl⟩ | y
    · exact a8.t1 r' hr' q hq
    · exact a8.t2 t y q hq
  have hv0 : nm V.C t q ≠ 0 := fun z => hne (same.1.2 z)
  have hin := h.sound.num_in ht q hq hv0
  have hus := h.sound.used1 ht q hq hv0
  have hcn := h.sound.cnt _ (show nm V.C t q % 32768 < 256 by omega)
  have hcc : nm V.C t q % 32768 ≠ n := fun z => by rw [z] at hcn hus; omega
  rw [same.2, a4 _ (by omega), if_neg (fun z => hcc z.symm)] at h1
  by_cases ho : ofTree V.C r.N t
  · exfalso
    have hmem : nm V.C t q % 32768 ∈ toldAll V.C r.N := by
      rcases List.mem_cons.1 ho with z | z
      · rw [z] at hv0 ⊢
        have hq2 : q < 2 := by
          by_cases x : q < 2
          · exact x
          · exact absurd (h.sound.zero r hr q (by omega) hq) hv0
        exact toldAll_mem1 hq2 hv0
      · obtain ⟨i, hi, hi0, e2⟩ := mem_toldBy z
        have hi2 : i < 2 := by
          by_cases x : i < 2
          · exact x
          · exact absurd (h.sound.zero r hr i (by omega) hi) hi0
        have e3 : nm V.C r.N i % 32768 = t := e2
        have := toldAll_mem2 (C := V.C) (f := r.N) (j := i) (k := q) hi2 hi0 hq (by rw [e3]; exact hv0)
        rw [e3] at this
        exact this
    have := List.count_pos_iff.2 hmem
    omega
  · have e2 : nm (copyV V r.N n).C t q = nm V.C t q := by unfold nm; rw [a7 t (by omega) ht6.2 htn ho]
    rw [e2]
    rcases ht with ⟨r', hr', rfl⟩ | y
    · have hq2 : q < 2 := by
        by_cases x : q < 2
        · exact x
        · exact absurd (h.sound.zero r' hr' q (by omega) hq) hv0
      exact hx.lone1 r' hr' q hq2 hv0 (by omega)
    · exact hx.lone2 t y q hq hv0 (by omega)
theorem dskOf_C (L : List Clus) (N1 : Nat) (E1 : List EntR) : (dskOf L N1 E1).C = contentOf L N1 := by simp only [dskOf]
theorem dskOf_L (L : List Clus) (N1 : Nat) (E1 : List EntR) : (dskOf L N1 E1).L = E1.map fun e => (⟨e.name, contentOf L e.first⟩ : PicR) := by simp only [dskOf]
theorem dskOf_eq {L : List Clus} {N1 : Nat} {E1 : List EntR} {c : List Clus} {l : List PicR} (hA : contentOf L N1 = c) (hB : (E1.map fun e => (⟨e.name, contentOf L e.first⟩ : PicR)) = l) : dskOf L N1 E1 = ⟨c, l⟩ := by rw [← hA, ← hB]; rfl
def takeV (V : VolR) (f n : Nat) (E' : List EntR) : VolR := flushV (putV (copyV V f n) 5 (listBytes E'))
def takeD (D : DiskR) (s : List UInt8) : DiskR := { D with L := D.L ++ [⟨s, D.C⟩] }
theorem rsOf_snoc (N0 : Nat) (E : List EntR) (e : EntR) : rsOf N0 (E ++ [e]) = rsOf N0 E ++ [rootE e] := by simp [rsOf]
theorem useOf_snoc (L : List Clus) (rs : List RootR) (r : RootR) (m : Nat) : useOf L (rs ++ [r]) m = useOf L rs m + treeOcc L r.N m := by simp [useOf]
theorem EntsOK.snoc (h : EntsOK E) {s : List UInt8} (hs : isNameB s = true) (hnew : s ∉ E.map (·.name)) (h4 : E.length < 4) (h6 : n ≠ 0) (hn : n < 65536) : EntsOK (E ++ [⟨s, n⟩]) := by
  refine ⟨by simp; omega, fun e he => ?_, ?_⟩
  · rcases List.mem_append.1 he with x | x
    · exact h.all e x
    · rw [List.mem_singleton.1 x]; exact ⟨hs, h6, hn⟩
  · rw [List.map_append, List.nodup_append]
    refine ⟨h.nodup, by simp, fun a ha b hb => ?_⟩
    simp only [List.map_cons, List.map_nil, List.mem_singleton] at hb
    rw [hb]
    exact fun z => hnew (by rw [← z]; exact ha)
theorem Vol.take (h : Vol base V N0 E) {s : List UInt8} (hs : isNameB s = true) (hnew : s ∉ E.map (·.name)) (h4 : E.length < 4) (hn : n < 256) (h0 : countOf V.C n = 0) (hfit : fitsB (cntsOf V.C) (toldAll V.C N0) = true) :
    takeV V N0 n (E ++ [⟨s, n⟩]) = epoch (copyV V N0 n) [(5, listBytes (E ++ [⟨s, n⟩]))] ∧ Came base V N0 E (takeV V N0 n (E ++ [⟨s, n⟩])) N0 (E ++ [⟨s, n⟩]) (takeD (dskOf V.C N0 E) s) := by
  have hf : N0 ∈ (rsOf N0 E).map (·.N) := by simp [rsOf]
  have hr0 : (⟨N0, 0, []⟩ : RootR) ∈ rsOf N0 E := by simp [rsOf]
  obtain ⟨e, a1, a2, a3, a4, a5, a6, a7, a8⟩ := h.copied hf hn h0 hfit
  obtain ⟨b1, b2, b3, b4, b5, b6, b7⟩ := h.copyTree hf hn h0 hfit
  have h6 := h.sound.free_six hn h0
  have hT : lenTo V.C [n] = max V.C.length (n + 1) := rfl
  have h7 := h.file.seven
  have hlen := h.sound.len
  have hE' := h.file.ents.snoc hs hnew h4 (show n ≠ 0 by omega) (by omega)
  have e1 : takeV V N0 n (E ++ [⟨s, n⟩]) = epoch (copyV V N0 n) [(5, listBytes (E ++ [⟨s, n⟩]))] := by unfold takeV epoch; rw [puts_one]
  have hC : (takeV V N0 n (E ++ [⟨s, n⟩])).C = putsC (copyV V N0 n).C [(5, listBytes (E ++ [⟨s, n⟩]))] := by rw [e1, epoch_C]
  obtain ⟨c1, c2, c3⟩ := put_kin (C := (copyV V N0 n).C) (p := 5) (c := listBytes (E ++ [⟨s, n⟩])) (by omega) (Or.inr rfl)
  rw [← hC] at c1 c2 c3
  have hloose : (takeV V N0 n (E ++ [⟨s, n⟩])).loose = false := by rw [e1]; exact flushV_loose _
  have hputs : Puts V (takeV V N0 n (E ++ [⟨s, n⟩])) := by rw [e1]; exact puts_epoch (puts_copy V N0 n) _
  have hlone := fun (hx : ExactS V.C (rsOf N0 E)) {t : Nat} ht q hq => h.copyLone hf hn h0 hfit hx (t := t) ht q hq
  refine ⟨e1, ?_⟩
  clear e1 e a1 a5 a6 a7
  generalize takeV V N0 n (E ++ [⟨s, n⟩]) = W at *
  generalize copyV V N0 n = U at *
  have hrs : rsOf N0 (E ++ [⟨s, n⟩]) = rsOf N0 E ++ [⟨n, 5, s⟩] := rsOf_snoc _ _ _
  have hcnt : ∀ m, m < 256 → countOf (U).C m = base6 m + useOf (U).C (rsOf N0 (E ++ [⟨s, n⟩])) m ∨ base6 m + useOf V.C (rsOf N0 E) m < countOf V.C m := fun m hm => by
    rw [hrs, useOf_snoc, a8.use, a4 m hm]
    simp only
    rw [b3 m]
    by_cases z : n = m
    · subst z
      left
      rw [if_pos rfl, if_pos rfl, use_none h.sound (h.sound.untold hn h0), b7, base6_eq, if_neg (by omega)]
    · rw [if_neg z, if_neg z]
      have := h.sound.cnt m hm
      omega
  have s1 : SoundL (U).C (rsOf N0 (E ++ [⟨s, n⟩])) := by
    refine b1.roots (fun r' hr' => ?_) ?_ (fun m hm => ?_)
    · rw [hrs] at hr'
      rcases List.mem_append.1 hr' with x | x
      · exact ⟨b1.fst r' x, b1.fs _ ⟨r', x, rfl⟩, b1.fb _ ⟨r', x, rfl⟩, r', x, fun j _ => rfl⟩
      · rw [List.mem_singleton.1 x]
        exact ⟨⟨h6, by rw [a3]; simp only; omega⟩, b4.2.1, b4.2.2, _, hr0, fun j hj => b2 j hj⟩
    · rw [hrs, List.map_append, List.nodup_append]
      refine ⟨b1.nodup, by simp, fun a ha b hb => ?_⟩
      simp only [List.map_cons, List.map_nil, List.mem_singleton] at hb
      rw [hb]
      intro z
      obtain ⟨r', hr', e2⟩ := List.mem_map.1 ha
      exact b4.1 ⟨r', hr', e2.trans z⟩
    · rw [hrs, useOf_snoc, a8.use, a4 m hm]
      simp only
      rw [b3 m]
      have := h.sound.cnt m hm
      by_cases z : n = m
      · subst z
        rw [if_pos rfl, if_pos rfl, use_none h.sound (h.sound.untold hn h0), b7, base6_eq, if_neg (by omega)]
        exact Nat.le_refl _
      · rw [if_neg z, if_neg z]; omega
  have s2 := c1.sound s1
  have hlT : (W).C.length = lenTo V.C [n] := by rw [c1.len, a3]
  have hfile : FileE (W).C (lenTo V.C [n]) N0 (E ++ [⟨s, n⟩]) := by
    refine ⟨?_, by omega, by omega, a2.file.seven, a2.file.most, a2.file.n0, by rw [c3 0 (by omega)]; exact a2.file.head, c2, hE'⟩
    rw [hC]
    exact putsC_lens _ _ a2.file.lens (fun x hx => by rw [List.mem_singleton.1 hx]; exact hE'.length)
  have hD : dskOf (W).C N0 (E ++ [⟨s, n⟩]) = takeD (dskOf V.C N0 E) s := by
    have g : ∀ r ∈ rsOf N0 (E ++ [⟨s, n⟩]), contentOf (W).C r.N = contentOf (U).C r.N := fun r hr => c1.content s1 hr
    have gn := g ⟨n, 5, s⟩ (by rw [hrs]; simp)
    have g0 := g ⟨N0, 0, []⟩ (by rw [hrs]; simp [rsOf])
    simp only at gn g0
    have hb0 := b6 _ hr0
    simp only at hb0
    have hA : contentOf (W).C N0 = (dskOf V.C N0 E).C := by rw [dskOf_C, g0, hb0]
    have hB : ((E ++ [(⟨s, n⟩ : EntR)]).map fun e : EntR => (⟨e.name, contentOf (W).C e.first⟩ : PicR)) = (dskOf V.C N0 E).L ++ [⟨s, (dskOf V.C N0 E).C⟩] := by
      have h1 : (E.map fun e => (⟨e.name, contentOf (W).C e.first⟩ : PicR)) = E.map fun e => (⟨e.name, contentOf V.C e.first⟩ : PicR) := by
        apply List.map_congr_left
        intro x hx
        have hx1 : rootE x ∈ rsOf N0 E := rsOf_mem.2 (Or.inr ⟨x, hx, rfl⟩)
        have g1 := g (rootE x) (by rw [hrs]; exact List.mem_append.2 (Or.inl hx1))
        have g2 := b6 (rootE x) hx1
        simp only [rootE] at g1 g2
        rw [g1, g2]
      rw [List.map_append, h1, dskOf_L, dskOf_C, List.map_cons, List.map_nil]
      simp only
      rw [gn, b5, hb0]
    exact dskOf_eq hA hB
  have ok : Ok W.C (lenTo V.C [n]) N0 (E ++ [⟨s, n⟩]) (takeD (dskOf V.C N0 E) s) := ⟨hfile, by rw [padTo_self hlT]; exact s2, by rw [padTo_self hlT]; exact hD⟩
  refine ⟨ok.vol hlT hloose (h.log.puts hputs), hD, fun hx => c1.exact s1 ⟨fun m hm => ?_, fun r' hr' j hj hne h1 => ?_, fun s' hs' k hk hne h1 => ?_⟩⟩
  · rcases hcnt m hm with z | z
    · exact z
    · have := hx.eq m hm; omega
  · rw [hrs] at hr'
    rcases List.mem_append.1 hr' with x | x
    · exact hlone hx (Or.inl ⟨r', x, rfl⟩) j (by omega) hne h1
    · rw [List.mem_singleton.1 x] at hne h1 ⊢
      simp only at hne h1 ⊢
      rw [b2 j (by omega)] at hne h1 ⊢
      exact hlone hx (Or.inl ⟨_, hr0, rfl⟩) j (by omega) hne h1
  · have : IsSec V.C (rsOf N0 E) s' := by
      rw [← a8.isSec]
      obtain ⟨r', hr', j, hj, q0, q1⟩ := hs'
      rw [hrs] at hr'
      rcases List.mem_append.1 hr' with x | x
      · exact ⟨r', x, j, hj, q0, q1⟩
      · rw [List.mem_singleton.1 x] at q0 q1
        simp only at q0 q1
        rw [b2 j (by omega)] at q0 q1
        exact ⟨_, hr0, j, hj, q0, q1⟩
    exact hlone hx (Or.inr this) k hk hne h1
end
end Go.Proofs.Ytknjjjenklfeoaa
