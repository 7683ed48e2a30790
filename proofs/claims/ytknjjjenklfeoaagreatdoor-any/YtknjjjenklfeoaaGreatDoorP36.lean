import Derived.Test.YtknjjjenklfeoaaGreatDoorP35
import Derived.Test.YtknjjjenklfeoaaGreatDoorP23
import Derived.Test.YtknjjjenklfeoaaGreatDoorP14
import Derived.Test.YtknjjjenklfeoaaGreatDoorP34
/-
  The program's list as a cluster.
-/
namespace Go.Proofs.YtknjjjenklfeoaaGreatDoor
open Go.RowKit

attribute [local go_sem ↓] loadVar_clus storeVar_clus zeroValue_clus loadVar_tab storeVar_tab zeroValue_tab loadVar_cnt storeVar_cnt zeroValue_cnt loadVar_head storeVar_head zeroValue_head build_head buildSlice_clus loadVar_wr storeVar_wr zeroValue_wr build_wr buildSlice_wr equalIn_clus loadVar_place storeVar_place zeroValue_place build_place loadVar_lst storeVar_lst zeroValue_lst storeVar_ent build_ent
attribute [local go_sem] run_loadClus run_storeClus run_zeroClus run_storeClus_new run_loadClus_new zc_length run_loadTab run_storeTab run_zeroTab run_storeTab_new run_loadTab_new zt_length run_loadCnt run_storeCnt run_zeroCnt run_storeCnt_new run_loadCnt_new zk_length run_loadHead run_storeHead run_zeroHead run_storeHead_new run_bHead HasAt_drew cellsAt_drew HasAt_drewN cellsAt_drewN run_bsClus run_loadWr run_zeroWr run_storeWr run_storeWr_new run_bWr0 run_bsWr run_loadPlace run_storePlace run_zeroPlace run_storePlace_new run_bPlace run_loadLst run_storeLst run_zeroLst run_storeLst_new run_storeEnt run_bEnt
attribute [local go_sem] field_head1 field_head0 Oper.semAt_some
attribute [local go_sem ↓] loadVar_ent zeroValue_ent
attribute [local go_sem] run_loadEnt run_zeroEnt run_storeEnt_new

attribute [local go_sem] field_ent0 field_ent1

def putBytes (c : Clus) (o : Nat) (s : List UInt8) : Clus := c.take o ++ s ++ c.drop (o + s.length)
theorem putBytes_length (c : Clus) (o : Nat) (s : List UInt8) (h : o + s.length ≤ c.length) : (putBytes c o s).length = c.length := by
  simp [putBytes]; omega
theorem putBytes_cells (c : Clus) (o : Nat) (s : List UInt8) (h : o + s.length ≤ c.length) : setList (cv c).toArray o (cv s) = (cv (putBytes c o s)).toArray := by
  have e : c = c.take o ++ (c.drop o).take s.length ++ c.drop (o + s.length) := by
    rw [List.append_assoc, ← List.drop_drop, List.take_append_drop, List.take_append_drop]
  have h2 := setList_mid (cv (c.take o)) (cv ((c.drop o).take s.length)) (cv s) (cv (c.drop (o + s.length))) (by simp [cv_length]; omega)
  rw [← cv_append, ← cv_append, ← cv_append, ← cv_append, ← e, cv_length, List.length_take, Nat.min_eq_left (by omega)] at h2
  exact h2
theorem byteAt_putBytes (c : Clus) (o : Nat) (s : List UInt8) (h : o + s.length ≤ c.length) (i : Nat) : byteAt (putBytes c o s) i = if o ≤ i ∧ i < o + s.length then byteAt s (i - o) else byteAt c i := by
  have hl : (c.take o).length = o := by rw [List.length_take]; omega
  unfold byteAt putBytes
  simp only [List.getD_eq_getElem?_getD]
  by_cases h1 : i < o
  · rw [List.append_assoc, List.getElem?_append_left (by omega), if_neg (by omega), List.getElem?_take, if_pos h1]
  · by_cases h2 : i < o + s.length
    · rw [List.append_assoc, List.getElem?_append_right (by omega), hl, List.getElem?_append_left (by omega), if_pos ⟨by omega, h2⟩]
    · rw [List.getElem?_append_right (by rw [List.length_append]; omega), if_neg (by omega), List.getElem?_drop, List.length_append, hl]
      congr 3; omega
theorem byteAt_putN (c : Clus) (k n m : Nat) (hk : k + 1 < c.length) (hn : n < 65536) : byteAt (putNum c k n) m = if m = k then n / 256 else if m = k + 1 then n % 256 else byteAt c m := by
  unfold putNum
  rw [byteAt_set _ _ _ _ (by rw [List.length_set]; exact hk), byteAt_set _ _ _ _ (by omega), toNat_ofNat _ (by omega), toNat_ofNat _ (by omega)]
  by_cases h1 : m = k
  · rw [if_neg (by omega), if_pos h1.symm, if_pos h1]
  · rw [if_neg h1]
    by_cases h2 : m = k + 1
    · rw [if_pos h2.symm, if_pos h2]
    · rw [if_neg (fun e => h2 e.symm), if_neg (fun e => h1 e.symm), if_neg h2]
/-- The list as it stands in the file, up to the k-th entry. -/
def listTo (L : List EntR) : Nat → Clus
  | 0 => zc
  | k + 1 => putNum (putBytes (listTo L k) (16 * k + 2) (L.getD k ze).name) (16 * k) (L.getD k ze).first
def Short (L : List EntR) : Prop := ∀ k, (L.getD k ze).name.length ≤ 12 ∧ (L.getD k ze).first < 65536
theorem listTo_length {L : List EntR} (h : Short L) : ∀ k, k ≤ 4 → (listTo L k).length = 64
  | 0, _ => zc_length
  | k + 1, hk => by
    have h1 := listTo_length h k (by omega)
    have h2 := (h k).1
    rw [listTo, putNum_length, putBytes_length _ _ _ (by omega), h1]
theorem byteAt_zc (i : Nat) : byteAt zc i = 0 := by
  unfold byteAt zc
  rw [List.getD_eq_getElem?_getD, List.getElem?_replicate]
  split <;> rfl
theorem byteAt_name (e : EntR) (he : e.first < 65536) (j : Nat) : byteAt (entBytes e) j = if j = 0 then e.first / 256 else if j = 1 then e.first % 256 else byteAt e.name (j - 2) := by
  match j with
  | 0 => simp only [if_true]; unfold byteAt entBytes; simp only [List.getD_cons_zero]; exact toNat_ofNat _ (by omega)
  | 1 => simp only [if_true]; rw [if_neg (by decide)]; unfold byteAt entBytes; simp only [List.getD_cons_succ, List.getD_cons_zero]; exact toNat_ofNat _ (by omega)
  | k + 2 => rw [if_neg (by omega), if_neg (by omega)]; unfold byteAt; rw [entBytes_name]; rfl
theorem byteAt_listTo {L : List EntR} (h : Short L) : ∀ k, k ≤ 4 → ∀ i j, j < 16 → byteAt (listTo L k) (16 * i + j) = if i < k then byteAt (entBytes (L.getD i ze)) j else 0
  | 0, _, i, j, _ => by rw [if_neg (by omega)]; exact byteAt_zc _
  | k + 1, hk, i, j, hj => by
    have h1 := listTo_length h k (by omega)
    obtain ⟨h2, h3⟩ := h k
    have ih := byteAt_listTo h k (by omega) i j hj
    have hz : ∀ m, 12 ≤ m → byteAt (L.getD k ze).name m = 0 := fun m hm => by
      unfold byteAt
      rw [List.getD_eq_getElem?_getD, List.getElem?_eq_none (by omega)]; rfl
    rw [listTo, byteAt_putN _ _ _ _ (by rw [putBytes_length _ _ _ (by omega), h1]; omega) h3, byteAt_putBytes _ _ _ (by omega), ih]
    by_cases e : i = k
    · subst e
      rw [if_pos (show i < i + 1 by omega), byteAt_name _ h3]
      by_cases j0 : j = 0
      · rw [if_pos (by omega), if_pos j0]
      · by_cases j1 : j = 1
        · rw [if_neg (by omega), if_pos (by omega), if_neg j0, if_pos j1]
        · rw [if_neg (by omega), if_neg (by omega), if_neg j0, if_neg j1]
          by_cases jl : j < 2 + (L.getD i ze).name.length
          · rw [if_pos ⟨by omega, by omega⟩]; congr 1; omega
          · rw [if_neg (by omega), if_neg (by omega)]
            unfold byteAt
            rw [List.getD_eq_getElem?_getD, List.getElem?_eq_none (by omega)]; rfl
    · rw [if_neg (by omega), if_neg (by omega), if_neg (by omega)]
      by_cases hik : i < k
      · rw [if_pos hik, if_pos (by omega)]
      · rw [if_neg hik, if_neg (by omega)]
theorem bytes_ext {a b : Clus} (hl : a.length = b.length) (h : ∀ i, i < a.length → byteAt a i = byteAt b i) : a = b := by
  apply List.ext_getElem hl
  intro i h1 h2
  have := h i h1
  unfold byteAt at this
  rw [List.getD_eq_getElem?_getD, List.getD_eq_getElem?_getD, List.getElem?_eq_getElem h1, List.getElem?_eq_getElem h2] at this
  exact UInt8.toNat_inj.1 this
theorem EntsOK.short4 {E : List EntR} (h : EntsOK E) : Short (pad4 E) := fun k => by
  refine ⟨?_, h.lt k⟩
  rcases h.at k with e | ⟨_, e⟩
  · rw [e]; decide
  · exact e.le
theorem EntsOK.clus {E : List EntR} (h : EntsOK E) : listTo (pad4 E) 4 = listBytes E := by
  refine bytes_ext (by rw [listTo_length h.short4 4 (by omega), h.length]) fun i hi => ?_
  rw [listTo_length h.short4 4 (by omega)] at hi
  have h1 := byteAt_listTo h.short4 4 (by omega) (i / 16) (i % 16) (by omega)
  rw [show 16 * (i / 16) + i % 16 = i by omega, if_pos (by omega)] at h1
  rw [h1]
  have h2 := h.get (i / 16) (by omega) (i % 16) (by omega)
  rw [show 16 * (i / 16) + i % 16 = i by omega] at h2
  unfold byteAt
  rw [h2]

theorem run_copy_name (w : World) (b o m : Nat) (t : TypeId) (c : Clus) (hc : c.length = 64) (hb : w.heap[b]? = some (.cells (cv c).toArray t (0, 0))) (s : List UInt8) (hs : s.length ≤ 12) (ho : o + 12 ≤ 64) :
    (Builtin.copy_ #[73, 9] 3 #[.slice (some ⟨b, o, none⟩) 12 m, .string (txt s)]).run Tryz.prog w = .ok (.int .i64 (s.length : Nat)) (w.setCells b o (cv s)) := by
  have hz : (txt s).size = s.length := by simp [txt, ByteArray.size]
  have h := run_copy_string (P := Tryz.prog) w 73 9 3 5 b o 12 m (txt s) Tryz.underlying73
    (run_sizeOf Tryz.sizeByte) (by rw [hz]; exact hs) (fun j hj => by rw [cell_blk hb, List.getElem?_toArray, cv_get _ _ (by rw [hc]; omega)]; rfl) (fun j _ => frozen_blk hb _)
  rw [h, hz]; rfl

set_option maxHeartbeats 2000000 in
set_option maxRecDepth 100000 in
theorem listCluster_any (w : World) (L : List EntR) (hL : L.length = 4) (hs : Short L) :
    Calls Tryz.prog 148 #[.agg (lv L).toArray] w fun e w' => e = .returned (.agg (cv (listTo L 4)).toArray) ∧ Below w.heap.size w w' := by
  have L0 := hide (Locs.three w (.cells (lv L).toArray 144) (.cells (cv zc).toArray 38) (.cells (cv zc).toArray 38))
  have l1 := blk_has (unhide L0).o0 (n := 8) (by rw [lv_length, hL])
  have l2 := blk_cells (unhide L0).o0 (n := 8) (by rw [lv_length, hL])
  go_enter Tryz.func148, Tryz.ntmps148
  go_wp2
  clear l1 l2
  go_loopw [4, 5, 6, 8] (fun _ _ _ i w' => ∃ k : Nat, k ≤ 4 ∧ i = .int .i64 k ∧ Locs w w' [.cells (lv L).toArray 144, .cells (cv zc).toArray 38, .cells (cv (listTo L k)).toArray 38]) (fun _ _ _ i _ => 4 - (intOf i).toNat)
  case atStart => exact ⟨0, by omega, rfl, unhide L0⟩
  case round =>
    obtain ⟨k, hk, rfl, hLo⟩ := hrel
    clear L0
    by_cases hlt : k < 4
    · rcases (show k = 0 ∨ k = 1 ∨ k = 2 ∨ k = 3 by omega) with rfl | rfl | rfl | rfl
      · have hll := listTo_length hs 0 (by omega)
        obtain ⟨hn12, hf⟩ := hs 0
        have hix : (Instr.index 144 (.agg (lv L).toArray) (.int .i64 0)).run Tryz.prog wr = .ok (.agg (ev (L.getD 0 ze)).toArray) wr := run_index_lst wr L hL 0 (by omega)
        have HE : Hid (listTo L 1 = putNum (putBytes (listTo L 0) 2 (L.getD 0 ze).name) 0 (L.getD 0 ze).first) := rfl
        generalize L.getD 0 ze = ent at *
        have hset := putBytes_cells (listTo L 0) 2 ent.name (by omega)
        have hpl := putBytes_length (listTo L 0) 2 ent.name (by omega)
        have La := hLo.alloc (.cells (ev ent).toArray 142)
        have b1 : (wr.alloc (.cells (ev ent).toArray 142)).drew.heap[wr.heap.size]? = some (.cells (ev ent).toArray 142 (0, 0)) := heap_alloc_new _ _
        have c1 : (wr.alloc (.cells (ev ent).toArray 142)).drew.cell? ⟨wr.heap.size, 0, none⟩ = some (.string (txt ent.name)) := (cell_blk b1 0).trans rfl
        have hcp := run_copy_name _ _ 2 62 _ _ hll La.drew.o2 ent.name hn12 (by omega)
        have L1 := La.drew.setCells 2 rfl 2 (cv ent.name)
        rw [hset] at L1
        simp only [List.set_cons_succ, List.set_cons_zero] at L1
        have hne : wr.heap.size ≠ w.heap.size + 1 + 1 := by have := hLo.lt (i := 2) rfl; omega
        have b2 : ((wr.alloc (.cells (ev ent).toArray 142)).drew.setCells (w.heap.size + 1 + 1) 2 (cv ent.name)).heap[wr.heap.size]? = some (.cells (ev ent).toArray 142 (0, 0)) := (Kept.onlys _ (w.heap.size + 1 + 1) 2 (cv ent.name)).blk hne b1
        have c2 : ((wr.alloc (.cells (ev ent).toArray 142)).drew.setCells (w.heap.size + 1 + 1) 2 (cv ent.name)).cell? ⟨wr.heap.size, 1, none⟩ = some (.int .i64 (ent.first : Nat)) := (cell_blk b2 1).trans rfl
        have L1 := hide L1
        clear La hLo b1 b2
        generalize hW1 : (wr.alloc (.cells (ev ent).toArray 142)).drew.setCells (w.heap.size + 1 + 1) 2 (cv ent.name) = W1 at *
        have Hp := hide (putNumber_any W1 _ _ _ (unhide L1).o2 (hpl.trans hll) 0 ent.first (by omega) hf)
        have ew : IntKind.u16.wrap (ent.first : Int) = ent.first := wraps_u16 _ (by omega) (by omega)
        have HE2 : Hid (txt ent.name = txt ent.name) := rfl
        go_wp2
        go_region
        go_wp2_with fail
        refine (unhide Hp).mono ?_
        rintro e w2 ⟨rfl, hb2, hk2⟩
        have L2 := (unhide L1).put 2 _ hk2 hb2
        simp only [List.set_cons_succ, List.set_cons_zero] at L2
        rw [← unhide HE] at L2
        have L2 := hide L2
        clear L1 Hp hb2 hk2 hcp c1 c2 hix hW1
        go_wp2
        go_roundw
        case rel => exact ⟨1, by omega, by go_num, unhide L2⟩
        case measure => simp [intOf]
      · have hll := listTo_length hs 1 (by omega)
        obtain ⟨hn12, hf⟩ := hs 1
        have hix : (Instr.index 144 (.agg (lv L).toArray) (.int .i64 1)).run Tryz.prog wr = .ok (.agg (ev (L.getD 1 ze)).toArray) wr := run_index_lst wr L hL 1 (by omega)
        have HE : Hid (listTo L 2 = putNum (putBytes (listTo L 1) 18 (L.getD 1 ze).name) 16 (L.getD 1 ze).first) := rfl
        generalize L.getD 1 ze = ent at *
        have hset := putBytes_cells (listTo L 1) 18 ent.name (by omega)
        have hpl := putBytes_length (listTo L 1) 18 ent.name (by omega)
        have La := hLo.alloc (.cells (ev ent).toArray 142)
        have b1 : (wr.alloc (.cells (ev ent).toArray 142)).drew.heap[wr.heap.size]? = some (.cells (ev ent).toArray 142 (0, 0)) := heap_alloc_new _ _
        have c1 : (wr.alloc (.cells (ev ent).toArray 142)).drew.cell? ⟨wr.heap.size, 0, none⟩ = some (.string (txt ent.name)) := (cell_blk b1 0).trans rfl
        have hcp := run_copy_name _ _ 18 46 _ _ hll La.drew.o2 ent.name hn12 (by omega)
        have L1 := La.drew.setCells 2 rfl 18 (cv ent.name)
        rw [hset] at L1
        simp only [List.set_cons_succ, List.set_cons_zero] at L1
        have hne : wr.heap.size ≠ w.heap.size + 1 + 1 := by have := hLo.lt (i := 2) rfl; omega
        have b2 : ((wr.alloc (.cells (ev ent).toArray 142)).drew.setCells (w.heap.size + 1 + 1) 18 (cv ent.name)).heap[wr.heap.size]? = some (.cells (ev ent).toArray 142 (0, 0)) := (Kept.onlys _ (w.heap.size + 1 + 1) 18 (cv ent.name)).blk hne b1
        have c2 : ((wr.alloc (.cells (ev ent).toArray 142)).drew.setCells (w.heap.size + 1 + 1) 18 (cv ent.name)).cell? ⟨wr.heap.size, 1, none⟩ = some (.int .i64 (ent.first : Nat)) := (cell_blk b2 1).trans rfl
        have L1 := hide L1
        clear La hLo b1 b2
        generalize hW1 : (wr.alloc (.cells (ev ent).toArray 142)).drew.setCells (w.heap.size + 1 + 1) 18 (cv ent.name) = W1 at *
        have Hp := hide (putNumber_any W1 _ _ _ (unhide L1).o2 (hpl.trans hll) 16 ent.first (by omega) hf)
        have ew : IntKind.u16.wrap (ent.first : Int) = ent.first := wraps_u16 _ (by omega) (by omega)
        have HE2 : Hid (txt ent.name = txt ent.name) := rfl
        go_wp2
        go_region
        go_wp2_with fail
        refine (unhide Hp).mono ?_
        rintro e w2 ⟨rfl, hb2, hk2⟩
        have L2 := (unhide L1).put 2 _ hk2 hb2
        simp only [List.set_cons_succ, List.set_cons_zero] at L2
        rw [← unhide HE] at L2
        have L2 := hide L2
        clear L1 Hp hb2 hk2 hcp c1 c2 hix hW1
        go_wp2
        go_roundw
        case rel => exact ⟨2, by omega, by go_num, unhide L2⟩
        case measure => simp [intOf]
      · have hll := listTo_length hs 2 (by omega)
        obtain ⟨hn12, hf⟩ := hs 2
        have hix : (Instr.index 144 (.agg (lv L).toArray) (.int .i64 2)).run Tryz.prog wr = .ok (.agg (ev (L.getD 2 ze)).toArray) wr := run_index_lst wr L hL 2 (by omega)
        have HE : Hid (listTo L 3 = putNum (putBytes (listTo L 2) 34 (L.getD 2 ze).name) 32 (L.getD 2 ze).first) := rfl
        generalize L.getD 2 ze = ent at *
        have hset := putBytes_cells (listTo L 2) 34 ent.name (by omega)
        have hpl := putBytes_length (listTo L 2) 34 ent.name (by omega)
        have La := hLo.alloc (.cells (ev ent).toArray 142)
        have b1 : (wr.alloc (.cells (ev ent).toArray 142)).drew.heap[wr.heap.size]? = some (.cells (ev ent).toArray 142 (0, 0)) := heap_alloc_new _ _
        have c1 : (wr.alloc (.cells (ev ent).toArray 142)).drew.cell? ⟨wr.heap.size, 0, none⟩ = some (.string (txt ent.name)) := (cell_blk b1 0).trans rfl
        have hcp := run_copy_name _ _ 34 30 _ _ hll La.drew.o2 ent.name hn12 (by omega)
        have L1 := La.drew.setCells 2 rfl 34 (cv ent.name)
        rw [hset] at L1
        simp only [List.set_cons_succ, List.set_cons_zero] at L1
        have hne : wr.heap.size ≠ w.heap.size + 1 + 1 := by have := hLo.lt (i := 2) rfl; omega
        have b2 : ((wr.alloc (.cells (ev ent).toArray 142)).drew.setCells (w.heap.size + 1 + 1) 34 (cv ent.name)).heap[wr.heap.size]? = some (.cells (ev ent).toArray 142 (0, 0)) := (Kept.onlys _ (w.heap.size + 1 + 1) 34 (cv ent.name)).blk hne b1
        have c2 : ((wr.alloc (.cells (ev ent).toArray 142)).drew.setCells (w.heap.size + 1 + 1) 34 (cv ent.name)).cell? ⟨wr.heap.size, 1, none⟩ = some (.int .i64 (ent.first : Nat)) := (cell_blk b2 1).trans rfl
        have L1 := hide L1
        clear La hLo b1 b2
        generalize hW1 : (wr.alloc (.cells (ev ent).toArray 142)).drew.setCells (w.heap.size + 1 + 1) 34 (cv ent.name) = W1 at *
        have Hp := hide (putNumber_any W1 _ _ _ (unhide L1).o2 (hpl.trans hll) 32 ent.first (by omega) hf)
        have ew : IntKind.u16.wrap (ent.first : Int) = ent.first := wraps_u16 _ (by omega) (by omega)
        have HE2 : Hid (txt ent.name = txt ent.name) := rfl
        go_wp2
        go_region
        go_wp2_with fail
        refine (unhide Hp).mono ?_
        rintro e w2 ⟨rfl, hb2, hk2⟩
        have L2 := (unhide L1).put 2 _ hk2 hb2
        simp only [List.set_cons_succ, List.set_cons_zero] at L2
        rw [← unhide HE] at L2
        have L2 := hide L2
        clear L1 Hp hb2 hk2 hcp c1 c2 hix hW1
        go_wp2
        go_roundw
        case rel => exact ⟨3, by omega, by go_num, unhide L2⟩
        case measure => simp [intOf]
      · have hll := listTo_length hs 3 (by omega)
        obtain ⟨hn12, hf⟩ := hs 3
        have hix : (Instr.index 144 (.agg (lv L).toArray) (.int .i64 3)).run Tryz.prog wr = .ok (.agg (ev (L.getD 3 ze)).toArray) wr := run_index_lst wr L hL 3 (by omega)
        have HE : Hid (listTo L 4 = putNum (putBytes (listTo L 3) 50 (L.getD 3 ze).name) 48 (L.getD 3 ze).first) := rfl
        generalize L.getD 3 ze = ent at *
        have hset := putBytes_cells (listTo L 3) 50 ent.name (by omega)
        have hpl := putBytes_length (listTo L 3) 50 ent.name (by omega)
        have La := hLo.alloc (.cells (ev ent).toArray 142)
        have b1 : (wr.alloc (.cells (ev ent).toArray 142)).drew.heap[wr.heap.size]? = some (.cells (ev ent).toArray 142 (0, 0)) := heap_alloc_new _ _
        have c1 : (wr.alloc (.cells (ev ent).toArray 142)).drew.cell? ⟨wr.heap.size, 0, none⟩ = some (.string (txt ent.name)) := (cell_blk b1 0).trans rfl
        have hcp := run_copy_name _ _ 50 14 _ _ hll La.drew.o2 ent.name hn12 (by omega)
        have L1 := La.drew.setCells 2 rfl 50 (cv ent.name)
        rw [hset] at L1
        simp only [List.set_cons_succ, List.set_cons_zero] at L1
        have hne : wr.heap.size ≠ w.heap.size + 1 + 1 := by have := hLo.lt (i := 2) rfl; omega
        have b2 : ((wr.alloc (.cells (ev ent).toArray 142)).drew.setCells (w.heap.size + 1 + 1) 50 (cv ent.name)).heap[wr.heap.size]? = some (.cells (ev ent).toArray 142 (0, 0)) := (Kept.onlys _ (w.heap.size + 1 + 1) 50 (cv ent.name)).blk hne b1
        have c2 : ((wr.alloc (.cells (ev ent).toArray 142)).drew.setCells (w.heap.size + 1 + 1) 50 (cv ent.name)).cell? ⟨wr.heap.size, 1, none⟩ = some (.int .i64 (ent.first : Nat)) := (cell_blk b2 1).trans rfl
        have L1 := hide L1
        clear La hLo b1 b2
        generalize hW1 : (wr.alloc (.cells (ev ent).toArray 142)).drew.setCells (w.heap.size + 1 + 1) 50 (cv ent.name) = W1 at *
        have Hp := hide (putNumber_any W1 _ _ _ (unhide L1).o2 (hpl.trans hll) 48 ent.first (by omega) hf)
        have ew : IntKind.u16.wrap (ent.first : Int) = ent.first := wraps_u16 _ (by omega) (by omega)
        have HE2 : Hid (txt ent.name = txt ent.name) := rfl
        go_wp2
        go_region
        go_wp2_with fail
        refine (unhide Hp).mono ?_
        rintro e w2 ⟨rfl, hb2, hk2⟩
        have L2 := (unhide L1).put 2 _ hk2 hb2
        simp only [List.set_cons_succ, List.set_cons_zero] at L2
        rw [← unhide HE] at L2
        have L2 := hide L2
        clear L1 Hp hb2 hk2 hcp c1 c2 hix hW1
        go_wp2
        go_roundw
        case rel => exact ⟨4, by omega, by go_num, unhide L2⟩
        case measure => simp [intOf]
    · have hk4 : k = 4 := by omega
      subst hk4
      have b1 := hLo.o1
      have b2 := hLo.o2
      have hbl := listTo_length hs 4 (by omega)
      have l1 := box_has b2 hbl
      have l2 := box_cells b2 hbl
      have th := there_blk b1 0 64 (by simp [cv_length, zc_length])
      have hset := hLo.setCells 1 rfl 0 (cv (listTo L 4))
      rw [setList_all _ _ (by simp [cv_length, zc_length, hbl])] at hset
      have o1 := hset.o1
      have l3 := box_has o1 hbl
      have l4 := box_cells o1 hbl
      have HB := hide hset.below
      clear hLo b1 b2 hset o1
      go_wp2
      refine bodyPost_ret (results_cell Tryz.results148 ⟨w.heap.size + 1, 0, none⟩ rfl ?_) rfl ⟨rfl, unhide HB⟩
      rw [loadVar_clus, run_loadClus l3, l4]
end Go.Proofs.YtknjjjenklfeoaaGreatDoor

/-
  Plain: what the program looks at in a list.
-/
namespace Go.Proofs.YtknjjjenklfeoaaGreatDoor
/-- The program's look at the list. -/
def entGood (E : List EntR) (i : Nat) : Bool := isNameB (E.getD i ze).name && decide (findE E (txt (E.getD i ze).name) = (i : Int))
def emptyB (E : List EntR) (i : Nat) : Bool := decide (txt (E.getD i ze).name = txt []) && decide ((E.getD i ze).first = 0)
def allFrom (p : Nat → Bool) : Nat → Nat → Bool
  | 0, _ => true
  | m + 1, k => p k && allFrom p m (k + 1)
theorem allFrom_iff (p : Nat → Bool) : ∀ m k, allFrom p m k = true ↔ ∀ j, k ≤ j → j < k + m → p j = true
  | 0, k => ⟨fun _ j h1 h2 => by omega, fun _ => rfl⟩
  | m + 1, k => by
    rw [allFrom, Bool.and_eq_true, allFrom_iff p m (k + 1)]
    constructor
    · rintro ⟨h1, h2⟩ j h3 h4
      by_cases e : j = k
      · rw [e]; exact h1
      · exact h2 j (by omega) (by omega)
    · intro h
      exact ⟨h k (by omega) (by omega), fun j h1 h2 => h j (by omega) (by omega)⟩
theorem allFrom_snoc (p : Nat → Bool) : ∀ m k, allFrom p (m + 1) k = (allFrom p m k && p (k + m))
  | 0, k => by rw [allFrom, allFrom, allFrom, Bool.and_true, Bool.true_and, Nat.add_zero]
  | m + 1, k => by
    rw [allFrom, allFrom_snoc p m (k + 1), allFrom, Bool.and_assoc, show k + 1 + m = k + (m + 1) by omega]
def listGood (c : Clus) : Bool := decide (listTo (entsOf c) 4 = c) && (allFrom (entGood (entsOf c)) (lenOf (entsOf c)) 0 && allFrom (emptyB (entsOf c)) (4 - lenOf (entsOf c)) (lenOf (entsOf c)))
end Go.Proofs.YtknjjjenklfeoaaGreatDoor

/-
  checkList: is the list as it must be?
-/
namespace Go.Proofs.YtknjjjenklfeoaaGreatDoor
open Go.RowKit
attribute [local go_sem ↓] loadVar_clus storeVar_clus zeroValue_clus loadVar_tab storeVar_tab zeroValue_tab loadVar_cnt storeVar_cnt zeroValue_cnt loadVar_head storeVar_head zeroValue_head build_head buildSlice_clus loadVar_wr storeVar_wr zeroValue_wr build_wr buildSlice_wr equalIn_clus loadVar_place storeVar_place zeroValue_place build_place loadVar_lst storeVar_lst zeroValue_lst storeVar_ent build_ent
attribute [local go_sem] run_loadClus run_storeClus run_zeroClus run_storeClus_new run_loadClus_new zc_length run_loadTab run_storeTab run_zeroTab run_storeTab_new run_loadTab_new zt_length run_loadCnt run_storeCnt run_zeroCnt run_storeCnt_new run_loadCnt_new zk_length run_loadHead run_storeHead run_zeroHead run_storeHead_new run_bHead HasAt_drew cellsAt_drew HasAt_drewN cellsAt_drewN run_bsClus run_loadWr run_zeroWr run_storeWr run_storeWr_new run_bWr0 run_bsWr run_loadPlace run_storePlace run_zeroPlace run_storePlace_new run_bPlace run_loadLst run_storeLst run_zeroLst run_storeLst_new run_storeEnt run_bEnt
attribute [local go_sem] field_head1 field_head0 Oper.semAt_some
attribute [local go_sem ↓] loadVar_ent zeroValue_ent
attribute [local go_sem] run_loadEnt run_zeroEnt run_storeEnt_new

attribute [local go_sem ↓] equalIn_clus
def eqEnt (x y : Value) : Sem Bool := Op.equalIn 10000 142 x y
theorem equalIn_ent (x y : Value) : Op.equalIn 10000 142 x y = eqEnt x y := rfl
theorem part_ent0 (p : EntR) (w : World) : (part 9 (ev p).toArray 0).run Tryz.prog w = .ok (.string (txt p.name)) w := by
  have ha : (isAgg 9).run Tryz.prog w = .ok false w := by unfold isAgg; rw [Sem.run_bind, run_underlying Tryz.underlying9 w]; rfl
  unfold part
  rw [Sem.run_bind, ha]
  rfl
theorem part_ent1 (p : EntR) (w : World) : (part 3 (ev p).toArray 1).run Tryz.prog w = .ok (.int .i64 (p.first : Nat)) w := by
  have ha : (isAgg 3).run Tryz.prog w = .ok false w := by unfold isAgg; rw [Sem.run_bind, run_underlying Tryz.underlying3 w]; rfl
  unfold part
  rw [Sem.run_bind, ha]
  rfl
theorem run_eqEnt (p : EntR) (w : World) : (eqEnt (.agg (ev p).toArray) (.agg (ev ze).toArray)).run Tryz.prog w = .ok (decide (p.name = []) && decide (p.first = 0)) w := by
  have hs : Tryz.prog.stoodInHeld 142 = false := by kernel_rfl
  have h0 : (Op.equalIn 9999 9 (.string (txt p.name)) (.string (txt ze.name))).run Tryz.prog w = .ok ((txt p.name).toList == (txt ze.name).toList) w := run_equalIn_string (P := Tryz.prog) w 9998 9 (txt p.name) (txt ze.name) Tryz.underlying9
  rw [txt_toList, txt_toList] at h0
  have h1 : (Op.equalIn 9999 3 (.int .i64 (p.first : Nat)) (.int .i64 (ze.first : Nat))).run Tryz.prog w = .ok (((p.first : Nat) : Int) == ((ze.first : Nat) : Int)) w := run_equalIn_int (P := Tryz.prog) (w := w) 9998 3 .i64 _ _ _ Tryz.underlying3
  show (Op.equalIn (9999 + 1) 142 _ _).run Tryz.prog w = _
  rw [Op.equalIn]
  simp only [Sem.run_bind, run_underlying Tryz.underlying142, Result.andThen_ok, run_program, hs, Bool.false_eq_true, if_false]
  rw [← Array.forIn_toList]
  by_cases e : p.name = []
  · have e' : (p.name == ze.name) = true := by rw [e]; rfl
    rw [e'] at h0
    rw [decide_eq_true e, Bool.true_and]
    by_cases e2 : p.first = 0
    · have e3 : (((p.first : Nat) : Int) == ((ze.first : Nat) : Int)) = true := by rw [e2]; rfl
      rw [e3] at h1
      rw [decide_eq_true e2]
      simp only [List.forIn_cons, List.forIn_nil, Sem.run_bind, part_ent0, part_ent1, Result.andThen_ok, h0, h1, ne_eq, String.reduceEq, not_false_eq_true, if_true, Bool.not_true, Bool.false_eq_true, if_false, Sem.run_pure]
    · have e3 : (((p.first : Nat) : Int) == ((ze.first : Nat) : Int)) = false := by
        rw [beq_eq_false_iff_ne]
        show ((p.first : Nat) : Int) ≠ ((0 : Nat) : Int)
        omega
      rw [e3] at h1
      rw [decide_eq_false e2]
      simp only [List.forIn_cons, List.forIn_nil, Sem.run_bind, part_ent0, part_ent1, Result.andThen_ok, h0, h1, ne_eq, String.reduceEq, not_false_eq_true, if_true, Bool.not_true, Bool.not_false, Bool.false_eq_true, if_false, Sem.run_pure]
  · have e' : (p.name == ze.name) = false := by
      rw [beq_eq_false_iff_ne]; exact e
    rw [e'] at h0
    rw [decide_eq_false e, Bool.false_and]
    simp only [List.forIn_cons, List.forIn_nil, Sem.run_bind, part_ent0, Result.andThen_ok, h0, ne_eq, String.reduceEq, not_false_eq_true, if_true, Bool.not_false, Sem.run_pure]
attribute [local go_sem ↓] equalIn_ent
attribute [local go_sem] run_bEnt0
theorem ents_short {c : Clus} (hc : c.length = 64) : Short (entsOf c) := fun k => by
  rw [List.getD_eq_getElem?_getD]
  by_cases hk : k < 4
  · unfold entsOf
    rw [List.getElem?_map, List.getElem?_range hk]
    refine ⟨?_, num_lt _ _⟩
    show ((nameBytes c k).take (cutLen (nameBytes c k))).length ≤ 12
    have := nameBytes_length c k hc hk
    rw [List.length_take]
    omega
  · rw [List.getElem?_eq_none (by rw [entsOf_length]; omega)]
    exact ⟨by decide, by decide⟩
set_option maxHeartbeats 4000000 in
set_option maxRecDepth 100000 in
theorem checkList_any (w : World) (v : Nat) (Cv Lv : Value) (V : VolR) (h : VolAt w v Cv Lv V) (hG : Glob w) (h5 : 5 < V.C.length) :
    Calls Tryz.prog 93 #[.pointer (some ⟨v, 0, none⟩)] w fun e w' => ((listGood (cl V.C 5) = true ∧ e = .returned .nilIface) ∨ (listGood (cl V.C 5) = false ∧ ∃ x, isIface x ∧ e = .returned (faultV 5 x))) ∧ Below w.heap.size w w' := by
  have hc := cl_length h.lenC h5
  have hel := entsOf_length (cl V.C 5)
  have hsh := ents_short hc
  have Hli := hide (list_vol w v Cv Lv V h h5)
  have Hat := hide (fun W (hb : Below w.heap.size w W) => at_any W v Cv Lv V (h.below hb) 5 h5)
  have Hcl := hide (fun W => listCluster_any W (entsOf (cl V.C 5)) hel hsh)
  have HGd : Hid (listGood (cl V.C 5) = (decide (listTo (entsOf (cl V.C 5)) 4 = cl V.C 5) && (allFrom (entGood (entsOf (cl V.C 5))) (lenOf (entsOf (cl V.C 5))) 0 && allFrom (emptyB (entsOf (cl V.C 5))) (4 - lenOf (entsOf (cl V.C 5))) (lenOf (entsOf (cl V.C 5)))))) := rfl
  have hll : (listTo (entsOf (cl V.C 5)) 4).length = 64 := listTo_length hsh 4 (by omega)
  have HG := hide hG
  clear h hG
  generalize listGood (cl V.C 5) = GG at *
  generalize cl V.C 5 = c at *
  generalize entsOf c = E at *
  generalize listTo E 4 = cc at *
  go_enter Tryz.func93, Tryz.ntmps93
  go_wp2_with fail
  refine (unhide Hli).mono ?_
  rintro e w1 ⟨rfl, hb1⟩
  have HB1 := hide (hb1.alloc hb1.size (.cells (lv E).toArray 144))
  have HX := hide (heap_alloc_new w1 (.cells (lv E).toArray 144))
  have zll : zl.length = 4 := rfl
  clear hb1 Hli
  go_wp2_with fail
  generalize hW2 : w1.alloc (.cells (lv E).toArray 144) = w2 at *
  clear hW2
  have hx0 : ∀ d os, (Go.Sort.grow (redrawn w2 d) os).heap[w1.heap.size]? = some (.cells (lv E).toArray 144 (0, 0)) := fun d os => ((below_regrown w2 d os).block _ (blk_lt (unhide HX))).trans (unhide HX)
  have k1 : ∀ d os, HasAt (Go.Sort.grow (redrawn w2 d) os) w1.heap.size 0 8 := fun d os => blk_has (hx0 d os) (by rw [lv_length, hel])
  have k2 : ∀ d os, cellsAt (Go.Sort.grow (redrawn w2 d) os) w1.heap.size 0 8 = lv E := fun d os => blk_cells (hx0 d os) (by rw [lv_length, hel])
  have Hn1 := hide (fun d os => unhide Hcl (Go.Sort.grow (redrawn w2 d) os))
  have Hn2 := hide (fun d os => unhide Hat (Go.Sort.grow (redrawn w2 d) os) ((unhide HB1).trans ((below_regrown w2 d os).mono (unhide HB1).size)))
  clear hx0 Hcl Hat
  by_cases hne : cc = c
  rotate_left
  · have he : ∀ w, (eqClus (.agg (cv cc).toArray) (.agg (cv c).toArray)).run Tryz.prog w = .ok false w := fun w => by rw [run_eqClus hll hc, decide_eq_false hne]
    have hg : GG = false := by rw [unhide HGd, decide_eq_false hne]; rfl
    have Hg := hide hg
    clear hg HGd hne
    refine wp_region_quiet_below (by kernel_rfl) (by kernel_rfl) ?_
    repeat (go_big_quiet_step (first | exact Calls.regrown_of (unhide Hn1 _ _) | exact Calls.regrown_of (unhide Hn2 _ _)))
    refine wpQuiet_nil ?_
    intro _ hw'
    obtain ⟨⟨dq, osq⟩, hw''⟩ := hw'
    subst hw''
    have HBq := hide ((unhide HB1).trans ((below_regrown w2 dq osq).mono (unhide HB1).size))
    obtain ⟨t2, v2, g2⟩ := ((unhide HG).below (unhide HBq)).err 2 (by omega)
    clear k1 k2 he
    go_wp2
    go_ret
    exact ⟨Or.inr ⟨unhide Hg, _, ⟨_, _, rfl⟩, rfl⟩, unhide HBq⟩
  subst hne
  rw [decide_eq_true rfl, Bool.true_and] at HGd
  have he : ∀ w, (eqClus (.agg (cv cc).toArray) (.agg (cv cc).toArray)).run Tryz.prog w = .ok true w := fun w => by rw [run_eqClus hll hc, decide_eq_true rfl]
  refine wp_region_quiet_below (by kernel_rfl) (by kernel_rfl) ?_
  repeat (go_big_quiet_step (first | exact Calls.regrown_of (unhide Hn1 _ _) | exact Calls.regrown_of (unhide Hn2 _ _)))
  refine wpQuiet_nil ?_
  intro _ hw'
  obtain ⟨⟨dq, osq⟩, hw''⟩ := hw'
  subst hw''
  have HBq := hide ((unhide HB1).trans ((below_regrown w2 dq osq).mono (unhide HB1).size))
  have HXq := hide (((below_regrown w2 dq osq).block _ (blk_lt (unhide HX))).trans (unhide HX))
  have q1 := k1 dq osq
  have q2 := k2 dq osq
  clear k1 k2 he Hn1 Hn2 HX HB1 hc hll
  generalize Go.Sort.grow (redrawn w2 dq) osq = w3 at *
  have Hle := hide (len_any w3 E hel)
  have hl4 := lenOf_le E
  go_wp2_with fail
  refine (unhide Hle).mono ?_
  rintro e w4 ⟨rfl, hb4⟩
  have HB4 := hide ((unhide HBq).trans (hb4.mono (unhide HBq).size))
  have HX4 := hide ((hb4.block _ (blk_lt (unhide HXq))).trans (unhide HXq))
  clear hb4 Hle HBq HXq q1 q2
  generalize hL0 : lenOf E = L0 at *
  have hli : (L0 : Int) ≤ 4 := by omega
  go_wp2
  go_loopw [5, 6, 26] (fun _ _ i wr => ∃ k : Nat, k ≤ L0 ∧ i = .int .i64 k ∧ Below w.heap.size w wr ∧ wr.heap[w1.heap.size]? = some (.cells (lv E).toArray 144 (0, 0)) ∧ allFrom (entGood E) k 0 = true) (fun _ _ i _ => L0 - (intOf i).toNat)
  case atStart => exact ⟨0, by omega, rfl, unhide HB4, unhide HX4, rfl⟩
  case round =>
    obtain ⟨k, hk, rfl, hB, hX, hA⟩ := hrel
    by_cases hlt : k < L0
    · have hki : (k : Int) < (L0 : Int) := by omega
      have hkE : k < E.length := by omega
      have l1 := hasAt_of_range (n := 2) (ent_range hX k hkE) rfl
      have l2 := cellsAt_of_range (n := 2) (ent_range hX k hkE) rfl
      have hgd : entGood E k = (isNameB (E.getD k ze).name && decide (findE E (txt (E.getD k ze).name) = (k : Int))) := rfl
      have hpl := (hsh k).1
      generalize E.getD k ze = p at *
      have HBa := hide (hB.alloc hB.size (.cells (ev p).toArray 142))
      have HXa := hide ((Below.heap_alloc wr (.cells (ev p).toArray 142) _ (blk_lt hX)).trans hX)
      have c5 : (wr.alloc (.cells (ev p).toArray 142)).cell? ⟨wr.heap.size, 0, none⟩ = some (.string (txt p.name)) := (cell_new wr _ _ _ 0).trans rfl
      have HA := hide hA
      have Hnm := hide (fun W => pIsName_any (txt p.name) W (by rw [show (txt p.name).size = p.name.length by simp [txt, ByteArray.size]]; exact Nat.le_trans hpl (by decide)))
      rw [show (txt p.name).data.toList = p.name from rfl] at Hnm
      have Hfi := hide (fun W => find_any W E hel (txt p.name))
      have hsn := allFrom_snoc (entGood E) k 0
      rw [hA, Bool.true_and, Nat.zero_add] at hsn
      clear hA hB hX HB4 HX4 HA
      by_cases hnb : isNameB p.name = true
      · rw [hnb] at Hnm
        have q1 : ∀ W, Below w.heap.size w W → W.heap[w1.heap.size]? = some (.cells (lv E).toArray 144 (0, 0)) → HasAt W w1.heap.size 0 8 := fun W _ hx => blk_has hx (by rw [lv_length, hel])
        by_cases hfk : findE E (txt p.name) = (k : Int)
        · rw [hfk] at Hfi
          have hg1 : allFrom (entGood E) (k + 1) 0 = true := by rw [hsn, hgd, hnb, decide_eq_true hfk]; rfl
          have Hg1 := hide hg1
          clear hg1 hsn hgd hnb hfk q1
          go_wp2_with fail
          refine (unhide Hnm _).mono ?_
          rintro e w5 ⟨rfl, hb5⟩
          have HB5 := hide ((unhide HBa).trans (hb5.mono (unhide HBa).size))
          have HX5 := hide ((hb5.block _ (blk_lt (unhide HXa))).trans (unhide HXa))
          have d5 : w5.cell? ⟨wr.heap.size, 0, none⟩ = some (.string (txt p.name)) := (hb5.cell (by simp)).trans c5
          have q1 := blk_has (unhide HX5) (n := 8) (by rw [lv_length, hel])
          have q2 := blk_cells (unhide HX5) (n := 8) (by rw [lv_length, hel])
          clear hb5 c5 l1 l2 HBa HXa Hnm
          go_wp2_with fail
          refine (unhide Hfi _).mono ?_
          rintro e w6 ⟨rfl, hb6⟩
          have HB6 := hide ((unhide HB5).trans (hb6.mono (unhide HB5).size))
          have HX6 := hide ((hb6.block _ (blk_lt (unhide HX5))).trans (unhide HX5))
          clear hb6 d5 q1 q2 HB5 HX5 Hfi
          go_wp2
          go_roundw
          case rel => exact ⟨k + 1, by omega, by go_num, unhide HB6, unhide HX6, unhide Hg1⟩
          case measure => simp [intOf]; omega
        · have hgF : GG = false := by
            rw [unhide HGd]
            have : allFrom (entGood E) L0 0 = false := by
              rw [Bool.eq_false_iff]
              intro ht
              have := (allFrom_iff _ _ _).1 ht k (Nat.zero_le _) (by omega)
              rw [hgd, decide_eq_false hfk, Bool.and_false] at this
              cases this
            rw [this]; rfl
          have Hg := hide hgF
          have d0 : (findE E (txt p.name) != (k : Int)) = true := by rw [bne_iff_ne]; exact hfk
          generalize findE E (txt p.name) = fk at *
          clear hgF hsn hgd hnb hfk q1 HGd
          go_wp2_with fail
          refine (unhide Hnm _).mono ?_
          rintro e w5 ⟨rfl, hb5⟩
          have HB5 := hide ((unhide HBa).trans (hb5.mono (unhide HBa).size))
          have HX5 := hide ((hb5.block _ (blk_lt (unhide HXa))).trans (unhide HXa))
          have d5 : w5.cell? ⟨wr.heap.size, 0, none⟩ = some (.string (txt p.name)) := (hb5.cell (by simp)).trans c5
          have q1 := blk_has (unhide HX5) (n := 8) (by rw [lv_length, hel])
          have q2 := blk_cells (unhide HX5) (n := 8) (by rw [lv_length, hel])
          clear hb5 c5 l1 l2 HBa HXa Hnm
          go_wp2_with fail
          refine (unhide Hfi _).mono ?_
          rintro e w6 ⟨rfl, hb6⟩
          have HB6 := hide ((unhide HB5).trans (hb6.mono (unhide HB5).size))
          obtain ⟨t2, v2, g2⟩ := ((unhide HG).below (unhide HB6)).err 2 (by omega)
          clear hb6 d5 q1 q2 HB5 HX5 Hfi
          go_wp2
          go_ret
          exact ⟨Or.inr ⟨unhide Hg, _, ⟨_, _, rfl⟩, rfl⟩, unhide HB6⟩
      · have hnb : isNameB p.name = false := by simpa using hnb
        rw [hnb] at Hnm
        have hgF : GG = false := by
          rw [unhide HGd]
          have : allFrom (entGood E) L0 0 = false := by
            rw [Bool.eq_false_iff]
            intro ht
            have := (allFrom_iff _ _ _).1 ht k (Nat.zero_le _) (by omega)
            rw [hgd, hnb, Bool.false_and] at this
            cases this
          rw [this]; rfl
        have Hg := hide hgF
        clear hgF hsn hgd hnb HGd Hfi
        go_wp2_with fail
        refine (unhide Hnm _).mono ?_
        rintro e w5 ⟨rfl, hb5⟩
        have HB5 := hide ((unhide HBa).trans (hb5.mono (unhide HBa).size))
        obtain ⟨t2, v2, g2⟩ := ((unhide HG).below (unhide HB5)).err 2 (by omega)
        clear hb5 c5 l1 l2 HBa HXa Hnm
        go_wp2
        go_ret
        exact ⟨Or.inr ⟨unhide Hg, _, ⟨_, _, rfl⟩, rfl⟩, unhide HB5⟩
    · have hkL : k = L0 := by omega
      subst hkL
      rw [hA, Bool.true_and] at HGd
      have HB := hide hB
      have HX := hide hX
      clear hA hB hX HB4 HX4
      by_cases hk4 : k = 4
      · subst hk4
        rw [Nat.sub_self, allFrom] at HGd
        go_wp2
        go_loopw [8, 50] (fun _ i wr => i = .int .i64 0 ∧ Below w.heap.size w wr) (fun _ _ _ => 0)
        case atStart => exact ⟨rfl, unhide HB⟩
        case round =>
          obtain ⟨rfl, hB⟩ := hrel
          have HBl := hide hB
          clear hB
          go_wp2
          go_ret
          exact ⟨Or.inl ⟨unhide HGd, rfl⟩, unhide HBl⟩
      have hk3 : k < 4 := by omega
      have hk5 : ¬ 4 - k = 0 := by omega
      go_wp2
      go_loopw [8, 50] (fun _ i wr => ∃ j : Nat, j ≤ 4 - k ∧ i = .int .i64 j ∧ Below w.heap.size w wr ∧ wr.heap[w1.heap.size]? = some (.cells (lv E).toArray 144 (0, 0)) ∧ allFrom (emptyB E) j k = true) (fun _ i _ => 4 - k - (intOf i).toNat)
      case atStart => exact ⟨0, by omega, rfl, unhide HB, unhide HX, rfl⟩
      case round =>
        obtain ⟨j, hj, rfl, hB, hX, hA⟩ := hrel
        by_cases hjl : j < 4 - k
        · have hji : (j : Int) < ((4 - k : Nat) : Int) := by omega
          have hjE : k + j < E.length := by omega
          have l1 := hasAt_of_range (n := 2) (ent_range hX (k + j) hjE) rfl
          have l2 := cellsAt_of_range (n := 2) (ent_range hX (k + j) hjE) rfl
          rw [Nat.add_mul] at l1 l2
          have hgd : emptyB E (k + j) = (decide (txt (E.getD (k + j) ze).name = txt []) && decide ((E.getD (k + j) ze).first = 0)) := rfl
          have hsn := allFrom_snoc (emptyB E) j k
          rw [hA, Bool.true_and] at hsn
          have hbad : emptyB E (k + j) = false → GG = false := fun he => by
            rw [unhide HGd, Bool.eq_false_iff]
            intro ht
            have := (allFrom_iff _ _ _).1 ht (k + j) (by omega) (by omega)
            rw [he] at this
            cases this
          generalize emptyB E (k + j) = eb at *
          generalize E.getD (k + j) ze = p at *
          have HBa := hide (hB.alloc hB.size (.cells (ev p).toArray 142))
          have HXa := hide ((Below.heap_alloc wr (.cells (ev p).toArray 142) _ (blk_lt hX)).trans hX)
          have m1 := blk_has (heap_alloc_new wr (.cells (ev p).toArray 142)) (n := 2) rfl
          have m2 := blk_cells (heap_alloc_new wr (.cells (ev p).toArray 142)) (n := 2) rfl
          have hq := run_eqEnt p (wr.alloc (.cells (ev p).toArray 142))
          have hnn : decide (txt p.name = txt []) = decide (p.name = []) := decide_eq_decide.2 ⟨fun e => by have := congrArg ByteArray.toList e; rw [txt_toList, txt_toList] at this; exact this, fun e => by rw [e]⟩
          rw [hnn] at hgd
          rw [← hgd] at hq
          have Hsn := hide hsn
          have Hbad := hide hbad
          clear hA hB hX HB HX hgd hnn hsn hbad
          cases eb with
          | true =>
            clear Hbad
            go_wp2
            go_roundw
            case rel => exact ⟨j + 1, by omega, by go_num, unhide HBa, unhide HXa, unhide Hsn⟩
            case measure => simp [intOf]; omega
          | false =>
            have Hg := hide (unhide Hbad rfl)
            obtain ⟨t2, v2, g2⟩ := ((unhide HG).below (unhide HBa)).err 2 (by omega)
            clear Hbad Hsn HGd
            go_wp2
            go_ret
            exact ⟨Or.inr ⟨unhide Hg, _, ⟨_, _, rfl⟩, rfl⟩, unhide HBa⟩
        · have hjk : j = 4 - k := by omega
          subst hjk
          have Hg := hide ((unhide HGd).trans hA)
          have HBl := hide hB
          clear hA hB hX HB HX HGd
          go_wp2
          go_ret
          exact ⟨Or.inl ⟨unhide Hg, rfl⟩, unhide HBl⟩
end Go.Proofs.YtknjjjenklfeoaaGreatDoor
