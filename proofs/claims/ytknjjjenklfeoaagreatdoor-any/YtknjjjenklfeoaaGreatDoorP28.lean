import Derived.Test.YtknjjjenklfeoaaGreatDoorP27
import Derived.Test.YtknjjjenklfeoaaGreatDoorP18
import Derived.Test.YtknjjjenklfeoaaGreatDoorP11
/-
  The program's pictures: the list with one more, with one less, as a cluster.
-/
namespace Go.Proofs.YtknjjjenklfeoaaGreatDoor
open Go.RowKit

attribute [local go_sem ↓] loadVar_clus storeVar_clus zeroValue_clus loadVar_tab storeVar_tab zeroValue_tab loadVar_cnt storeVar_cnt zeroValue_cnt loadVar_head storeVar_head zeroValue_head build_head buildSlice_clus loadVar_wr storeVar_wr zeroValue_wr build_wr buildSlice_wr equalIn_clus loadVar_place storeVar_place zeroValue_place build_place loadVar_lst storeVar_lst zeroValue_lst storeVar_ent build_ent
attribute [local go_sem] run_loadClus run_storeClus run_zeroClus run_storeClus_new run_loadClus_new zc_length run_loadTab run_storeTab run_zeroTab run_storeTab_new run_loadTab_new zt_length run_loadCnt run_storeCnt run_zeroCnt run_storeCnt_new run_loadCnt_new zk_length run_loadHead run_storeHead run_zeroHead run_storeHead_new run_bHead HasAt_drew cellsAt_drew HasAt_drewN cellsAt_drewN run_bsClus run_loadWr run_zeroWr run_storeWr run_storeWr_new run_bWr0 run_bsWr run_loadPlace run_storePlace run_zeroPlace run_storePlace_new run_bPlace run_loadLst run_storeLst run_zeroLst run_storeLst_new run_storeEnt run_bEnt
attribute [local go_sem] field_head1 field_head0 Oper.semAt_some
attribute [local go_sem ↓] loadVar_ent zeroValue_ent
attribute [local go_sem] run_loadEnt run_zeroEnt run_storeEnt_new
theorem run_copy_wide {P : Program} (w : World) (dT sT ty elem : TypeId) (sz b o dLen dCap : Nat) (a : Addr) (sLen sCap : Nat) (cs : List Value)
    (hu : P.underlying dT = some (.slice elem)) (hs : (P.info? elem).map (·.size) = some sz) (hn : cs.length = Nat.min sLen dLen * sz)
    (hsrc : ∀ j v, cs[j]? = some v → w.cell? (a.add j) = some v) (hc : ∀ j, j < cs.length → (w.cell? ⟨b, o + j, none⟩).isSome = true) (hf : ∀ j, j < cs.length → w.frozen? ⟨b, o + j, none⟩ = false) (h1 : ∀ v ∈ cs, v.oneCell' = true) :
    (Builtin.copy_ #[dT, sT] ty #[.slice (some ⟨b, o, none⟩) dLen dCap, .slice (some a) sLen sCap]).run P w = .ok (goInt (Nat.min sLen dLen : Nat)) (w.setCells b o cs) := by
  have hl := run_loadCells_list (P := P) w a cs hsrc
  have hst := run_storeCells_cells (P := P) b o cs 0 w (by simpa using hc) (by simpa using hf) h1
  cases hq : P.info? elem with
  | none => simp [hq] at hs
  | some i =>
    have hi : i.size = sz := by simpa [hq] using hs
    simp [Builtin.copy_, run_underlying hu, Builtin.lenOf, Builtin.firstCells, Go.sizeOf, typeInfo, hq, hi, ← hn, hl, hst]

theorem run_bEnt0 (w : World) : (bEnt #[]).run Tryz.prog w = .ok (.agg (ev ze).toArray) w := by kernel_rfl
attribute [local go_sem] run_bEnt0
end Go.Proofs.YtknjjjenklfeoaaGreatDoor

/-
  store.Of: a file that is there already.
-/
namespace Go.Proofs.YtknjjjenklfeoaaGreatDoor
open Go.RowKit
attribute [local go_sem ↓] loadVar_clus storeVar_clus zeroValue_clus loadVar_tab storeVar_tab zeroValue_tab loadVar_cnt storeVar_cnt zeroValue_cnt loadVar_head storeVar_head zeroValue_head build_head buildSlice_clus loadVar_wr storeVar_wr zeroValue_wr build_wr buildSlice_wr equalIn_clus
attribute [local go_sem] run_loadClus run_storeClus run_zeroClus run_storeClus_new run_loadClus_new zc_length run_loadTab run_storeTab run_zeroTab run_storeTab_new run_loadTab_new zt_length run_loadCnt run_storeCnt run_zeroCnt run_storeCnt_new run_loadCnt_new zk_length run_loadHead run_storeHead run_zeroHead run_storeHead_new run_bHead HasAt_drew cellsAt_drew HasAt_drewN cellsAt_drewN run_bsClus run_loadWr run_zeroWr run_storeWr run_storeWr_new run_bWr0 run_bsWr
attribute [local go_sem] Oper.semAt_some
theorem flatC_rep (n : Nat) : flatC (List.replicate n zc) = List.replicate (n * 64) (.int .u8 0) := by
  induction n with
  | zero => simp [flatC]
  | succ n ih =>
    rw [List.replicate_succ, show flatC (zc :: List.replicate n zc) = cv zc ++ flatC (List.replicate n zc) from rfl, ih, show cv zc = List.replicate 64 (.int .u8 0) from rfl, List.replicate_append_replicate, Nat.add_mul, Nat.one_mul, Nat.add_comm]
theorem made_zc (n : Nat) : madeCells (Value.cells (.agg (cv zc).toArray)) (n * 64) = (flatC (List.replicate n zc)).toArray := by
  rw [flatC_rep, show Value.cells (.agg (cv zc).toArray) = (List.replicate 64 (Value.int .u8 0)).toArray from rfl]
  apply Array.ext
  · simp [size_madeCells]
  · intro i h1 h2
    have h5 : (List.replicate 64 (Value.int .u8 0)).toArray.size = 64 := rfl
    have h6 : i % 64 < 64 := Nat.mod_lt _ (by decide)
    simp only [madeCells, Array.getElem_map, Array.getElem_range, h5]
    rw [getElem!_pos _ _ (by rw [h5]; exact h6), List.getElem_toArray, List.getElem_toArray, List.getElem_replicate, List.getElem_replicate]
theorem row_at {w : World} {base g cap n : Nat} {e : TypeId} {size : Nat} {xs : List Value} (h : w.ownsRow base e size (.slice (some ⟨g, 0, none⟩) n cap) n xs) (j : Nat) (v : Value) (hj : xs[j]? = some v) : w.cell? ⟨g, j, none⟩ = some v := by
  rcases h.2 with ⟨hx, _⟩ | ⟨g', cap', cur, hx, _, hh, _, _, _, ht⟩
  · cases hx
  · injection hx with hx _ _
    injection hx with hx
    injection hx with hx
    subst hx
    rw [cell_blk hh]
    have hl : j < (cur.toList.take (n * size)).length := by
      rw [ht]
      rcases Nat.lt_or_ge j xs.length with y | y
      · exact y
      · rw [List.getElem?_eq_none y] at hj; cases hj
    rw [← ht, List.getElem?_take_of_lt (by simp at hl; omega)] at hj
    rw [← hj]
    simp
theorem padTo_app {file : List Clus} {T : Nat} (h : file.length ≤ T) : padTo file T = file ++ List.replicate (T - file.length) zc := by
  apply List.ext_getElem?
  intro i
  unfold padTo
  rw [List.getElem?_map]
  by_cases hi : i < T
  · rw [List.getElem?_range hi]
    by_cases hf : i < file.length
    · rw [List.getElem?_append_left hf]
      simp only [Option.map_some, if_pos hf]
      unfold cl
      rw [List.getD_eq_getElem?_getD, List.getElem?_eq_getElem hf]; rfl
    · rw [List.getElem?_append_right (by omega), List.getElem?_replicate, if_pos (by omega)]
      simp only [Option.map_some, if_neg hf]
  · rw [List.getElem?_eq_none (by simpa using hi), List.getElem?_eq_none (by simp; omega)]; rfl
theorem flatC_app (a b : List Clus) : flatC (a ++ b) = flatC a ++ flatC b := by simp [flatC]
set_option maxHeartbeats 2000000 in
set_option maxRecDepth 100000 in
theorem of_any (w : World) (fv : Value) (file : List Clus) (hf : FRow w fv file) (T : Nat) (h0 : 0 < file.length) (hle : file.length ≤ T) (hT : T ≤ 256) :
    Calls Tryz.prog 91 #[fv, .int .i64 (T : Nat)] w fun e w' => ∃ g, w.heap.size ≤ g ∧ e = .returned (.agg (volCells (.slice (some ⟨g, 0, none⟩) T T) (.slice none 0 0) ⟨padTo file T, [], false, decide (file.length < T)⟩).toArray) ∧
      w'.ownsRow 0 38 64 (.slice (some ⟨g, 0, none⟩) T T) T (flatC (padTo file T)) ∧ Below w.heap.size w w' := by
  obtain ⟨i0, hi0, hz0, hz1, hz2⟩ := info_parts Tryz.infoClus
  obtain ⟨g, cap, rfl, hcap⟩ := row_some hf.row (by omega)
  have d0 : decide (((file.length : Nat) : Int) < ((T : Nat) : Int)) = decide (file.length < T) := by simp
  have hmk := fun W => run_make (P := Tryz.prog) W 28 38 i0 (.agg (cv zc).toArray) Tryz.underlying28 hi0 hz0 .i64 .i64 (T : Int) (T : Int) (by omega) (Int.le_refl _) (by rw [hz2]; omega) (by omega)
  simp only [Int.toNat_natCast, hz1, made_zc] at hmk
  have L0 := Locs.three w (.cells #[.slice none 0 0, .slice none 0 0, .bool false, .bool false] 119) (.cells (flatC (List.replicate T zc)).toArray 38) (.cells #[.slice (some ⟨w.heap.size + 1, 0, none⟩) T T, .slice none 0 0, .bool false, .bool (decide (file.length < T))] 119)
  have hrow := (hf.kept (S := fun _ => False) (Kept.of_below L0.below) (fun _ _ => id)).row
  have hfl := flatC_length file hf.lens
  have hzl : (flatC (List.replicate T zc)).length = T * 64 := by rw [flatC_rep]; simp
  have hone : ∀ v ∈ flatC file, v.oneCell' = true := by
    intro v hv
    obtain ⟨c, _, hc⟩ := List.mem_flatMap.1 hv
    obtain ⟨x, _, rfl⟩ := List.mem_map.1 hc
    rfl
  have hmin : Nat.min file.length T = file.length := Nat.min_eq_left hle
  have hcp := run_copy_wide (P := Tryz.prog) _ 28 28 3 38 64 (w.heap.size + 1) 0 T T ⟨g, 0, none⟩ file.length cap (flatC file) Tryz.underlying28 (by kernel_rfl) (by rw [hfl, hmin])
    (fun j v hj => by have := row_at hrow j v hj; cases j with | zero => simpa [Addr.add] using this | succ j => simpa [Addr.add] using this)
    (fun j hj => by rw [Nat.zero_add, cell_blk L0.o1, List.getElem?_toArray, List.getElem?_eq_getElem (by rw [hzl]; rw [hfl] at hj; exact Nat.lt_of_lt_of_le hj (Nat.mul_le_mul_right 64 hle))]; rfl)
    (fun j _ => frozen_blk L0.o1 _) hone
  rw [hmin] at hcp
  have L1 := L0.setCells 1 rfl 0 (flatC file)
  have hcells : setList (flatC (List.replicate T zc)).toArray 0 (flatC file) = (flatC (padTo file T)).toArray := by
    have e : List.replicate T zc = List.replicate file.length zc ++ List.replicate (T - file.length) zc := by rw [List.replicate_append_replicate, Nat.add_sub_cancel' hle]
    rw [padTo_app hle, e, flatC_app, flatC_app]
    have := setList_mid [] (flatC (List.replicate file.length zc)) (flatC file) (flatC (List.replicate (T - file.length) zc)) (by rw [hfl, flatC_rep]; simp)
    simpa using this
  rw [hcells] at L1
  have hpl : (flatC (padTo file T)).length = T * 64 := by rw [flatC_length _ (padTo_lens hf.lens T), padTo_length]
  have HL := hide L1
  have k0 := (cell_blk L1.o2 0).trans rfl
  have k1 := (cell_blk L1.o2 1).trans rfl
  have k2 := (cell_blk L1.o2 2).trans rfl
  have k3 := (cell_blk L1.o2 3).trans rfl
  have r0 := (cell_blk L1.o0 0).trans rfl
  have r1 := (cell_blk L1.o0 1).trans rfl
  have r2 := (cell_blk L1.o0 2).trans rfl
  have r3 := (cell_blk L1.o0 3).trans rfl
  have rf := fun i => frozen_blk L1.o0 i
  simp only [List.getElem?_toArray, List.getElem?_cons_zero, List.getElem?_cons_succ] at k0 k1 k2 k3 r0 r1 r2 r3
  clear L0 hrow hone hcells hf L1
  go_enter Tryz.func91, Tryz.ntmps91
  go_wp2_with fail
  generalize hW : World.setCells _ (w.heap.size + 1) 0 (flatC file) = W at *
  clear hW hcp hmk
  go_wp2
  have L2 := ((((unhide HL).setCell 0 rfl 0 (.slice (some ⟨w.heap.size + 1, 0, none⟩) T T)).setCell 0 rfl 1 (.slice none 0 0)).setCell 0 rfl 2 (.bool false)).setCell 0 rfl 3 (.bool (decide (file.length < T)))
  have b0 : _ = some (Obj.cells [Value.slice (some ⟨w.heap.size + 1, 0, none⟩) T T, .slice none 0 0, .bool false, .bool (decide (file.length < T))].toArray 119 (0, 0)) := L2.o0
  have b1 : _ = some (Obj.cells (flatC (padTo file T)).toArray 38 (0, 0)) := L2.o1
  refine bodyPost_ret (results_cell Tryz.results91 ⟨w.heap.size, 0, none⟩ rfl ?_) rfl ⟨w.heap.size + 1, by omega, rfl, ⟨hpl, Or.inr ⟨w.heap.size + 1, T, _, rfl, Nat.zero_le _, b1, Nat.le_refl _, Nat.le_trans hT (by decide), by simp [hpl], ?_⟩⟩, L2.below⟩
  · exact (run_loadVar_has (blk_has b0 (n := 4) rfl) 119 _ Tryz.underlying119 rfl (by kernel_rfl)).trans (by rw [blk_cells b0 (n := 4) rfl]; rfl)
  · rw [List.toList_toArray, List.take_of_length_le (by rw [hpl]; exact Nat.le_refl _)]
end Go.Proofs.YtknjjjenklfeoaaGreatDoor

/-
  The program's list as a cluster.
-/
namespace Go.Proofs.YtknjjjenklfeoaaGreatDoor
open Go.RowKit

attribute [local go_sem ↓] loadVar_clus storeVar_clus zeroValue_clus loadVar_tab storeVar_tab zeroValue_tab loadVar_cnt storeVar_cnt zeroValue_cnt loadVar_head storeVar_head zeroValue_head build_head buildSlice_clus loadVar_wr storeVar_wr zeroValue_wr build_wr buildSlice_wr equalIn_clus loadVar_place storeVar_place zeroValue_place build_place loadVar_lst storeVar_lst zeroValue_lst storeVar_ent build_ent
attribute [local go_sem] run_loadClus run_storeClus run_zeroClus run_storeClus_new run_loadClus_new zc_length run_loadTab run_storeTab run_zeroTab run_storeTab_new run_loadTab_new zt_length run_loadCnt run_storeCnt run_zeroCnt run_storeCnt_new run_loadCnt_new zk_length run_loadHead run_storeHead run_zeroHead run_storeHead_new run_bHead HasAt_drew cellsAt_drew HasAt_drewN cellsAt_drewN run_bsClus run_loadWr run_zeroWr run_storeWr run_storeWr_new run_bWr0 run_bsWr run_loadPlace run_storePlace run_zeroPlace run_storePlace_new run_bPlace run_loadLst run_storeLst run_zeroLst run_storeLst_new run_storeEnt run_bEnt
attribute [local go_sem] field_head1 field_head0 Oper.semAt_some
attribute [local go_sem ↓] loadVar_ent zeroValue_ent
attribute [local go_sem] run_loadEnt run_zeroEnt run_storeEnt_new
attribute [local go_sem] field_ent0 field_ent1
def putBytes (c : Clus) (o : Nat) (s : List UInt8) : Clus := c.take o ++ s ++ c.drop (o + s.length)
theorem putBytes_length (c : Clus) (o : Nat) (s : List UInt8) (h : o + s.length ≤ c.length) : (putBytes c o s).length = c.length := by
  simp [putBytes]; omega
theorem putBytes_cells (c : Clus) (o : Nat) (s : List UInt8) (h : o + s.length ≤ c.length) : setList (cv c).toArray o (cv s) = (cv (putBytes c o s)).toArray := by
  have e : c = c.take o ++ (c.drop o).take s.length ++ c.drop (o + s.length) := by
    rw [List.append_assoc, ← List.drop_drop, List.take_append_drop, List.take_append_drop]
  have h2 := setList_mid (cv (c.take o)) (cv ((c.drop o).take s.length)) (cv s) (cv (c.drop (o + s.length))) (by simp [cv_length]; omega)
  rw [← cv_append, ← cv_append, ← cv_append, ← cv_append, ← e, cv_length, List.length_take, Nat.min_eq_left (by omega)] at h2
  exact h2
theorem byteAt_putBytes (c : Clus) (o : Nat) (s : List UInt8) (h : o + s.length ≤ c.length) (i : Nat) : byteAt (putBytes c o s) i = if o ≤ i ∧ i < o + s.length then byteAt s (i - o) else byteAt c i := by
  have hl : (c.take o).length = o := by rw [List.length_take]; omega
  unfold byteAt putBytes
  simp only [List.getD_eq_getElem?_getD]
  by_cases h1 : i < o
  · rw [List.append_assoc, List.getElem?_append_left (by omega), if_neg (by omega), List.getElem?_take, if_pos h1]
  · by_cases h2 : i < o + s.length
    · rw [List.append_assoc, List.getElem?_append_right (by omega), hl, List.getElem?_append_left (by omega), if_pos ⟨by omega, h2⟩]
    · rw [List.getElem?_append_right (by rw [List.length_append]; omega), if_neg (by omega), List.getElem?_drop, List.length_append, hl]
      congr 3; omega
theorem byteAt_putN (c : Clus) (k n m : Nat) (hk : k + 1 < c.length) (hn : n < 65536) : byteAt (putNum c k n) m = if m = k then n / 256 else if m = k + 1 then n % 256 else byteAt c m := by
  unfold putNum
  rw [byteAt_set _ _ _ _ (by rw [List.length_set]; exact hk), byteAt_set _ _ _ _ (by omega), toNat_ofNat _ (by omega), toNat_ofNat _ (by omega)]
  by_cases h1 : m = k
  · rw [if_neg (by omega), if_pos h1.symm, if_pos h1]
  · rw [if_neg h1]
    by_cases h2 : m = k + 1
    · rw [if_pos h2.symm, if_pos h2]
    · rw [if_neg (fun e => h2 e.symm), if_neg (fun e => h1 e.symm), if_neg h2]
/-- The list as it stands in the file, up to the k-th entry. -/
def listTo (L : List EntR) : Nat → Clus
  | 0 => zc
  | k + 1 => putNum (putBytes (listTo L k) (16 * k + 2) (L.getD k ze).name) (16 * k) (L.getD k ze).first
def Short (L : List EntR) : Prop := ∀ k, (L.getD k ze).name.length ≤ 12 ∧ (L.getD k ze).first < 65536
theorem listTo_length {L : List EntR} (h : Short L) : ∀ k, k ≤ 4 → (listTo L k).length = 64
  | 0, _ => zc_length
  | k + 1, hk => by
    have h1 := listTo_length h k (by omega)
    have h2 := (h k).1
    rw [listTo, putNum_length, putBytes_length _ _ _ (by omega), h1]
theorem byteAt_zc (i : Nat) : byteAt zc i = 0 := by
  unfold byteAt zc
  rw [List.getD_eq_getElem?_getD, List.getElem?_replicate]
  split <;> rfl
theorem byteAt_name (e : EntR) (he : e.first < 65536) (j : Nat) : byteAt (entBytes e) j = if j = 0 then e.first / 256 else if j = 1 then e.first % 256 else byteAt e.name (j - 2) := by
  match j with
  | 0 => simp only [if_true]; unfold byteAt entBytes; simp only [List.getD_cons_zero]; exact toNat_ofNat _ (by omega)
  | 1 => simp only [if_true]; rw [if_neg (by decide)]; unfold byteAt entBytes; simp only [List.getD_cons_succ, List.getD_cons_zero]; exact toNat_ofNat _ (by omega)
  | k + 2 => rw [if_neg (by omega), if_neg (by omega)]; unfold byteAt; rw [entBytes_name]; rfl
theorem byteAt_listTo {L : List EntR} (h : Short L) : ∀ k, k ≤ 4 → ∀ i j, j < 16 → byteAt (listTo L k) (16 * i + j) = if i < k then byteAt (entBytes (L.getD i ze)) j else 0
  | 0, _, i, j, _ => by rw [if_neg (by omega)]; exact byteAt_zc _
  | k + 1, hk, i, j, hj => by
    have h1 := listTo_length h k (by omega)
    obtain ⟨h2, h3⟩ := h k
    have ih := byteAt_listTo h k (by omega) i j hj
    have hz : ∀ m, 12 ≤ m → byteAt (L.getD k ze).name m = 0 := fun m hm => by
      unfold byteAt
      rw [List.getD_eq_getElem?_getD, List.getElem?_eq_none (by omega)]; rfl
    rw [listTo, byteAt_putN _ _ _ _ (by rw [putBytes_length _ _ _ (by omega), h1]; omega) h3, byteAt_putBytes _ _ _ (by omega), ih]
    by_cases e : i = k
    · subst e
      rw [if_pos (show i < i + 1 by omega), byteAt_name _ h3]
      by_cases j0 : j = 0
      · rw [if_pos (by omega), if_pos j0]
      · by_cases j1 : j = 1
        · rw [if_neg (by omega), if_pos (by omega), if_neg j0, if_pos j1]
        · rw [if_neg (by omega), if_neg (by omega), if_neg j0, if_neg j1]
          by_cases jl : j < 2 + (L.getD i ze).name.length
          · rw [if_pos ⟨by omega, by omega⟩]; congr 1; omega
          · rw [if_neg (by omega), if_neg (by omega)]
            unfold byteAt
            rw [List.getD_eq_getElem?_getD, List.getElem?_eq_none (by omega)]; rfl
    · rw [if_neg (by omega), if_neg (by omega), if_neg (by omega)]
      by_cases hik : i < k
      · rw [if_pos hik, if_pos (by omega)]
      · rw [if_neg hik, if_neg (by omega)]
theorem bytes_ext {a b : Clus} (hl : a.length = b.length) (h : ∀ i, i < a.length → byteAt a i = byteAt b i) : a = b := by
  apply List.ext_getElem hl
  intro i h1 h2
  have := h i h1
  unfold byteAt at this
  rw [List.getD_eq_getElem?_getD, List.getD_eq_getElem?_getD, List.getElem?_eq_getElem h1, List.getElem?_eq_getElem h2] at this
  exact UInt8.toNat_inj.1 this
theorem EntsOK.short4 {E : List EntR} (h : EntsOK E) : Short (pad4 E) := fun k => by
  refine ⟨?_, h.lt k⟩
  rcases h.at k with e | ⟨_, e⟩
  · rw [e]; decide
  · exact e.le
theorem EntsOK.clus {E : List EntR} (h : EntsOK E) : listTo (pad4 E) 4 = listBytes E := by
  refine bytes_ext (by rw [listTo_length h.short4 4 (by omega), h.length]) fun i hi => ?_
  rw [listTo_length h.short4 4 (by omega)] at hi
  have h1 := byteAt_listTo h.short4 4 (by omega) (i / 16) (i % 16) (by omega)
  rw [show 16 * (i / 16) + i % 16 = i by omega, if_pos (by omega)] at h1
  rw [h1]
  have h2 := h.get (i / 16) (by omega) (i % 16) (by omega)
  rw [show 16 * (i / 16) + i % 16 = i by omega] at h2
  unfold byteAt
  rw [h2]

theorem run_copy_name (w : World) (b o m : Nat) (t : TypeId) (c : Clus) (hc : c.length = 64) (hb : w.heap[b]? = some (.cells (cv c).toArray t (0, 0))) (s : List UInt8) (hs : s.length ≤ 12) (ho : o + 12 ≤ 64) :
    (Builtin.copy_ #[73, 9] 3 #[.slice (some ⟨b, o, none⟩) 12 m, .string (txt s)]).run Tryz.prog w = .ok (.int .i64 (s.length : Nat)) (w.setCells b o (cv s)) := by
  have hz : (txt s).size = s.length := by simp [txt, ByteArray.size]
  have h := run_copy_string (P := Tryz.prog) w 73 9 3 5 b o 12 m (txt s) Tryz.underlying73
    (run_sizeOf Tryz.sizeByte) (by rw [hz]; exact hs) (fun j hj => by rw [cell_blk hb, List.getElem?_toArray, cv_get _ _ (by rw [hc]; omega)]; rfl) (fun j _ => frozen_blk hb _)
  rw [h, hz]; rfl

set_option maxHeartbeats 2000000 in
set_option maxRecDepth 100000 in
theorem listCluster_any (w : World) (L : List EntR) (hL : L.length = 4) (hs : Short L) :
    Calls Tryz.prog 148 #[.agg (lv L).toArray] w fun e w' => e = .returned (.agg (cv (listTo L 4)).toArray) ∧ Below w.heap.size w w' := by
  have L0 := hide (Locs.three w (.cells (lv L).toArray 144) (.cells (cv zc).toArray 38) (.cells (cv zc).toArray 38))
  have l1 := blk_has (unhide L0).o0 (n := 8) (by rw [lv_length, hL])
  have l2 := blk_cells (unhide L0).o0 (n := 8) (by rw [lv_length, hL])
  go_enter Tryz.func148, Tryz.ntmps148
  go_wp2
  clear l1 l2
  go_loopw [4, 5, 6, 8] (fun _ _ _ i w' => ∃ k : Nat, k ≤ 4 ∧ i = .int .i64 k ∧ Locs w w' [.cells (lv L).toArray 144, .cells (cv zc).toArray 38, .cells (cv (listTo L k)).toArray 38]) (fun _ _ _ i _ => 4 - (intOf i).toNat)
  case atStart => exact ⟨0, by omega, rfl, unhide L0⟩
  case round =>
    obtain ⟨k, hk, rfl, hLo⟩ := hrel
    clear L0
    by_cases hlt : k < 4
    · rcases (show k = 0 ∨ k = 1 ∨ k = 2 ∨ k = 3 by omega) with rfl | rfl | rfl | rfl
      · have hll := listTo_length hs 0 (by omega)
        obtain ⟨hn12, hf⟩ := hs 0
        have hix : (Instr.index 144 (.agg (lv L).toArray) (.int .i64 0)).run Tryz.prog wr = .ok (.agg (ev (L.getD 0 ze)).toArray) wr := run_index_lst wr L hL 0 (by omega)
        have HE : Hid (listTo L 1 = putNum (putBytes (listTo L 0) 2 (L.getD 0 ze).name) 0 (L.getD 0 ze).first) := rfl
        generalize L.getD 0 ze = ent at *
        have hset := putBytes_cells (listTo L 0) 2 ent.name (by omega)
        have hpl := putBytes_length (listTo L 0) 2 ent.name (by omega)
        have La := hLo.alloc (.cells (ev ent).toArray 142)
        have b1 : (wr.alloc (.cells (ev ent).toArray 142)).drew.heap[wr.heap.size]? = some (.cells (ev ent).toArray 142 (0, 0)) := heap_alloc_new _ _
        have c1 : (wr.alloc (.cells (ev ent).toArray 142)).drew.cell? ⟨wr.heap.size, 0, none⟩ = some (.string (txt ent.name)) := (cell_blk b1 0).trans rfl
        have hcp := run_copy_name _ _ 2 62 _ _ hll La.drew.o2 ent.name hn12 (by omega)
        have L1 := La.drew.setCells 2 rfl 2 (cv ent.name)
        rw [hset] at L1
        simp only [List.set_cons_succ, List.set_cons_zero] at L1
        have hne : wr.heap.size ≠ w.heap.size + 1 + 1 := by have := hLo.lt (i := 2) rfl; omega
        have b2 : ((wr.alloc (.cells (ev ent).toArray 142)).drew.setCells (w.heap.size + 1 + 1) 2 (cv ent.name)).heap[wr.heap.size]? = some (.cells (ev ent).toArray 142 (0, 0)) := (Kept.onlys _ (w.heap.size + 1 + 1) 2 (cv ent.name)).blk hne b1
        have c2 : ((wr.alloc (.cells (ev ent).toArray 142)).drew.setCells (w.heap.size + 1 + 1) 2 (cv ent.name)).cell? ⟨wr.heap.size, 1, none⟩ = some (.int .i64 (ent.first : Nat)) := (cell_blk b2 1).trans rfl
        have L1 := hide L1
        clear La hLo b1 b2
        generalize hW1 : (wr.alloc (.cells (ev ent).toArray 142)).drew.setCells (w.heap.size + 1 + 1) 2 (cv ent.name) = W1 at *
        have Hp := hide (putNumber_any W1 _ _ _ (unhide L1).o2 (hpl.trans hll) 0 ent.first (by omega) hf)
        have ew : IntKind.u16.wrap (ent.first : Int) = ent.first := wraps_u16 _ (by omega) (by omega)
        have HE2 : Hid (txt ent.name = txt ent.name) := rfl
        go_wp2
        go_region
        go_wp2_with fail
        refine (unhide Hp).mono ?_
        rintro e w2 ⟨rfl, hb2, hk2⟩
        have L2 := (unhide L1).put 2 _ hk2 hb2
        simp only [List.set_cons_succ, List.set_cons_zero] at L2
        rw [← unhide HE] at L2
        have L2 := hide L2
        clear L1 Hp hb2 hk2 hcp c1 c2 hix hW1
        go_wp2
        go_roundw
        case rel => exact ⟨1, by omega, by go_num, unhide L2⟩
        case measure => simp [intOf]
      · have hll := listTo_length hs 1 (by omega)
        obtain ⟨hn12, hf⟩ := hs 1
        have hix : (Instr.index 144 (.agg (lv L).toArray) (.int .i64 1)).run Tryz.prog wr = .ok (.agg (ev (L.getD 1 ze)).toArray) wr := run_index_lst wr L hL 1 (by omega)
        have HE : Hid (listTo L 2 = putNum (putBytes (listTo L 1) 18 (L.getD 1 ze).name) 16 (L.getD 1 ze).first) := rfl
        generalize L.getD 1 ze = ent at *
        have hset := putBytes_cells (listTo L 1) 18 ent.name (by omega)
        have hpl := putBytes_length (listTo L 1) 18 ent.name (by omega)
        have La := hLo.alloc (.cells (ev ent).toArray 142)
        have b1 : (wr.alloc (.cells (ev ent).toArray 142)).drew.heap[wr.heap.size]? = some (.cells (ev ent).toArray 142 (0, 0)) := heap_alloc_new _ _
        have c1 : (wr.alloc (.cells (ev ent).toArray 142)).drew.cell? ⟨wr.heap.size, 0, none⟩ = some (.string (txt ent.name)) := (cell_blk b1 0).trans rfl
        have hcp := run_copy_name _ _ 18 46 _ _ hll La.drew.o2 ent.name hn12 (by omega)
        have L1 := La.drew.setCells 2 rfl 18 (cv ent.name)
        rw [hset] at L1
        simp only [List.set_cons_succ, List.set_cons_zero] at L1
        have hne : wr.heap.size ≠ w.heap.size + 1 + 1 := by have := hLo.lt (i := 2) rfl; omega
        have b2 : ((wr.alloc (.cells (ev ent).toArray 142)).drew.setCells (w.heap.size + 1 + 1) 18 (cv ent.name)).heap[wr.heap.size]? = some (.cells (ev ent).toArray 142 (0, 0)) := (Kept.onlys _ (w.heap.size + 1 + 1) 18 (cv ent.name)).blk hne b1
        have c2 : ((wr.alloc (.cells (ev ent).toArray 142)).drew.setCells (w.heap.size + 1 + 1) 18 (cv ent.name)).cell? ⟨wr.heap.size, 1, none⟩ = some (.int .i64 (ent.first : Nat)) := (cell_blk b2 1).trans rfl
        have L1 := hide L1
        clear La hLo b1 b2
        generalize hW1 : (wr.alloc (.cells (ev ent).toArray 142)).drew.setCells (w.heap.size + 1 + 1) 18 (cv ent.name) = W1 at *
        have Hp := hide (putNumber_any W1 _ _ _ (unhide L1).o2 (hpl.trans hll) 16 ent.first (by omega) hf)
        have ew : IntKind.u16.wrap (ent.first : Int) = ent.first := wraps_u16 _ (by omega) (by omega)
        have HE2 : Hid (txt ent.name = txt ent.name) := rfl
        go_wp2
        go_region
        go_wp2_with fail
        refine (unhide Hp).mono ?_
        rintro e w2 ⟨rfl, hb2, hk2⟩
        have L2 := (unhide L1).put 2 _ hk2 hb2
        simp only [List.set_cons_succ, List.set_cons_zero] at L2
        rw [← unhide HE] at L2
        have L2 := hide L2
        clear L1 Hp hb2 hk2 hcp c1 c2 hix hW1
        go_wp2
        go_roundw
        case rel => exact ⟨2, by omega, by go_num, unhide L2⟩
        case measure => simp [intOf]
      · have hll := listTo_length hs 2 (by omega)
        obtain ⟨hn12, hf⟩ := hs 2
        have hix : (Instr.index 144 (.agg (lv L).toArray) (.int .i64 2)).run Tryz.prog wr = .ok (.agg (ev (L.getD 2 ze)).toArray) wr := run_index_lst wr L hL 2 (by omega)
        have HE : Hid (listTo L 3 = putNum (putBytes (listTo L 2) 34 (L.getD 2 ze).name) 32 (L.getD 2 ze).first) := rfl
        generalize L.getD 2 ze = ent at *
        have hset := putBytes_cells (listTo L 2) 34 ent.name (by omega)
        have hpl := putBytes_length (listTo L 2) 34 ent.name (by omega)
        have La := hLo.alloc (.cells (ev ent).toArray 142)
        have b1 : (wr.alloc (.cells (ev ent).toArray 142)).drew.heap[wr.heap.size]? = some (.cells (ev ent).toArray 142 (0, 0)) := heap_alloc_new _ _
        have c1 : (wr.alloc (.cells (ev ent).toArray 142)).drew.cell? ⟨wr.heap.size, 0, none⟩ = some (.string (txt ent.name)) := (cell_blk b1 0).trans rfl
        have hcp := run_copy_name _ _ 34 30 _ _ hll La.drew.o2 ent.name hn12 (by omega)
        have L1 := La.drew.setCells 2 rfl 34 (cv ent.name)
        rw [hset] at L1
        simp only [List.set_cons_succ, List.set_cons_zero] at L1
        have hne : wr.heap.size ≠ w.heap.size + 1 + 1 := by have := hLo.lt (i := 2) rfl; omega
        have b2 : ((wr.alloc (.cells (ev ent).toArray 142)).drew.setCells (w.heap.size + 1 + 1) 34 (cv ent.name)).heap[wr.heap.size]? = some (.cells (ev ent).toArray 142 (0, 0)) := (Kept.onlys _ (w.heap.size + 1 + 1) 34 (cv ent.name)).blk hne b1
        have c2 : ((wr.alloc (.cells (ev ent).toArray 142)).drew.setCells (w.heap.size + 1 + 1) 34 (cv ent.name)).cell? ⟨wr.heap.size, 1, none⟩ = some (.int .i64 (ent.first : Nat)) := (cell_blk b2 1).trans rfl
        have L1 := hide L1
        clear La hLo b1 b2
        generalize hW1 : (wr.alloc (.cells (ev ent).toArray 142)).drew.setCells (w.heap.size + 1 + 1) 34 (cv ent.name) = W1 at *
        have Hp := hide (putNumber_any W1 _ _ _ (unhide L1).o2 (hpl.trans hll) 32 ent.first (by omega) hf)
        have ew : IntKind.u16.wrap (ent.first : Int) = ent.first := wraps_u16 _ (by omega) (by omega)
        have HE2 : Hid (txt ent.name = txt ent.name) := rfl
        go_wp2
        go_region
        go_wp2_with fail
        refine (unhide Hp).mono ?_
        rintro e w2 ⟨rfl, hb2, hk2⟩
        have L2 := (unhide L1).put 2 _ hk2 hb2
        simp only [List.set_cons_succ, List.set_cons_zero] at L2
        rw [← unhide HE] at L2
        have L2 := hide L2
        clear L1 Hp hb2 hk2 hcp c1 c2 hix hW1
        go_wp2
        go_roundw
        case rel => exact ⟨3, by omega, by go_num, unhide L2⟩
        case measure => simp [intOf]
      · have hll := listTo_length hs 3 (by omega)
        obtain ⟨hn12, hf⟩ := hs 3
        have hix : (Instr.index 144 (.agg (lv L).toArray) (.int .i64 3)).run Tryz.prog wr = .ok (.agg (ev (L.getD 3 ze)).toArray) wr := run_index_lst wr L hL 3 (by omega)
        have HE : Hid (listTo L 4 = putNum (putBytes (listTo L 3) 50 (L.getD 3 ze).name) 48 (L.getD 3 ze).first) := rfl
        generalize L.getD 3 ze = ent at *
        have hset := putBytes_cells (listTo L 3) 50 ent.name (by omega)
        have hpl := putBytes_length (listTo L 3) 50 ent.name (by omega)
        have La := hLo.alloc (.cells (ev ent).toArray 142)
        have b1 : (wr.alloc (.cells (ev ent).toArray 142)).drew.heap[wr.heap.size]? = some (.cells (ev ent).toArray 142 (0, 0)) := heap_alloc_new _ _
        have c1 : (wr.alloc (.cells (ev ent).toArray 142)).drew.cell? ⟨wr.heap.size, 0, none⟩ = some (.string (txt ent.name)) := (cell_blk b1 0).trans rfl
        have hcp := run_copy_name _ _ 50 14 _ _ hll La.drew.o2 ent.name hn12 (by omega)
        have L1 := La.drew.setCells 2 rfl 50 (cv ent.name)
        rw [hset] at L1
        simp only [List.set_cons_succ, List.set_cons_zero] at L1
        have hne : wr.heap.size ≠ w.heap.size + 1 + 1 := by have := hLo.lt (i := 2) rfl; omega
        have b2 : ((wr.alloc (.cells (ev ent).toArray 142)).drew.setCells (w.heap.size + 1 + 1) 50 (cv ent.name)).heap[wr.heap.size]? = some (.cells (ev ent).toArray 142 (0, 0)) := (Kept.onlys _ (w.heap.size + 1 + 1) 50 (cv ent.name)).blk hne b1
        have c2 : ((wr.alloc (.cells (ev ent).toArray 142)).drew.setCells (w.heap.size + 1 + 1) 50 (cv ent.name)).cell? ⟨wr.heap.size, 1, none⟩ = some (.int .i64 (ent.first : Nat)) := (cell_blk b2 1).trans rfl
        have L1 := hide L1
        clear La hLo b1 b2
        generalize hW1 : (wr.alloc (.cells (ev ent).toArray 142)).drew.setCells (w.heap.size + 1 + 1) 50 (cv ent.name) = W1 at *
        have Hp := hide (putNumber_any W1 _ _ _ (unhide L1).o2 (hpl.trans hll) 48 ent.first (by omega) hf)
        have ew : IntKind.u16.wrap (ent.first : Int) = ent.first := wraps_u16 _ (by omega) (by omega)
        have HE2 : Hid (txt ent.name = txt ent.name) := rfl
        go_wp2
        go_region
        go_wp2_with fail
        refine (unhide Hp).mono ?_
        rintro e w2 ⟨rfl, hb2, hk2⟩
        have L2 := (unhide L1).put 2 _ hk2 hb2
        simp only [List.set_cons_succ, List.set_cons_zero] at L2
        rw [← unhide HE] at L2
        have L2 := hide L2
        clear L1 Hp hb2 hk2 hcp c1 c2 hix hW1
        go_wp2
        go_roundw
        case rel => exact ⟨4, by omega, by go_num, unhide L2⟩
        case measure => simp [intOf]
    · have hk4 : k = 4 := by omega
      subst hk4
      have b1 := hLo.o1
      have b2 := hLo.o2
      have hbl := listTo_length hs 4 (by omega)
      have l1 := box_has b2 hbl
      have l2 := box_cells b2 hbl
      have th := there_blk b1 0 64 (by simp [cv_length, zc_length])
      have hset := hLo.setCells 1 rfl 0 (cv (listTo L 4))
      rw [setList_all _ _ (by simp [cv_length, zc_length, hbl])] at hset
      have o1 := hset.o1
      have l3 := box_has o1 hbl
      have l4 := box_cells o1 hbl
      have HB := hide hset.below
      clear hLo b1 b2 hset o1
      go_wp2
      refine bodyPost_ret (results_cell Tryz.results148 ⟨w.heap.size + 1, 0, none⟩ rfl ?_) rfl ⟨rfl, unhide HB⟩
      rw [loadVar_clus, run_loadClus l3, l4]
end Go.Proofs.YtknjjjenklfeoaaGreatDoor

/-
  Plain: what the program looks at in a list.
-/
namespace Go.Proofs.YtknjjjenklfeoaaGreatDoor
/-- The program's look at the list. -/
def entGood (E : List EntR) (i : Nat) : Bool := isNameB (E.getD i ze).name && decide (findE E (txt (E.getD i ze).name) = (i : Int))
def emptyB (E : List EntR) (i : Nat) : Bool := decide (txt (E.getD i ze).name = txt []) && decide ((E.getD i ze).first = 0)
def allFrom (p : Nat → Bool) : Nat → Nat → Bool
  | 0, _ => true
  | m + 1, k => p k && allFrom p m (k + 1)
theorem allFrom_iff (p : Nat → Bool) : ∀ m k, allFrom p m k = true ↔ ∀ j, k ≤ j → j < k + m → p j = true
  | 0, k => ⟨fun _ j h1 h2 => by omega, fun _ => rfl⟩
  | m + 1, k => by
    rw [allFrom, Bool.and_eq_true, allFrom_iff p m (k + 1)]
    constructor
    · rintro ⟨h1, h2⟩ j h3 h4
      by_cases e : j = k
      · rw [e]; exact h1
      · exact h2 j (by omega) (by omega)
    · intro h
      exact ⟨h k (by omega) (by omega), fun j h1 h2 => h j (by omega) (by omega)⟩
theorem allFrom_snoc (p : Nat → Bool) : ∀ m k, allFrom p (m + 1) k = (allFrom p m k && p (k + m))
  | 0, k => by rw [allFrom, allFrom, allFrom, Bool.and_true, Bool.true_and, Nat.add_zero]
  | m + 1, k => by
    rw [allFrom, allFrom_snoc p m (k + 1), allFrom, Bool.and_assoc, show k + 1 + m = k + (m + 1) by omega]
def listGood (c : Clus) : Bool := decide (listTo (entsOf c) 4 = c) && (allFrom (entGood (entsOf c)) (lenOf (entsOf c)) 0 && allFrom (emptyB (entsOf c)) (4 - lenOf (entsOf c)) (lenOf (entsOf c)))
end Go.Proofs.YtknjjjenklfeoaaGreatDoor
