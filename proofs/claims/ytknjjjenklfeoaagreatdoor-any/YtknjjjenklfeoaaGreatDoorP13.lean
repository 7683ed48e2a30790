import Derived.Test.YtknjjjenklfeoaaGreatDoorP09
import Derived.Lib.BytesEntry
import Derived.Laws.Externs
import Derived.OwnWalk
/-
  The program's list: the library's bytes.Cut at a separator of one nought.
-/
namespace Go.Proofs.YtknjjjenklfeoaaGreatDoor
open Go.RowKit
attribute [local go_sem ↓] loadVar_clus storeVar_clus zeroValue_clus loadVar_tab storeVar_tab zeroValue_tab loadVar_cnt storeVar_cnt zeroValue_cnt loadVar_head storeVar_head zeroValue_head build_head buildSlice_clus loadVar_wr storeVar_wr zeroValue_wr build_wr buildSlice_wr equalIn_clus loadVar_place storeVar_place zeroValue_place build_place
attribute [local go_sem] run_loadClus run_storeClus run_zeroClus run_storeClus_new run_loadClus_new zc_length run_loadTab run_storeTab run_zeroTab run_storeTab_new run_loadTab_new zt_length run_loadCnt run_storeCnt run_zeroCnt run_storeCnt_new run_loadCnt_new zk_length run_loadHead run_storeHead run_zeroHead run_storeHead_new run_bHead HasAt_drew cellsAt_drew HasAt_drewN cellsAt_drewN run_bsClus run_loadWr run_zeroWr run_storeWr run_storeWr_new run_bWr0 run_bsWr run_loadPlace run_storePlace run_zeroPlace run_storePlace_new run_bPlace
attribute [local go_sem] field_head1 field_head0
/-- Where a nought first stands. -/
def zeroAt (c : List UInt8) : Int := Lib.indexByte c 0
theorem zeroAt_range (c : List UInt8) : -1 ≤ zeroAt c ∧ zeroAt c < c.length := by
  unfold zeroAt
  induction c with
  | nil => simp [Lib.indexByte]
  | cons a r ih =>
    simp only [Lib.indexByte, List.length_cons]
    split
    · omega
    · split
      · omega
      · rename_i h
        simp only [beq_iff_eq] at h
        omega
theorem bytesOf_ints (c : List UInt8) : Lib.bytesOf (c.map fun b => ((b.toNat : Nat) : Int)) = c := by
  unfold Lib.bytesOf
  rw [List.map_map]
  conv => rhs; rw [← List.map_id c]
  refine List.map_congr_left fun b _ => ?_
  simp

set_option maxHeartbeats 1000000 in
set_option maxRecDepth 100000 in
theorem indexByte_any (w : World) (b o cap : Nat) (c : List UInt8) (hr : w.rangeAt b o (cv c)) :
    Calls Tryz.prog 183 #[.slice (some ⟨b, o, none⟩) c.length cap, .int .u8 0] w fun e w' => e = .returned (.int .i64 (zeroAt c)) ∧ w' = w := by
  have hx : (c.map fun b => ((b.toNat : Nat) : Int)).length = c.length := by simp
  have hc : ∀ i, i < c.length → w.cell? ⟨b, o + i, none⟩ = some (.int .u8 ((c.map fun b => ((b.toNat : Nat) : Int)).getD i 0)) := by
    intro i hi
    have := hr i (.int .u8 (byteAt c i : Nat)) (by rw [cv_get _ _ hi])
    rw [this, List.getD_eq_getElem?_getD, List.getElem?_map, List.getElem?_eq_getElem hi]
    simp [byteAt, hi]
  have hex : ∀ W, W = w → (callFunc 188 #[.slice (some ⟨b, o, none⟩) c.length cap, .int .u8 0]).run Tryz.prog W = .ok (.value (.int .i64 (zeroAt c))) W := by
    rintro W rfl
    rw [run_callFunc_extern Tryz.func188 (by kernel_rfl) (by kernel_rfl) (by kernel_rfl) (e := Extern.BytealgIndexByte.indexByte) (by kernel_rfl), Lib.run_indexByteSlice W b o c.length cap _ hx hc 0, bytesOf_ints]
    rfl
  have hex := hex w rfl
  clear hx hc hr
  generalize zeroAt c = z at *
  go_enter Tryz.func183, Tryz.ntmps183
  go_wp2
  go_ret
  exact ⟨rfl, rfl⟩

set_option maxHeartbeats 1000000 in
set_option maxRecDepth 100000 in
theorem index_any (w : World) (b o cap : Nat) (c : List UInt8) (hr : w.rangeAt b o (cv c)) (s : Nat) (hs : w.cell? ⟨s, 0, none⟩ = some (.int .u8 0)) :
    Calls Tryz.prog 180 #[.slice (some ⟨b, o, none⟩) c.length cap, .slice (some ⟨s, 0, none⟩) 1 1] w fun e w' => e = .returned (.int .i64 (zeroAt c)) ∧ w' = w := by
  have Hi := hide (indexByte_any w b o cap c hr)
  clear hr
  generalize zeroAt c = z at *
  go_enter Tryz.func180, Tryz.ntmps180
  go_wp2_with fail
  refine (unhide Hi).mono ?_
  rintro e w1 ⟨rfl, rfl⟩
  go_wp2
  go_ret
  exact ⟨rfl, rfl⟩
end Go.Proofs.YtknjjjenklfeoaaGreatDoor

/-
  The program's list: bytes.Cut; pictures as cells.
-/
namespace Go.Proofs.YtknjjjenklfeoaaGreatDoor
open Go.RowKit
attribute [local go_sem ↓] loadVar_clus storeVar_clus zeroValue_clus loadVar_tab storeVar_tab zeroValue_tab loadVar_cnt storeVar_cnt zeroValue_cnt loadVar_head storeVar_head zeroValue_head build_head buildSlice_clus loadVar_wr storeVar_wr zeroValue_wr build_wr buildSlice_wr equalIn_clus loadVar_place storeVar_place zeroValue_place build_place
attribute [local go_sem] run_loadClus run_storeClus run_zeroClus run_storeClus_new run_loadClus_new zc_length run_loadTab run_storeTab run_zeroTab run_storeTab_new run_loadTab_new zt_length run_loadCnt run_storeCnt run_zeroCnt run_storeCnt_new run_loadCnt_new zk_length run_loadHead run_storeHead run_zeroHead run_storeHead_new run_bHead HasAt_drew cellsAt_drew HasAt_drewN cellsAt_drewN run_bsClus run_loadWr run_zeroWr run_storeWr run_storeWr_new run_bWr0 run_bsWr run_loadPlace run_storePlace run_zeroPlace run_storePlace_new run_bPlace
attribute [local go_sem] field_head1 field_head0
def cutLen (c : List UInt8) : Nat := if 0 ≤ zeroAt c then (zeroAt c).toNat else c.length
theorem cutLen_le (c : List UInt8) : cutLen c ≤ c.length := by
  have := zeroAt_range c
  unfold cutLen
  split <;> omega

set_option maxHeartbeats 1000000 in
set_option maxRecDepth 100000 in
theorem cut_any (w : World) (b o cap : Nat) (c : List UInt8) (hr : w.rangeAt b o (cv c)) (hcap : c.length ≤ cap) (hcap2 : cap ≤ 1000) (s : Nat) (hs : w.cell? ⟨s, 0, none⟩ = some (.int .u8 0)) :
    Calls Tryz.prog 170 #[.slice (some ⟨b, o, none⟩) c.length cap, .slice (some ⟨s, 0, none⟩) 1 1] w fun e w' => (∃ r2 r3, e = .returned (.tuple #[.slice (some ⟨b, o, none⟩) (cutLen c) cap, r2, r3])) ∧ Below w.heap.size w w' := by
  have Hi := hide (index_any w b o cap c hr s hs)
  have hz := zeroAt_range c
  have HL : Hid (cutLen c = if 0 ≤ zeroAt c then (zeroAt c).toNat else c.length) := rfl
  clear hr hs
  by_cases h0 : 0 ≤ zeroAt c
  · rw [if_pos h0] at HL
    obtain ⟨z, hzz⟩ := Int.eq_ofNat_of_zero_le h0
    rw [hzz] at Hi HL hz
    rw [Int.toNat_natCast] at HL
    have hz2 := hz.2
    have hzi : (z : Int) < (c.length : Int) := by omega
    have hzc : (z : Int) + 1 ≤ (c.length : Int) := by omega
    have hzcap : (z : Int) ≤ (cap : Int) := by omega
    have hw : IntKind.i64.wrap ((z : Int) + 1) = (z : Int) + 1 := IntWalk.i64_in _ (by omega)
    clear hzz h0 hz
    go_enter Tryz.func170, Tryz.ntmps170
    go_wp2_with fail
    refine (unhide Hi).mono ?_
    rintro e w1 ⟨rfl, rfl⟩
    go_wp2
    go_quiet (fail)
    go_wp2
    all_goals
      rw [unhide HL]
      refine bodyPost_ret (results_tmp3 rfl _ _ _) rfl ?_
      exact ⟨⟨_, _, rfl⟩, ⟨rfl, rfl, rfl, Nat.le_refl _, fun _ _ => rfl⟩⟩
  · rw [if_neg h0] at HL
    have hz1 : zeroAt c = -1 := by omega
    rw [hz1] at Hi
    go_enter Tryz.func170, Tryz.ntmps170
    go_wp2_with fail
    refine (unhide Hi).mono ?_
    rintro e w1 ⟨rfl, rfl⟩
    go_wp2
    rw [unhide HL]
    refine bodyPost_ret (results_tmp3 rfl _ _ _) rfl ?_
    exact ⟨⟨_, _, rfl⟩, Below.refl _ _⟩

set_option maxRecDepth 100000 in
theorem conv_range {w : World} {b o : Nat} (c : List UInt8) (h : w.rangeAt b o (cv c)) (cap : Nat) :
    (convert 73 9 (.slice (some ⟨b, o, none⟩) c.length cap)).run Tryz.prog w = .ok (.string (txt c)) w := by
  have := run_convert_bytes_arg (P := Tryz.prog) w 73 5 Tryz.underlying73 Tryz.underlying5 b o c.length cap (c.map fun x => (x.toNat : Int)) (by simp) (fun i hi => by
    rw [h i (.int .u8 (byteAt c i : Nat)) (by rw [cv_get _ _ hi])]
    simp only [List.getD_eq_getElem?_getD, List.getElem?_map, byteAt]
    rw [List.getElem?_eq_getElem hi]
    rfl) 9 Tryz.underlying9
  rw [this]
  congr 2
  unfold txt strOfNums
  congr 1
  have e : ((fun n : Int => UInt8.ofNat n.toNat) ∘ fun x : UInt8 => (x.toNat : Int)) = id := by funext x; simp
  simp [e]

/-- A picture's entry as the program has it. -/
structure EntR where
  name : List UInt8
  first : Nat
def ev (p : EntR) : List Value := [.string (txt p.name), .int .i64 (p.first : Nat)]
def lv (L : List EntR) : List Value := L.flatMap ev
theorem ev_one (p : EntR) : ∀ v ∈ ev p, v.oneCell' = true := by
  intro v hv
  simp only [ev, List.mem_cons, List.not_mem_nil, or_false] at hv
  rcases hv with rfl | rfl <;> rfl
theorem lv_one (L : List EntR) : ∀ v ∈ lv L, v.oneCell' = true := by
  intro v hv
  obtain ⟨x, _, hx⟩ := List.mem_flatMap.1 hv
  exact ev_one x v hx
theorem lv_length (L : List EntR) : (lv L).length = L.length * 2 := by
  induction L with
  | nil => rfl
  | cons a r ih => rw [show lv (a :: r) = ev a ++ lv r from rfl, List.length_append, ih, List.length_cons]; simp [ev]; omega
def ze : EntR := ⟨[], 0⟩
def zl : List EntR := [ze, ze, ze, ze]

def loadLst (a : Addr) : Sem Value := loadVar 144 a
theorem loadVar_lst (a : Addr) : loadVar 144 a = loadLst a := rfl
theorem run_loadLst {w : World} {b o : Nat} (h : HasAt w b o 8) : (loadLst ⟨b, o, none⟩).run Tryz.prog w = .ok (.agg (cellsAt w b o 8).toArray) w :=
  run_loadVar_has h 144 _ Tryz.underlying144 rfl (by kernel_rfl)
def storeLst (a : Addr) (v : Value) : Sem Unit := storeVar 144 a v
theorem storeVar_lst (a : Addr) (v : Value) : storeVar 144 a v = storeLst a v := rfl
theorem run_storeLst {w : World} {b o : Nat} {L : List EntR} (ht : w.there b o 8) (hL : L.length = 4) : (storeLst ⟨b, o, none⟩ (.agg (lv L).toArray)).run Tryz.prog w = .ok () (w.setCells b o (lv L)) := by
  have := run_storeVar_mid (P := Tryz.prog) w b o 144 (lv L).toArray (by simpa [lv_length, hL] using ht) (by simp only [List.size_toArray, lv_length, hL]; kernel_rfl) (all_oneCell_toArray (lv_one L))
  simpa [storeLst] using this
def zeroLst : Sem Value := zeroValue 144
theorem zeroValue_lst : zeroValue 144 = zeroLst := rfl
theorem run_zeroLst (w : World) : zeroLst.run Tryz.prog w = .ok (.agg (lv zl).toArray) w :=
  (zero_of_info (P := Tryz.prog) (t := 144) (v := .agg (lv zl).toArray) (n := 8) (by kernel_rfl)).1 w
theorem run_storeLst_new {w : World} {z L : List EntR} (hz : z.length = 4) (hL : L.length = 4) :
    (storeLst ⟨w.heap.size, 0, none⟩ (.agg (lv L).toArray)).run Tryz.prog (w.alloc (.cells (lv z).toArray 144)) = .ok () (w.alloc (.cells (lv L).toArray 144)) :=
  run_storeVar_new w 144 (lv z).toArray (lv L).toArray (by simp only [List.size_toArray, lv_length, hL]; kernel_rfl) (by simp [lv_length, hz, hL]) (all_oneCell_toArray (lv_one L))
def storeEnt (a : Addr) (v : Value) : Sem Unit := storeVar 142 a v
theorem storeVar_ent (a : Addr) (v : Value) : storeVar 142 a v = storeEnt a v := rfl
theorem run_storeEnt {w : World} {b o : Nat} {p : EntR} (ht : w.there b o 2) : (storeEnt ⟨b, o, none⟩ (.agg (ev p).toArray)).run Tryz.prog w = .ok () (w.setCells b o (ev p)) := by
  have := run_storeVar_mid (P := Tryz.prog) w b o 142 (ev p).toArray (by simpa [ev] using ht) (by simp only [ev]; kernel_rfl) (all_oneCell_toArray (ev_one p))
  simpa [storeEnt] using this
def bEnt (parts : Array (Nat × Value)) : Sem Value := Instr.build 142 parts
theorem build_ent (parts : Array (Nat × Value)) : Instr.build 142 parts = bEnt parts := rfl
theorem run_bEnt (nm : List UInt8) (n : Nat) (w : World) : (bEnt #[(0, .string (txt nm)), (1, .int .i64 n)]).run Tryz.prog w = .ok (.agg (ev ⟨nm, n⟩).toArray) w := by
  have hz := (zero_of_info (P := Tryz.prog) (t := 142) (v := .agg (ev ze).toArray) (n := 2) (by kernel_rfl)).1
  exact run_build_struct w 142 _ (.agg (ev ze).toArray) #[(0, 1), (1, 1)] #[(0, .string (txt nm)), (1, .int .i64 n)] _ Tryz.underlying142 hz (fun w => by kernel_rfl) (by rfl)
end Go.Proofs.YtknjjjenklfeoaaGreatDoor

/-
  The program's list: ListOf, list, Len.
-/
namespace Go.Proofs.YtknjjjenklfeoaaGreatDoor
open Go.RowKit
attribute [local go_sem ↓] loadVar_clus storeVar_clus zeroValue_clus loadVar_tab storeVar_tab zeroValue_tab loadVar_cnt storeVar_cnt zeroValue_cnt loadVar_head storeVar_head zeroValue_head build_head buildSlice_clus loadVar_wr storeVar_wr zeroValue_wr build_wr buildSlice_wr equalIn_clus loadVar_place storeVar_place zeroValue_place build_place loadVar_lst storeVar_lst zeroValue_lst storeVar_ent build_ent
attribute [local go_sem] run_loadClus run_storeClus run_zeroClus run_storeClus_new run_loadClus_new zc_length run_loadTab run_storeTab run_zeroTab run_storeTab_new run_loadTab_new zt_length run_loadCnt run_storeCnt run_zeroCnt run_storeCnt_new run_loadCnt_new zk_length run_loadHead run_storeHead run_zeroHead run_storeHead_new run_bHead HasAt_drew cellsAt_drew HasAt_drewN cellsAt_drewN run_bsClus run_loadWr run_zeroWr run_storeWr run_storeWr_new run_bWr0 run_bsWr run_loadPlace run_storePlace run_zeroPlace run_storePlace_new run_bPlace run_loadLst run_storeLst run_zeroLst run_storeLst_new run_storeEnt run_bEnt
attribute [local go_sem] field_head1 field_head0
/-- The bytes of the i-th entry's name, and the name. -/
def nameBytes (c : Clus) (i : Nat) : List UInt8 := (c.drop (16 * i + 2)).take 12
def entOf (c : Clus) (i : Nat) : EntR := ⟨(nameBytes c i).take (cutLen (nameBytes c i)), num c (16 * i)⟩
def entsTo (c : Clus) (k : Nat) : List EntR := (List.range 4).map fun i => if i < k then entOf c i else ze
def entsOf (c : Clus) : List EntR := (List.range 4).map (entOf c)
theorem entsTo_all (c : Clus) : entsTo c 4 = entsOf c := by
  unfold entsTo entsOf
  refine List.map_congr_left fun i hi => ?_
  rw [if_pos (List.mem_range.1 hi)]
theorem nameBytes_length (c : Clus) (i : Nat) (hc : c.length = 64) (hi : i < 4) : (nameBytes c i).length = 12 := by simp [nameBytes, hc]; omega
theorem name_range {w : World} {b : Nat} {c : Clus} {t : TypeId} {fr : Nat × Nat} (hb : w.heap[b]? = some (.cells (cv c).toArray t fr)) (i : Nat) : w.rangeAt b (16 * i + 2) (cv (nameBytes c i)) := fun j v hv => by
  rw [cell_blk hb, List.getElem?_toArray]
  simp only [cv, List.getElem?_map, nameBytes] at hv ⊢
  rw [List.getElem?_take] at hv
  split at hv
  · rw [List.getElem?_drop] at hv; exact hv
  · cases hv
theorem range_take {w : World} {b o : Nat} {c : List UInt8} (h : w.rangeAt b o (cv c)) (n : Nat) : w.rangeAt b o (cv (c.take n)) := fun j v hv => by
  refine h j v ?_
  simp only [cv, List.getElem?_map, List.getElem?_take] at hv ⊢
  split at hv
  · exact hv
  · cases hv

theorem lv_append (A B : List EntR) : lv (A ++ B) = lv A ++ lv B := by simp [lv]
theorem lv_setList (L : List EntR) (k : Nat) (hk : k < L.length) (p : EntR) : setList (lv L).toArray (2 * k) (ev p) = (lv (L.set k p)).toArray := by
  have h1 : L = L.take k ++ [L[k]] ++ L.drop (k + 1) := by rw [List.append_assoc, List.singleton_append, List.getElem_cons_drop, List.take_append_drop]
  have h2 : L.set k p = L.take k ++ [p] ++ L.drop (k + 1) := by rw [List.set_eq_take_append_cons_drop, if_pos hk]; simp
  have h3 := setList_mid (lv (L.take k)) (lv [L[k]]) (ev p) (lv (L.drop (k + 1))) (by simp [lv, ev])
  rw [← lv_append, ← lv_append, ← h1, lv_length, List.length_take, Nat.min_eq_left (by omega), Nat.mul_comm] at h3
  rw [h3, h2, lv_append, lv_append]
  simp [lv]
theorem entsTo_succ (c : Clus) (k : Nat) (hk : k < 4) : entsTo c (k + 1) = (entsTo c k).set k (entOf c k) := by
  refine List.ext_getElem? fun i => ?_
  rw [List.getElem?_set]
  simp only [entsTo, List.getElem?_map, List.length_map, List.length_range]
  by_cases hi : i < 4
  · rw [List.getElem?_range hi]
    by_cases e : k = i
    · subst e; simp [hk]
    · simp only [Option.map_some, if_neg e]
      congr 1
      by_cases h : i < k
      · rw [if_pos h, if_pos (by omega)]
      · rw [if_neg h, if_neg (by omega)]
  · rw [List.getElem?_eq_none (by simp; omega)]
    split
    · omega
    · rfl
theorem entsTo_length (c : Clus) (k : Nat) : (entsTo c k).length = 4 := by simp [entsTo]
theorem entsOf_length (c : Clus) : (entsOf c).length = 4 := by simp [entsOf]

set_option maxHeartbeats 2000000 in
set_option maxRecDepth 100000 in
theorem listOf_any' (w : World) (c : Clus) (hc : c.length = 64) :
    Calls Tryz.prog 141 #[.agg (cv c).toArray] w fun e w' => e = .returned (.agg (lv (entsOf c)).toArray) ∧ Below w.heap.size w w' := by
  have L0 := hide (Locs.three w (.cells (cv c).toArray 38) (.cells (lv zl).toArray 144) (.cells (lv zl).toArray 144))
  go_enter Tryz.func141, Tryz.ntmps141
  go_wp2
  go_loopw [4, 5, 6, 7, 8, 9] (fun _ _ _ _ _ i w' => ∃ k : Nat, k ≤ 4 ∧ i = .int .i64 k ∧ Locs w w' [.cells (cv c).toArray 38, .cells (lv zl).toArray 144, .cells (lv (entsTo c k)).toArray 144]) (fun _ _ _ _ _ i _ => 4 - (intOf i).toNat)
  case atStart => exact ⟨0, by omega, rfl, unhide L0⟩
  case round =>
    obtain ⟨k, hk, rfl, hL⟩ := hrel
    clear L0
    by_cases hlt : k < 4
    · have hnb := nameBytes_length c k hc hlt
      have hcut := cutLen_le (nameBytes c k)
      rcases (show k = 0 ∨ k = 1 ∨ k = 2 ∨ k = 3 by omega) with rfl | rfl | rfl | rfl
      · have HL := hide (hL.alloc (.cells #[.int .u8 0] 5))
        have c1 : (wr.alloc (.cells #[.int .u8 0] 5)).cell? ⟨wr.heap.size, 0, none⟩ = some (.int .u8 0) := (cell_new wr _ _ _ 0).trans rfl
        have Hc := hide (cut_any _ _ _ (64 - 16 * 0 - 2) _ (name_range (unhide HL).o0 0) (by omega) (by omega) _ c1)
        rw [hnb] at Hc
        simp only [Nat.reduceMul, Nat.reduceAdd, Nat.reduceSub] at Hc
        have Hn : Hid (∀ W, Calls Tryz.prog 149 #[.agg (cv c).toArray, .int .i64 0] W fun e w' => e = .returned (.int .u16 (num c 0 : Nat)) ∧ Below W.heap.size W w') := fun W => numberAt_any c 0 W hc (by omega) (by omega)
        have hnl := num_lt c 0
        have hw : IntKind.i64.wrap ((num c 0 : Nat) : Int) = (num c 0 : Nat) := IntWalk.i64_in _ (by omega)
        have htl : ((nameBytes c 0).take (cutLen (nameBytes c 0))).length = cutLen (nameBytes c 0) := by rw [List.length_take]; omega
        have HE : Hid (setList (lv (entsTo c 0)).toArray 0 (ev ⟨(nameBytes c 0).take (cutLen (nameBytes c 0)), num c 0⟩) = (lv (entsTo c 1)).toArray) := by
          show _ = _
          rw [entsTo_succ c 0 (by omega)]
          exact lv_setList (entsTo c 0) 0 (by rw [entsTo_length]; omega) (entOf c 0)
        have hel := entsTo_length c 0
        clear hL
        go_wp2_with fail
        refine (unhide Hc).mono ?_
        rintro e w1 ⟨⟨r2, r3, rfl⟩, hb1⟩
        have L1 := (unhide HL).later hb1
        have hcv1 := conv_range ((nameBytes c 0).take (cutLen (nameBytes c 0))) (range_take (name_range L1.drew.o0 0) _) 62
        rw [htl] at hcv1
        have l1 := box_has L1.drew.o0 hc
        have l2 := box_cells L1.drew.o0 hc
        have L1 := hide L1
        clear HL Hc hb1 hcut hnb c1
        generalize hnm : (nameBytes c 0).take (cutLen (nameBytes c 0)) = nm at *
        generalize cutLen (nameBytes c 0) = m at *
        generalize num c 0 = fn at *
        go_wp2
        go_region_law (go_simp
                       go_at_call 149
                       refine (unhide Hn _).mono ?_
                       rintro e w2 ⟨rfl, hb2⟩
                       have L2 := (unhide L1).drew.later hb2
                       have hcv2 := conv_range nm (by rw [← hnm]; exact range_take (name_range L2.o0 0) _) 62
                       rw [htl] at hcv2
                       have th := there_blk L2.o2 0 2 (by rw [List.size_toArray, lv_length, hel]; omega)
                       have L2 := hide L2)
        all_goals
          have L3 := (unhide L2).setCells 2 rfl 0 (ev ⟨nm, fn⟩)
          rw [unhide HE] at L3
          have L3 := hide L3
          clear L2 hb2 L1
          go_wp2
          go_roundw
          case rel => exact ⟨1, by omega, by go_num, unhide L3⟩
          case measure => simp [intOf]
      · have HL := hide (hL.alloc (.cells #[.int .u8 0] 5))
        have c1 : (wr.alloc (.cells #[.int .u8 0] 5)).cell? ⟨wr.heap.size, 0, none⟩ = some (.int .u8 0) := (cell_new wr _ _ _ 0).trans rfl
        have Hc := hide (cut_any _ _ _ (64 - 16 * 1 - 2) _ (name_range (unhide HL).o0 1) (by omega) (by omega) _ c1)
        rw [hnb] at Hc
        simp only [Nat.reduceMul, Nat.reduceAdd, Nat.reduceSub] at Hc
        have Hn : Hid (∀ W, Calls Tryz.prog 149 #[.agg (cv c).toArray, .int .i64 16] W fun e w' => e = .returned (.int .u16 (num c 16 : Nat)) ∧ Below W.heap.size W w') := fun W => numberAt_any c 16 W hc (by omega) (by omega)
        have hnl := num_lt c 16
        have hw : IntKind.i64.wrap ((num c 16 : Nat) : Int) = (num c 16 : Nat) := IntWalk.i64_in _ (by omega)
        have htl : ((nameBytes c 1).take (cutLen (nameBytes c 1))).length = cutLen (nameBytes c 1) := by rw [List.length_take]; omega
        have HE : Hid (setList (lv (entsTo c 1)).toArray 2 (ev ⟨(nameBytes c 1).take (cutLen (nameBytes c 1)), num c 16⟩) = (lv (entsTo c 2)).toArray) := by
          show _ = _
          rw [entsTo_succ c 1 (by omega)]
          exact lv_setList (entsTo c 1) 1 (by rw [entsTo_length]; omega) (entOf c 1)
        have hel := entsTo_length c 1
        clear hL
        go_wp2_with fail
        refine (unhide Hc).mono ?_
        rintro e w1 ⟨⟨r2, r3, rfl⟩, hb1⟩
        have L1 := (unhide HL).later hb1
        have hcv1 := conv_range ((nameBytes c 1).take (cutLen (nameBytes c 1))) (range_take (name_range L1.drew.o0 1) _) 46
        rw [htl] at hcv1
        have l1 := box_has L1.drew.o0 hc
        have l2 := box_cells L1.drew.o0 hc
        have L1 := hide L1
        clear HL Hc hb1 hcut hnb c1
        generalize hnm : (nameBytes c 1).take (cutLen (nameBytes c 1)) = nm at *
        generalize cutLen (nameBytes c 1) = m at *
        generalize num c 16 = fn at *
        go_wp2
        go_region_law (go_simp
                       go_at_call 149
                       refine (unhide Hn _).mono ?_
                       rintro e w2 ⟨rfl, hb2⟩
                       have L2 := (unhide L1).drew.later hb2
                       have hcv2 := conv_range nm (by rw [← hnm]; exact range_take (name_range L2.o0 1) _) 46
                       rw [htl] at hcv2
                       have th := there_blk L2.o2 2 2 (by rw [List.size_toArray, lv_length, hel]; omega)
                       have L2 := hide L2)
        all_goals
          have L3 := (unhide L2).setCells 2 rfl 2 (ev ⟨nm, fn⟩)
          rw [unhide HE] at L3
          have L3 := hide L3
          clear L2 hb2 L1
          go_wp2
          go_roundw
          case rel => exact ⟨2, by omega, by go_num, unhide L3⟩
          case measure => simp [intOf]
      · have HL := hide (hL.alloc (.cells #[.int .u8 0] 5))
        have c1 : (wr.alloc (.cells #[.int .u8 0] 5)).cell? ⟨wr.heap.size, 0, none⟩ = some (.int .u8 0) := (cell_new wr _ _ _ 0).trans rfl
        have Hc := hide (cut_any _ _ _ (64 - 16 * 2 - 2) _ (name_range (unhide HL).o0 2) (by omega) (by omega) _ c1)
        rw [hnb] at Hc
        simp only [Nat.reduceMul, Nat.reduceAdd, Nat.reduceSub] at Hc
        have Hn : Hid (∀ W, Calls Tryz.prog 149 #[.agg (cv c).toArray, .int .i64 32] W fun e w' => e = .returned (.int .u16 (num c 32 : Nat)) ∧ Below W.heap.size W w') := fun W => numberAt_any c 32 W hc (by omega) (by omega)
        have hnl := num_lt c 32
        have hw : IntKind.i64.wrap ((num c 32 : Nat) : Int) = (num c 32 : Nat) := IntWalk.i64_in _ (by omega)
        have htl : ((nameBytes c 2).take (cutLen (nameBytes c 2))).length = cutLen (nameBytes c 2) := by rw [List.length_take]; omega
        have HE : Hid (setList (lv (entsTo c 2)).toArray 4 (ev ⟨(nameBytes c 2).take (cutLen (nameBytes c 2)), num c 32⟩) = (lv (entsTo c 3)).toArray) := by
          show _ = _
          rw [entsTo_succ c 2 (by omega)]
          exact lv_setList (entsTo c 2) 2 (by rw [entsTo_length]; omega) (entOf c 2)
        have hel := entsTo_length c 2
        clear hL
        go_wp2_with fail
        refine (unhide Hc).mono ?_
        rintro e w1 ⟨⟨r2, r3, rfl⟩, hb1⟩
        have L1 := (unhide HL).later hb1
        have hcv1 := conv_range ((nameBytes c 2).take (cutLen (nameBytes c 2))) (range_take (name_range L1.drew.o0 2) _) 30
        rw [htl] at hcv1
        have l1 := box_has L1.drew.o0 hc
        have l2 := box_cells L1.drew.o0 hc
        have L1 := hide L1
        clear HL Hc hb1 hcut hnb c1
        generalize hnm : (nameBytes c 2).take (cutLen (nameBytes c 2)) = nm at *
        generalize cutLen (nameBytes c 2) = m at *
        generalize num c 32 = fn at *
        go_wp2
        go_region_law (go_simp
                       go_at_call 149
                       refine (unhide Hn _).mono ?_
                       rintro e w2 ⟨rfl, hb2⟩
                       have L2 := (unhide L1).drew.later hb2
                       have hcv2 := conv_range nm (by rw [← hnm]; exact range_take (name_range L2.o0 2) _) 30
                       rw [htl] at hcv2
                       have th := there_blk L2.o2 4 2 (by rw [List.size_toArray, lv_length, hel]; omega)
                       have L2 := hide L2)
        all_goals
          have L3 := (unhide L2).setCells 2 rfl 4 (ev ⟨nm, fn⟩)
          rw [unhide HE] at L3
          have L3 := hide L3
          clear L2 hb2 L1
          go_wp2
          go_roundw
          case rel => exact ⟨3, by omega, by go_num, unhide L3⟩
          case measure => simp [intOf]
      · have HL := hide (hL.alloc (.cells #[.int .u8 0] 5))
        have c1 : (wr.alloc (.cells #[.int .u8 0] 5)).cell? ⟨wr.heap.size, 0, none⟩ = some (.int .u8 0) := (cell_new wr _ _ _ 0).trans rfl
        have Hc := hide (cut_any _ _ _ (64 - 16 * 3 - 2) _ (name_range (unhide HL).o0 3) (by omega) (by omega) _ c1)
        rw [hnb] at Hc
        simp only [Nat.reduceMul, Nat.reduceAdd, Nat.reduceSub] at Hc
        have Hn : Hid (∀ W, Calls Tryz.prog 149 #[.agg (cv c).toArray, .int .i64 48] W fun e w' => e = .returned (.int .u16 (num c 48 : Nat)) ∧ Below W.heap.size W w') := fun W => numberAt_any c 48 W hc (by omega) (by omega)
        have hnl := num_lt c 48
        have hw : IntKind.i64.wrap ((num c 48 : Nat) : Int) = (num c 48 : Nat) := IntWalk.i64_in _ (by omega)
        have htl : ((nameBytes c 3).take (cutLen (nameBytes c 3))).length = cutLen (nameBytes c 3) := by rw [List.length_take]; omega
        have HE : Hid (setList (lv (entsTo c 3)).toArray 6 (ev ⟨(nameBytes c 3).take (cutLen (nameBytes c 3)), num c 48⟩) = (lv (entsTo c 4)).toArray) := by
          show _ = _
          rw [entsTo_succ c 3 (by omega)]
          exact lv_setList (entsTo c 3) 3 (by rw [entsTo_length]; omega) (entOf c 3)
        have hel := entsTo_length c 3
        clear hL
        go_wp2_with fail
        refine (unhide Hc).mono ?_
        rintro e w1 ⟨⟨r2, r3, rfl⟩, hb1⟩
        have L1 := (unhide HL).later hb1
        have hcv1 := conv_range ((nameBytes c 3).take (cutLen (nameBytes c 3))) (range_take (name_range L1.drew.o0 3) _) 14
        rw [htl] at hcv1
        have l1 := box_has L1.drew.o0 hc
        have l2 := box_cells L1.drew.o0 hc
        have L1 := hide L1
        clear HL Hc hb1 hcut hnb c1
        generalize hnm : (nameBytes c 3).take (cutLen (nameBytes c 3)) = nm at *
        generalize cutLen (nameBytes c 3) = m at *
        generalize num c 48 = fn at *
        go_wp2
        go_region_law (go_simp
                       go_at_call 149
                       refine (unhide Hn _).mono ?_
                       rintro e w2 ⟨rfl, hb2⟩
                       have L2 := (unhide L1).drew.later hb2
                       have hcv2 := conv_range nm (by rw [← hnm]; exact range_take (name_range L2.o0 3) _) 14
                       rw [htl] at hcv2
                       have th := there_blk L2.o2 6 2 (by rw [List.size_toArray, lv_length, hel]; omega)
                       have L2 := hide L2)
        all_goals
          have L3 := (unhide L2).setCells 2 rfl 6 (ev ⟨nm, fn⟩)
          rw [unhide HE] at L3
          have L3 := hide L3
          clear L2 hb2 L1
          go_wp2
          go_roundw
          case rel => exact ⟨4, by omega, by go_num, unhide L3⟩
          case measure => simp [intOf]
    · have hk4 : k = 4 := by omega
      subst hk4
      rw [entsTo_all] at hL
      have hel := entsOf_length c
      have l1 := blk_has hL.o2 (n := 8) (by rw [lv_length, hel])
      have l2 := blk_cells hL.o2 (n := 8) (by rw [lv_length, hel])
      have th := there_blk hL.o1 0 8 (by simp [lv_length, zl])
      have hset := hL.setCells 1 rfl 0 (lv (entsOf c))
      rw [setList_all _ _ (by simp [lv_length, zl, hel])] at hset
      have l3 := blk_has hset.o1 (n := 8) (by rw [lv_length, hel])
      have l4 := blk_cells hset.o1 (n := 8) (by rw [lv_length, hel])
      have HB := hide hset.below
      clear hL hset
      go_wp2
      refine bodyPost_ret (results_cell Tryz.results141 ⟨w.heap.size + 1, 0, none⟩ rfl ?_) rfl ⟨rfl, unhide HB⟩
      rw [loadVar_lst, run_loadLst l3, l4]
end Go.Proofs.YtknjjjenklfeoaaGreatDoor

/-
  The program's list: list, Len.
-/
namespace Go.Proofs.YtknjjjenklfeoaaGreatDoor
open Go.RowKit
attribute [local go_sem ↓] loadVar_clus storeVar_clus zeroValue_clus loadVar_tab storeVar_tab zeroValue_tab loadVar_cnt storeVar_cnt zeroValue_cnt loadVar_head storeVar_head zeroValue_head build_head buildSlice_clus loadVar_wr storeVar_wr zeroValue_wr build_wr buildSlice_wr equalIn_clus loadVar_place storeVar_place zeroValue_place build_place loadVar_lst storeVar_lst zeroValue_lst storeVar_ent build_ent
attribute [local go_sem] run_loadClus run_storeClus run_zeroClus run_storeClus_new run_loadClus_new zc_length run_loadTab run_storeTab run_zeroTab run_storeTab_new run_loadTab_new zt_length run_loadCnt run_storeCnt run_zeroCnt run_storeCnt_new run_loadCnt_new zk_length run_loadHead run_storeHead run_zeroHead run_storeHead_new run_bHead HasAt_drew cellsAt_drew HasAt_drewN cellsAt_drewN run_bsClus run_loadWr run_zeroWr run_storeWr run_storeWr_new run_bWr0 run_bsWr run_loadPlace run_storePlace run_zeroPlace run_storePlace_new run_bPlace run_loadLst run_storeLst run_zeroLst run_storeLst_new run_storeEnt run_bEnt
attribute [local go_sem] field_head1 field_head0
set_option maxHeartbeats 1000000 in
set_option maxRecDepth 100000 in
theorem list_vol (w : World) (v : Nat) (Cv Lv : Value) (V : VolR) (h : VolAt w v Cv Lv V) (h5 : 5 < V.C.length) :
    Calls Tryz.prog 83 #[.pointer (some ⟨v, 0, none⟩)] w fun e w' => e = .returned (.agg (lv (entsOf (cl V.C 5))).toArray) ∧ Below w.heap.size w w' := by
  have L0 := Locs.one w (.cells (lv zl).toArray 144)
  have Ha := hide (at_any _ v Cv Lv V (h.below L0.below) 5 h5)
  have Hh : Hid (∀ W, _) := fun W => listOf_any' W (cl V.C 5) (cl_length h.lenC h5)
  have hel := entsOf_length (cl V.C 5)
  have L0 := hide L0
  clear h
  generalize entsOf (cl V.C 5) = E at *
  generalize cl V.C 5 = c at *
  go_enter Tryz.func83, Tryz.ntmps83
  go_wp2_with fail
  refine (unhide Ha).mono ?_
  rintro e w1 ⟨rfl, hb1⟩
  have L1 := hide ((unhide L0).later hb1)
  clear Ha L0 hb1
  go_wp2_with fail
  refine (unhide Hh w1).mono ?_
  rintro e w2 ⟨rfl, hb2⟩
  have L2 := (unhide L1).later hb2
  have th := there_blk L2.o0 0 8 (by simp [lv_length, zl])
  have hset := L2.setCells 0 rfl 0 (lv E)
  rw [Nat.add_zero, setList_all _ _ (by simp [lv_length, zl, hel])] at hset
  have l3 := blk_has hset.o0 (n := 8) (by rw [lv_length, hel])
  have l4 := blk_cells hset.o0 (n := 8) (by rw [lv_length, hel])
  have HB := hide hset.below
  clear hset L2 L1 hb2 Hh
  go_wp2
  refine bodyPost_ret (results_cell Tryz.results83 ⟨w.heap.size, 0, none⟩ rfl ?_) rfl ⟨rfl, unhide HB⟩
  rw [loadVar_lst, run_loadLst l3, l4]

/-- How many pictures there are, looked at up to the k-th entry. -/
def lenFrom (E : List EntR) : Nat → Nat → Nat
  | 0, k => k
  | m + 1, k => if (E.getD k ze).first = 0 then k else lenFrom E m (k + 1)
def lenOf (E : List EntR) : Nat := lenFrom E 4 0
theorem lenFrom_le (E : List EntR) : ∀ m k, lenFrom E m k ≤ k + m
  | 0, k => by simp [lenFrom]
  | m + 1, k => by
    rw [lenFrom]
    split
    · omega
    · have := lenFrom_le E m (k + 1); omega
theorem lenOf_le (E : List EntR) : lenOf E ≤ 4 := by have := lenFrom_le E 4 0; unfold lenOf; omega
theorem ent_first {w : World} {b : Nat} {E : List EntR} {t : TypeId} {fr : Nat × Nat} (h : w.heap[b]? = some (.cells (lv E).toArray t fr)) (k : Nat) (hk : k < E.length) : w.cell? ⟨b, k * 2 + 1, none⟩ = some (.int .i64 (((E.getD k ze).first : Nat) : Int)) := by
  rw [cell_blk h, List.getElem?_toArray]
  clear h
  induction E generalizing k with
  | nil => simp at hk
  | cons a r ih =>
    rw [show lv (a :: r) = ev a ++ lv r from rfl]
    cases k with
    | zero => rfl
    | succ k =>
      rw [List.getElem?_append_right (by simp [ev]; omega), show (k + 1) * 2 + 1 - (ev a).length = k * 2 + 1 by simp [ev]; omega, ih k (by simpa using hk)]
      simp

set_option maxHeartbeats 1000000 in
set_option maxRecDepth 100000 in
theorem len_any (w : World) (E : List EntR) (hE : E.length = 4) :
    Calls Tryz.prog 85 #[.agg (lv E).toArray] w fun e w' => e = .returned (.int .i64 (lenOf E : Nat)) ∧ Below w.heap.size w w' := by
  have L0 := hide (Locs.one w (.cells (lv E).toArray 144))
  go_enter Tryz.func85, Tryz.ntmps85
  go_wp2
  go_loopw [3] (fun i w' => ∃ k : Nat, k ≤ 4 ∧ i = .int .i64 k ∧ Locs w w' [.cells (lv E).toArray 144] ∧ lenOf E = lenFrom E (4 - k) k) (fun i _ => 4 - (intOf i).toNat)
  case atStart => exact ⟨0, by omega, rfl, unhide L0, rfl⟩
  case round =>
    obtain ⟨k, hk, rfl, hL, hl⟩ := hrel
    clear L0
    by_cases hlt : k < 4
    · have hki : (k : Int) < 4 := by omega
      have dk : decide ((k : Int) < 4) = true := by simpa using hki
      have c1 := ent_first hL.o0 k (by omega)
      have hs : lenFrom E (4 - k) k = if (E.getD k ze).first = 0 then k else lenFrom E (4 - (k + 1)) (k + 1) := by
        rw [show 4 - k = (4 - (k + 1)) + 1 by omega, lenFrom]
      rw [hs] at hl
      generalize (E.getD k ze).first = fn at *
      have HB := hide hL.below
      have HL := hide hL
      clear hL hs
      by_cases h0 : fn = 0
      · rw [if_pos h0] at hl
        have Hl := hide hl
        subst h0
        clear hl
        go_wp2
        go_ret
        exact ⟨by rw [unhide Hl]; rfl, unhide HB⟩
      · rw [if_neg h0] at hl
        have Hl := hide hl
        have d0 : (((fn : Nat) : Int) != 0) = true := by rw [bne_iff_ne]; omega
        clear hl
        go_wp2
        go_roundw
        case rel => exact ⟨k + 1, by omega, by go_num, unhide HL, unhide Hl⟩
        case measure => simp [intOf]; omega
    · have hk4 : k = 4 := by omega
      subst hk4
      have Hl := hide hl
      have HB := hide hL.below
      clear hl hL
      go_wp2
      go_ret
      exact ⟨by rw [unhide Hl]; rfl, unhide HB⟩
end Go.Proofs.YtknjjjenklfeoaaGreatDoor
