import Derived.Test.YtknjjjenklfeoaaP02
import Derived.Deep.RegionLaw
import Derived.Test.YtknjjjenklfeoaaP01
import Derived.Lib.LazyBuf
/-
  The program's layout: a table as a cluster.
-/
namespace Go.Proofs.Ytknjjjenklfeoaa
open Go.RowKit
attribute [local go_sem ↓] loadVar_clus storeVar_clus zeroValue_clus loadVar_tab storeVar_tab zeroValue_tab loadVar_cnt storeVar_cnt zeroValue_cnt loadVar_head storeVar_head zeroValue_head build_head
attribute [local go_sem] run_loadClus run_storeClus run_zeroClus run_storeClus_new run_loadClus_new zc_length run_loadTab run_storeTab run_zeroTab run_storeTab_new run_loadTab_new zt_length run_loadCnt run_storeCnt run_zeroCnt run_storeCnt_new run_loadCnt_new zk_length run_loadHead run_storeHead run_zeroHead run_storeHead_new run_bHead HasAt_drew cellsAt_drew HasAt_drewN cellsAt_drewN
def bytesTo (T : List Nat) : Nat → Clus
  | 0 => zc
  | k + 1 => putNum (bytesTo T k) (2 * k) (T.getD k 0)
def bytesOf (T : List Nat) : Clus := bytesTo T 32
theorem bytesTo_length (T : List Nat) (k : Nat) : (bytesTo T k).length = 64 := by
  induction k with
  | zero => exact zc_length
  | succ k ih => rw [bytesTo, putNum_length, ih]
theorem bytesOf_length (T : List Nat) : (bytesOf T).length = 64 := bytesTo_length T 32
theorem part_num (T : List Nat) (i : Nat) (hi : i < T.length) (w : World) : (part 92 (tv T).toArray (i * 1)).run Try.prog w = .ok (.int .u16 ((T.getD i 0 : Nat) : Int)) w := by
  have ha : (isAgg 92).run Try.prog w = .ok false w := by unfold isAgg; rw [Sem.run_bind, run_underlying Try.underlying92 w]; rfl
  unfold part
  rw [Sem.run_bind, ha]
  simp only [Result.andThen_ok, Bool.false_eq_true, if_false, Nat.mul_one]
  rw [List.getElem?_toArray, tv_get T i hi]
  rfl
theorem run_sizeOf {P : Program} {e : TypeId} {sz : Nat} (hs : (P.info? e).map (·.size) = some sz) (w : World) : (Go.sizeOf e).run P w = .ok sz w := by
  obtain ⟨i, hi, rfl⟩ := Option.map_eq_some_iff.1 hs
  simp [Go.sizeOf, typeInfo, hi, go_sem]
theorem Try.sizeByte : (Try.prog.info? 5).map (·.size) = some 1 := by kernel_rfl
theorem run_index_arr {P : Program} (w : World) (t e : TypeId) (n sz : Nat) (hu : P.underlying t = some (.array n e)) (hs : (P.info? e).map (·.size) = some sz) (cs : Array Value) (k : Nat) (hk : k < n) (v : Value) (hp : (part e cs (k * sz)).run P w = .ok v w) :
    (Instr.index t (.agg cs) (.int .i64 (k : Int))).run P w = .ok v w := by
  have hsz := run_sizeOf hs w
  unfold Instr.index
  simp only [asIntOf, Sem.run_bind, Sem.run_pure, Result.andThen_ok, run_underlying hu w]
  rw [if_pos (by omega), Sem.run_bind, hsz]
  simpa using hp
theorem run_index_tab (w : World) (T : List Nat) (hT : T.length = 32) (k : Nat) (hk : k < 32) : (Instr.index 94 (.agg (tv T).toArray) (.int .i64 (k : Int))).run Try.prog w = .ok (.int .u16 ((T.getD k 0 : Nat) : Int)) w :=
  run_index_arr w _ _ 32 1 Try.underlying94 (by kernel_rfl) _ k hk _ (part_num T k (by omega) w)
theorem run_index_cnt (w : World) (c : List UInt8) (hc : c.length = 256) (k : Nat) (hk : k < 256) : (Instr.index 86 (.agg (cv c).toArray) (.int .i64 (k : Int))).run Try.prog w = .ok (.int .u8 (byteAt c k : Nat)) w :=
  run_index_arr w _ _ 256 1 Try.underlying86 (by kernel_rfl) _ k hk _ (part_byte c k (by omega) w)

set_option maxHeartbeats 1000000 in
set_option maxRecDepth 100000 in
theorem tableCluster_any (w : World) (T : List Nat) (hT : T.length = 32) (hs : ∀ i, T.getD i 0 < 65536) :
    Calls Try.prog 75 #[.agg (tv T).toArray] w fun e w' => e = .returned (.agg (cv (bytesOf T)).toArray) ∧ Below w.heap.size w w' := by
  have L0 := hide (Locs.three w (.cells (tv T).toArray 94) (.cells (cv zc).toArray 26) (.cells (cv zc).toArray 26))
  have l1 := blk_has (unhide L0).o0 (n := 32) (by rw [tv_length, hT])
  have l2 := blk_cells (unhide L0).o0 (n := 32) (by rw [tv_length, hT])
  go_enter Try.func75, Try.ntmps75
  go_wp2
  clear l1 l2
  go_loopw [4, 5, 7] (fun _ _ i w' => ∃ k : Nat, k ≤ 32 ∧ i = .int .i64 k ∧ Locs w w' [.cells (tv T).toArray 94, .cells (cv zc).toArray 26, .cells (cv (bytesTo T k)).toArray 26]) (fun _ _ i _ => 32 - (intOf i).toNat)
  case atStart => exact ⟨0, by omega, rfl, unhide L0⟩
  case round =>
    obtain ⟨k, hk, rfl, hL⟩ := hrel
    clear L0
    by_cases hlt : k < 32
    · have hki : (k : Int) < 32 := by omega
      have Hn := hide (putNumber_any wr _ _ _ hL.o2 (bytesTo_length T k) (2 * k) (T.getD k 0) (by omega) (hs k))
      have HL := hide hL
      clear hL
      have hix := run_index_tab wr T hT k hlt
      rw [show ((2 * k : Nat) : Int) = 2 * (k : Int) by omega] at Hn
      generalize hnn : T.getD k 0 = n at *
      go_wp2_with fail
      refine (unhide Hn).mono ?_
      rintro e w1 ⟨rfl, hb1, hk1⟩
      have L1 := hide ((unhide HL).put 2 _ hk1 hb1)
      clear Hn HL hix hb1 hk1
      go_wp2
      go_roundw
      case rel =>
        refine ⟨k + 1, by omega, by go_num, ?_⟩
        have := unhide L1
        rw [bytesTo, hnn]
        exact this
      case measure => simp [intOf]; omega
    · have hk32 : k = 32 := by omega
      subst hk32
      have b1 := hL.o1
      have b2 := hL.o2
      have hbl := bytesTo_length T 32
      have l1 := box_has b2 hbl
      have l2 := box_cells b2 hbl
      have th := there_blk b1 0 64 (by simp [cv_length, zc_length])
      have hset := hL.setCells 1 rfl 0 (cv (bytesTo T 32))
      rw [setList_all _ _ (by simp [cv_length, zc_length, hbl])] at hset
      have o1 := hset.o1
      have l3 := box_has o1 hbl
      have l4 := box_cells o1 hbl
      have HB := hide hset.below
      clear hL b1 b2 hset o1
      go_wp2
      refine bodyPost_ret (results_cell Try.results75 ⟨w.heap.size + 1, 0, none⟩ rfl ?_) rfl ⟨rfl, unhide HB⟩
      rw [loadVar_clus, run_loadClus l3, l4]; rfl

set_option maxHeartbeats 1000000 in
set_option maxRecDepth 100000 in
theorem headOf_any (w : World) (c : Clus) (hc : c.length = 64) :
    Calls Try.prog 61 #[.agg (cv c).toArray] w fun e w' => e = .returned (.agg (hv (num c 4) (num c 6)).toArray) ∧ Below w.heap.size w w' := by
  have L0 := hide (Locs.two w (.cells (cv c).toArray 26) (.cells (hv 0 0).toArray 64))
  have l1 := box_has (unhide L0).drew.o0 hc
  have l2 := box_cells (unhide L0).drew.o0 hc
  have Hn : Hid (∀ W k, k = 4 ∨ k = 6 → Calls Try.prog 79 #[.agg (cv c).toArray, .int .i64 k] W fun e w' => e = .returned (.int .u16 (num c k.toNat : Nat)) ∧ Below W.heap.size W w') := fun W k hk => numberAt_any c k W hc (by omega) (by omega)
  have n4 := num_lt c 4
  have n6 := num_lt c 6
  have e4 : IntKind.i64.wrap ((num c 4 : Nat) : Int) = (num c 4 : Nat) := IntWalk.i64_in _ (by omega)
  have e6 : IntKind.i64.wrap ((num c 6 : Nat) : Int) = (num c 6 : Nat) := IntWalk.i64_in _ (by omega)
  go_enter Try.func61, Try.ntmps61
  go_wp2
  go_region_law (go_simp
                 go_at_call 79
                 refine (unhide Hn _ _ (by omega)).mono ?_
                 rintro e w1 ⟨rfl, hb1⟩
                 have L1 := hide (Locs.later (by first | exact unhide L1 | exact (unhide L1).drew | exact unhide L0 | exact (unhide L0).drew) hb1)
                 have m1 := box_has (unhide L1).o0 hc
                 have m2 := box_cells (unhide L1).o0 hc
                 have th := there_blk (unhide L1).o1 0 2 (by simp [hv_length]))
  all_goals
    have hset := (unhide L1).setCells 1 rfl 0 (hv (num c 4) (num c 6))
    rw [setList_all _ _ (by simp [hv_length])] at hset
    have l3 := blk_has hset.o1 (n := 2) (hv_length _ _)
    have l4 := blk_cells hset.o1 (n := 2) (hv_length _ _)
    have HB := hide hset.below
    clear hset L0 Hn hb1 m1 m2 l1 l2 th
    go_wp2
    refine bodyPost_ret (results_cell Try.results61 ⟨w.heap.size + 1, 0, none⟩ rfl ?_) rfl ⟨rfl, unhide HB⟩
    rw [loadVar_head, run_loadHead l3, l4]
end Go.Proofs.Ytknjjjenklfeoaa

/-
  The program's layout: the head as a cluster; parts of the counts.
-/
namespace Go.Proofs.Ytknjjjenklfeoaa
open Go.RowKit
attribute [local go_sem ↓] loadVar_clus storeVar_clus zeroValue_clus loadVar_tab storeVar_tab zeroValue_tab loadVar_cnt storeVar_cnt zeroValue_cnt loadVar_head storeVar_head zeroValue_head build_head
attribute [local go_sem] run_loadClus run_storeClus run_zeroClus run_storeClus_new run_loadClus_new zc_length run_loadTab run_storeTab run_zeroTab run_storeTab_new run_loadTab_new zt_length run_loadCnt run_storeCnt run_zeroCnt run_storeCnt_new run_loadCnt_new zk_length run_loadHead run_storeHead run_zeroHead run_storeHead_new run_bHead HasAt_drew cellsAt_drew HasAt_drewN cellsAt_drewN
def headBytes (a b : Nat) : Clus := putNum (putNum (velm ++ List.replicate 60 0) 4 a) 6 b
theorem headBytes_length (a b : Nat) : (headBytes a b).length = 64 := by rw [headBytes, putNum_length, putNum_length]; rfl

theorem cv_append (a b : List UInt8) : cv (a ++ b) = cv a ++ cv b := List.map_append
theorem velm_front : setList (cv zc).toArray 0 (cv velm) = (cv (velm ++ List.replicate 60 0)).toArray := by
  have h : zc = List.replicate 4 0 ++ List.replicate 60 0 := by rw [zc, List.replicate_append_replicate]
  rw [h, cv_append, cv_append]
  exact setList_front _ _ _ (by simp [cv_length, velm])
theorem headBytes_eq (a b : Nat) : headBytes a b = putNum (putNum (velm ++ List.replicate 60 0) 4 a) 6 b := rfl
theorem run_copy_velm (w : World) (b : Nat) (t : TypeId) (hb : w.heap[b]? = some (.cells (cv zc).toArray t (0, 0))) :
    (Builtin.copy_ #[100, 9] 3 #[.slice (some ⟨b, 0, none⟩) 64 64, .string ⟨#[86, 69, 76, 77]⟩]).run Try.prog w = .ok (.int .i64 4) (w.setCells b 0 (cv velm)) := by
  have h := run_copy_string (P := Try.prog) w 100 9 3 5 b 0 64 64 ⟨#[86, 69, 76, 77]⟩ Try.underlying100
    (run_sizeOf Try.sizeByte) (by decide) (fun j hj => by rw [Nat.zero_add, cell_blk hb, List.getElem?_toArray, cv_get _ _ (by rw [zc_length]; have : j < 4 := hj; omega)]; rfl) (fun j _ => frozen_blk hb _)
  rw [h]; rfl

set_option maxHeartbeats 1000000 in
set_option maxRecDepth 100000 in
theorem headCluster_any (w : World) (a b : Nat) (ha : a < 65536) (hb : b < 65536) :
    Calls Try.prog 63 #[.agg (hv a b).toArray] w fun e w' => e = .returned (.agg (cv (headBytes a b)).toArray) ∧ Below w.heap.size w w' := by
  have L0 := hide (Locs.three w (.cells (hv a b).toArray 64) (.cells (cv zc).toArray 26) (.cells (cv zc).toArray 26))
  have hcp := run_copy_velm _ _ _ (unhide L0).o2
  have L1 := (unhide L0).setCells 2 rfl 0 (cv velm)
  rw [velm_front] at L1
  generalize World.setCells _ _ _ (cv velm) = W1 at hcp L1
  simp only [List.set_cons_succ, List.set_cons_zero] at L1
  have x1 : W1.cell? ⟨w.heap.size, 0, none⟩ = some (.int .i64 (a : Nat)) := (cell_blk L1.o0 0).trans rfl
  have ea : IntKind.u16.wrap (a : Int) = a := wraps_u16 _ (by omega) (by omega)
  have eb : IntKind.u16.wrap (b : Int) = b := wraps_u16 _ (by omega) (by omega)
  have Hp1 := hide (putNumber_any W1 _ _ _ L1.o2 (by simp [velm]) 4 a (by omega) ha)
  have L1 := hide L1
  clear L0
  go_enter Try.func63, Try.ntmps63
  go_wp2_with fail
  refine (unhide Hp1).mono ?_
  rintro e W2 ⟨rfl, hb2, hk2⟩
  have L2 := (unhide L1).put 2 _ hk2 hb2
  simp only [List.set_cons_succ, List.set_cons_zero] at L2
  have x2 : W2.cell? ⟨w.heap.size, 1, none⟩ = some (.int .i64 (b : Nat)) := (cell_blk L2.o0 1).trans rfl
  have Hp2 := hide (putNumber_any W2 _ _ _ L2.o2 (by rw [putNum_length]; simp [velm]) 6 b (by omega) hb)
  have L2 := hide L2
  clear L1 Hp1 hb2 hk2 x1 hcp
  go_wp2_with fail
  refine (unhide Hp2).mono ?_
  rintro e W3 ⟨rfl, hb3, hk3⟩
  have L3 := (unhide L2).put 2 _ hk3 hb3
  simp only [List.set_cons_succ, List.set_cons_zero] at L3
  rw [← headBytes_eq] at L3
  have hbl := headBytes_length a b
  have l1 := box_has L3.o2 hbl
  have l2 := box_cells L3.o2 hbl
  have th := there_blk L3.o1 0 64 (by simp [cv_length, zc_length])
  have hset := L3.setCells 1 rfl 0 (cv (headBytes a b))
  rw [setList_all _ _ (by simp [cv_length, zc_length, hbl])] at hset
  have o1 := hset.o1
  have l3 := box_has o1 hbl
  have l4 := box_cells o1 hbl
  have HB := hide hset.below
  clear L2 L3 Hp2 hb3 hk3 x2 hset o1
  generalize hcc : headBytes a b = c at *
  go_wp2
  refine bodyPost_ret (results_cell Try.results63 ⟨w.heap.size + 1, 0, none⟩ rfl ?_) rfl ⟨rfl, unhide HB⟩
  rw [loadVar_clus, run_loadClus l3, l4, hcc]

def setPart (k : List UInt8) (p : Nat) (c : Clus) : List UInt8 := k.take (64 * p) ++ c ++ k.drop (64 * p + 64)
theorem setPart_length (k : List UInt8) (p : Nat) (c : Clus) (hk : k.length = 256) (hc : c.length = 64) (hp : p < 4) : (setPart k p c).length = 256 := by
  simp [setPart, hk, hc]; omega
theorem setList_mid (a b vs d : List Value) (h : b.length = vs.length) : setList (a ++ b ++ d).toArray a.length vs = (a ++ vs ++ d).toArray := by
  refine Array.ext_getElem? fun i => ?_
  rw [setList_get vs a.length _ i (by simp; omega)]
  simp only [List.getElem?_toArray]
  by_cases h1 : i < a.length
  · rw [if_neg (by omega), List.append_assoc, List.append_assoc, List.getElem?_append_left h1, List.getElem?_append_left h1]
  · by_cases h2 : i < a.length + vs.length
    · rw [if_pos (by omega), List.getElem?_append_left (by simp; omega), List.getElem?_append_right (by omega)]
    · rw [if_neg (by omega), List.getElem?_append_right (by simp; omega), List.getElem?_append_right (by simp; omega)]
      simp [h]
theorem setPart_cells (k : List UInt8) (p : Nat) (c : Clus) (hk : k.length = 256) (hc : c.length = 64) (hp : p < 4) : setList (cv k).toArray (64 * p) (cv c) = (cv (setPart k p c)).toArray := by
  have h : k = k.take (64 * p) ++ (k.drop (64 * p)).take 64 ++ k.drop (64 * p + 64) := by
    rw [List.append_assoc, ← List.drop_drop, List.take_append_drop, List.take_append_drop]
  have h2 := setList_mid (cv (k.take (64 * p))) (cv ((k.drop (64 * p)).take 64)) (cv c) (cv (k.drop (64 * p + 64))) (by simp [cv_length, hk, hc]; omega)
  rw [← cv_append, ← cv_append, ← cv_append, ← cv_append, ← h, cv_length, List.length_take, hk, Nat.min_eq_left (by omega)] at h2
  exact h2
theorem run_copy_part (w : World) (b x p : Nat) (t u : TypeId) (k : List UInt8) (c : Clus) (hk : k.length = 256) (hc : c.length = 64) (hp : p < 4) (hb : w.heap[b]? = some (.cells (cv k).toArray t (0, 0))) (hx : w.heap[x]? = some (.cells (cv c).toArray u (0, 0))) (n : Nat) (hn : n = 256 - 64 * p) :
    (Builtin.copy_ #[100, 100] 3 #[.slice (some ⟨b, 64 * p, none⟩) n n, .slice (some ⟨x, 0, none⟩) 64 64]).run Try.prog w = .ok (.int .i64 64) (w.setCells b (64 * p) (cv c)) := by
  have h := run_copy_cells (P := Try.prog) w 100 100 3 5 b (64 * p) n n ⟨x, 0, none⟩ 64 64 (cv c) Try.underlying100 Try.sizeByte
    (by rw [cv_length, hc]; exact (Nat.min_eq_left (by omega)).symm)
    (fun j v hv => by rw [show (⟨x, 0, none⟩ : Addr).add j = ⟨x, j, none⟩ by simp [Addr.add]; omega]; rw [cell_blk hx, List.getElem?_toArray]; exact hv)
    (fun j hj => by rw [cv_length, hc] at hj; rw [cell_blk hb, List.getElem?_toArray, cv_get _ _ (by omega)]; rfl) (fun j _ => frozen_blk hb _) (cv_one c)
  rw [h, cv_length, hc]; rfl

set_option maxHeartbeats 1000000 in
set_option maxRecDepth 100000 in
theorem setPart_any (w : World) (b : Nat) (k : List UInt8) (hk : k.length = 256) (hb : w.heap[b]? = some (.cells (cv k).toArray 86 (0, 0))) (p : Nat) (hp : p < 4) (c : Clus) (hc : c.length = 64) :
    Calls Try.prog 68 #[.pointer (some ⟨b, 0, none⟩), .int .i64 (p : Nat), .agg (cv c).toArray] w fun e w' => e = .returned (.tuple #[]) ∧ w'.heap[b]? = some (.cells (cv (setPart k p c)).toArray 86 (0, 0)) ∧ Kept (fun x => x = b) w w' := by
  have hbl := blk_lt hb
  have hk1 := ((Kept.refl (fun x => x = b) w).alloc (.cells (cv c).toArray 26)).drew
  have hb1 : (w.alloc (.cells (cv c).toArray 26)).drew.heap[b]? = some (.cells (cv k).toArray 86 (0, 0)) := (Below.heap_alloc _ _ _ hbl).trans hb
  have hx1 : (w.alloc (.cells (cv c).toArray 26)).drew.heap[w.heap.size]? = some (.cells (cv c).toArray 26 (0, 0)) := heap_alloc_new w _
  have hcp := fun n hn => run_copy_part _ b _ p _ _ k c hk hc hp hb1 hx1 n hn
  have hk2 := hk1.setCells (b := b) (Or.inl rfl) (64 * p) (cv c)
  have hb2 := heap_setCells_same (cv c) (64 * p) _ _ _ _ _ hb1
  rw [setPart_cells k p c hk hc hp] at hb2
  have HK := hide hk2
  have HB := hide hb2
  clear hb1 hx1 hk1 hk2 hb2
  rcases (show p = 0 ∨ p = 1 ∨ p = 2 ∨ p = 3 by omega) with rfl | rfl | rfl | rfl
  · have hcp1 := hcp 256 rfl
    simp only [Nat.reduceMul] at hcp1
    clear hcp
    go_enter Try.func68, Try.ntmps68
    go_wp2
    go_region
    go_end0
    exact ⟨rfl, unhide HB, unhide HK⟩
  · have hcp1 := hcp 192 rfl
    simp only [Nat.reduceMul] at hcp1
    clear hcp
    go_enter Try.func68, Try.ntmps68
    go_wp2
    go_region
    go_end0
    exact ⟨rfl, unhide HB, unhide HK⟩
  · have hcp1 := hcp 128 rfl
    simp only [Nat.reduceMul] at hcp1
    clear hcp
    go_enter Try.func68, Try.ntmps68
    go_wp2
    go_region
    go_end0
    exact ⟨rfl, unhide HB, unhide HK⟩
  · have hcp1 := hcp 64 rfl
    simp only [Nat.reduceMul] at hcp1
    clear hcp
    go_enter Try.func68, Try.ntmps68
    go_wp2
    go_region
    go_end0
    exact ⟨rfl, unhide HB, unhide HK⟩

def partOf (k : List UInt8) (p : Nat) : Clus := (k.drop (64 * p)).take 64
theorem partOf_length (k : List UInt8) (p : Nat) (hk : k.length = 256) (hp : p < 4) : (partOf k p).length = 64 := by simp [partOf, hk]; omega
theorem part_range {w : World} {b : Nat} {k : List UInt8} {t : TypeId} {fr : Nat × Nat} (hb : w.heap[b]? = some (.cells (cv k).toArray t fr)) (p : Nat) : w.rangeAt b (64 * p) (cv (partOf k p)) := fun j v hv => by
  rw [cell_blk hb, List.getElem?_toArray]
  simp only [cv, List.getElem?_map, partOf] at hv ⊢
  rw [List.getElem?_take] at hv
  split at hv
  · rw [List.getElem?_drop] at hv; exact hv
  · cases hv

theorem run_arrayAt (w : World) (a : Addr) (cap : Nat) : (Instr.arrayAt 26 (.slice (some a) 64 cap)).run Try.prog w = .ok (.pointer (some a)) w := by
  unfold Instr.arrayAt
  simp [run_underlying Try.underlying26, go_sem]
attribute [local go_sem] run_arrayAt
set_option maxHeartbeats 1000000 in
set_option maxRecDepth 100000 in
theorem part_any (w : World) (k : List UInt8) (hk : k.length = 256) (p : Nat) (hp : p < 4) :
    Calls Try.prog 69 #[.agg (cv k).toArray, .int .i64 (p : Nat)] w fun e w' => e = .returned (.agg (cv (partOf k p)).toArray) ∧ Below w.heap.size w w' := by
  have L0 := Locs.two w (.cells (cv k).toArray 86) (.cells (cv zc).toArray 26)
  have hpl := partOf_length k p hk hp
  have l1 := hasAt_of_range (n := 64) (part_range L0.o0 p) (by rw [cv_length, hpl])
  have l2 := cellsAt_of_range (n := 64) (part_range L0.o0 p) (by rw [cv_length, hpl])
  have th := there_blk L0.o1 0 64 (by simp [cv_length, zc_length])
  have hset := L0.setCells 1 rfl 0 (cv (partOf k p))
  rw [setList_all _ _ (by simp [cv_length, zc_length, hpl])] at hset
  have l3 := box_has hset.o1 hpl
  have l4 := box_cells hset.o1 hpl
  have HB := hide hset.below
  clear L0 hset
  rcases (show p = 0 ∨ p = 1 ∨ p = 2 ∨ p = 3 by omega) with rfl | rfl | rfl | rfl
  all_goals
    generalize hcc : partOf k _ = c at *
    simp only [Nat.reduceMul] at l1 l2
    go_enter Try.func69, Try.ntmps69
    go_wp2
    refine bodyPost_ret (results_cell Try.results69 ⟨w.heap.size + 1, 0, none⟩ rfl ?_) rfl ⟨rfl, unhide HB⟩
    rw [loadVar_clus, run_loadClus l3, l4]
end Go.Proofs.Ytknjjjenklfeoaa

/-
  Small functions of the statements: sameFile, marked.
-/
namespace Go.Proofs.Ytknjjjenklfeoaa
open Go.RowKit
attribute [local go_sem ↓] loadVar_clus storeVar_clus zeroValue_clus equalIn_clus
attribute [local go_sem] run_loadClus run_storeClus run_zeroClus zc_length
end Go.Proofs.Ytknjjjenklfeoaa

/-
  append, and what it leaves alone: either the new slice lies in the old block, and no other block has turned; or it lies in a new one, and no old block has turned.
-/
namespace Go.Proofs.Ytknjjjenklfeoaa
open Go.RowKit
variable {P : Program} (w : World)

end Go.Proofs.Ytknjjjenklfeoaa

/-
  The book of lists that came out: what it holds in memory.
-/
namespace Go.Proofs.Ytknjjjenklfeoaa
open Go.RowKit

/-- A slice of two clusters is built. -/
theorem run_buildSlice_two {P : Program} (w : World) (t e : TypeId) (n : Nat) (z v u : Value) (ht : P.underlying t = some (.slice e)) (hi : (P.info? e).map (fun i => (i.zero, i.size)) = some (some z, n)) (h0 : 0 < n) (hn : n ≤ 1000000) (hv : v.cells.size = n) (hu : u.cells.size = n) :
    (Instr.buildSlice t 2 #[(0, v), (1, u)]).run P w = .ok (.slice (some ⟨w.heap.size, 0, none⟩) 2 2) (w.alloc (.cells (v.cells.toList ++ u.cells.toList).toArray e)) := by
  obtain ⟨hz, hs⟩ := zero_of_info hi
  cases hq : P.info? e with
  | none => simp [hq] at hs
  | some i =>
    have hsz : i.size = n := by simpa [hq] using hs
    have hf : Instr.fill (fun i => some (i * n, n)) ((Array.range (2 * n)).map (z.cells[· % z.cells.size]!)) [(0, v), (1, u)] = some (v.cells.toList ++ u.cells.toList).toArray := by
      generalize hA : (Array.range (2 * n)).map (z.cells[· % z.cells.size]!) = A
      have hAs : A.toList.length = 2 * n := by rw [← hA]; simp
      rw [fill_one _ _ 0 0 n v _ (by simp) hv (by rw [← hA]; simp; omega), fill_one _ _ 1 n n u [] (by simp) hu (by rw [setList_size, ← hA]; simp; omega), Instr.fill]
      have e1 : setList A 0 v.cells.toList = (v.cells.toList ++ A.toList.drop n).toArray := by
        have e0 : A = (A.toList.take n ++ A.toList.drop n).toArray := by rw [List.take_append_drop]
        conv => lhs; rw [e0]
        exact setList_front _ _ _ (by simp [hv]; rw [← Array.length_toList]; omega)
      rw [e1]
      have e2 := setList_back v.cells.toList (A.toList.drop n) u.cells.toList (by simp [hu]; rw [← Array.length_toList]; omega)
      rw [show v.cells.toList.length = n by simp [hv]] at e2
      rw [e2]
    unfold Instr.buildSlice
    rw [Sem.run_bind, run_underlying ht w]
    simp only [Result.andThen_ok, Go.sizeOf, typeInfo, Sem.run_bind, run_program, hq, Sem.run_pure, hsz]
    rw [if_neg (by omega), if_neg (by omega)]
    simp only [Sem.run_bind, hz, Result.andThen_ok, Sem.run_pure, hf]
    simp [newRow]
end Go.Proofs.Ytknjjjenklfeoaa

/-
  The book takes a file's list: ownsFile.
-/
namespace Go.Proofs.Ytknjjjenklfeoaa
open Go.RowKit
attribute [local go_sem ↓] loadVar_clus storeVar_clus zeroValue_clus buildSlice_clus
attribute [local go_sem] run_loadClus run_storeClus run_zeroClus zc_length run_bsClus
end Go.Proofs.Ytknjjjenklfeoaa

/-
  Writes of the log: built, stored into a row, put into a slice; a row of wide elements, one of them written over.
-/
namespace Go.Proofs.Ytknjjjenklfeoaa
open Go.RowKit

theorem run_storeWr {w : World} {b o : Nat} {x : WrR} (ht : w.there b o 65) (hc : x.data.length = 64) : (storeWr ⟨b, o, none⟩ (.agg (wrCells x).toArray)).run Try.prog w = .ok () (w.setCells b o (wrCells x)) := by
  have := run_storeVar_mid (P := Try.prog) w b o 116 (wrCells x).toArray (by simpa [wrCells_length hc] using ht) (by simp only [List.size_toArray, wrCells_length hc]; kernel_rfl) (all_oneCell_toArray (wrCells_one x))
  simpa [storeWr] using this
def bWr (parts : Array (Nat × Value)) : Sem Value := Instr.build 116 parts
theorem build_wr (parts : Array (Nat × Value)) : Instr.build 116 parts = bWr parts := rfl
theorem run_bWr0 (n : Int) (w : World) : (bWr #[(0, .int .i64 n)]).run Try.prog w = .ok (.agg (wrCells ⟨n, zc⟩).toArray) w := by
  have hz := (zero_of_info (P := Try.prog) (t := 116) (v := .agg (wrCells ⟨0, zc⟩).toArray) (n := 65) (by kernel_rfl)).1
  have hf : Instr.fill (fun x => (#[(0, 1), (1, 64)] : Array (Nat × Nat))[x]?) ([Value.int .i64 0] ++ cv zc).toArray [(0, Value.int .i64 n)] = some (wrCells ⟨n, zc⟩).toArray := by
    rw [fill_one _ _ 0 0 1 (.int .i64 n) [] (by rfl) (by rfl) (by simp), Instr.fill, show (Value.int .i64 n).cells.toList = [Value.int .i64 n] from rfl, setList_front [Value.int .i64 0] (cv zc) [Value.int .i64 n] rfl]
    rfl
  exact run_build_struct w 116 _ (.agg (wrCells ⟨0, zc⟩).toArray) #[(0, 1), (1, 64)] #[(0, .int .i64 n)] _ Try.underlying116 hz (fun w => by kernel_rfl) hf
def bsWr (parts : Array (Nat × Value)) : Sem Value := Instr.buildSlice 69 1 parts
theorem buildSlice_wr (parts : Array (Nat × Value)) : Instr.buildSlice 69 1 parts = bsWr parts := rfl
theorem run_bsWr {w : World} {x : WrR} (hc : x.data.length = 64) : (bsWr #[(0, .agg (wrCells x).toArray)]).run Try.prog w = .ok (.slice (some ⟨w.heap.size, 0, none⟩) 1 1) (w.alloc (.cells (wrCells x).toArray 116)) :=
  run_buildSlice_one w 69 116 65 (.agg (wrCells ⟨0, zc⟩).toArray) (.agg (wrCells x).toArray) Try.underlying69 (by kernel_rfl) (by omega) (by omega) (by simp [Value.cells, wrCells_length hc])
theorem Try.infoWr : (Try.prog.info? 116).map (fun i => (i.zero, i.size, i.bytes)) = some (some (.agg (wrCells ⟨0, zc⟩).toArray), 65, 72) := by kernel_rfl
theorem Try.infoInt : (Try.prog.info? 3).map (fun i => (i.zero, i.size, i.bytes)) = some (some (.int .i64 0), 1, 8) := by kernel_rfl
theorem flatW_snoc (l : List WrR) (x : WrR) : flatW (l ++ [x]) = flatW l ++ wrCells x := by simp [flatW]

end Go.Proofs.Ytknjjjenklfeoaa

/-
  The program's volume in memory: the clusters, the log, whether something is loose; what a call does to it and leaves alone.
-/
namespace Go.Proofs.Ytknjjjenklfeoaa
open Go.RowKit

structure VolR where
  C : List Clus
  L : List WrR
  loose : Bool
  short : Bool
def volCells (Cv Lv : Value) (V : VolR) : List Value := [Cv, Lv, .bool V.loose, .bool V.short]

structure VolAt (w : World) (v : Nat) (Cv Lv : Value) (V : VolR) : Prop where
  blk : w.heap[v]? = some (.cells (volCells Cv Lv V).toArray 73 (0, 0))
  rowC : w.ownsRow 0 26 64 Cv V.C.length (flatC V.C)
  rowL : w.ownsRow 0 116 65 Lv V.L.length (flatW V.L)
  lenC : ∀ c ∈ V.C, c.length = 64
  lenL : ∀ x ∈ V.L, x.data.length = 64
  sh : V.short = true → 0 < V.C.length

/-- The blocks that a volume lies in. -/
def foot (v : Nat) (Cv Lv : Value) (k : Nat) : Prop := k = v ∨ Cv.ownBlock = some k ∨ Lv.ownBlock = some k

section
variable {w w' : World} {v : Nat} {Cv Lv : Value} {V : VolR}
theorem VolAt.c0 (h : VolAt w v Cv Lv V) : w.cell? ⟨v, 0, none⟩ = some Cv := by rw [cell_blk h.blk]; rfl
theorem VolAt.c1 (h : VolAt w v Cv Lv V) : w.cell? ⟨v, 1, none⟩ = some Lv := by rw [cell_blk h.blk]; rfl
theorem VolAt.c2 (h : VolAt w v Cv Lv V) : w.cell? ⟨v, 2, none⟩ = some (.bool V.loose) := by rw [cell_blk h.blk]; rfl
theorem VolAt.c3 (h : VolAt w v Cv Lv V) : w.cell? ⟨v, 3, none⟩ = some (.bool V.short) := by rw [cell_blk h.blk]; rfl
theorem VolAt.fz (h : VolAt w v Cv Lv V) (i : Nat) : w.frozen? ⟨v, i, none⟩ = false := frozen_blk h.blk i
theorem VolAt.lt (h : VolAt w v Cv Lv V) : v < w.heap.size := blk_lt h.blk
theorem VolAt.neC (h : VolAt w v Cv Lv V) : ∀ g, Cv.ownBlock = some g → g ≠ v := row_ne h.rowC h.blk (by decide)
theorem VolAt.neL (h : VolAt w v Cv Lv V) : ∀ g, Lv.ownBlock = some g → g ≠ v := row_ne h.rowL h.blk (by decide)
theorem VolAt.neCL (h : VolAt w v Cv Lv V) : ∀ g, Lv.ownBlock = some g → Cv.ownBlock ≠ some g := by
  intro g hg hl
  rcases h.rowC.2 with ⟨rfl, _⟩ | ⟨g', cap, cur, rfl, _, hh, _⟩
  · cases hl
  · simp only [Value.ownBlock, Option.some.injEq] at hl
    subst hl
    exact row_ne h.rowL hh (by decide) _ hg rfl
theorem VolAt.foot_lt (h : VolAt w v Cv Lv V) : ∀ k, foot v Cv Lv k → k < w.heap.size := by
  rintro k (rfl | hk | hk)
  · exact h.lt
  · exact (h.rowC.lt k hk).2
  · exact (h.rowL.lt k hk).2
theorem VolAt.kept {S : Nat → Prop} (h : VolAt w v Cv Lv V) (hk : Kept S w w') (hs : ∀ k, foot v Cv Lv k → ¬ S k) : VolAt w' v Cv Lv V :=
  ⟨hk.blk (hs v (Or.inl rfl)) h.blk, ownsRow_kept hk h.rowC (fun g hg => hs g (Or.inr (Or.inl hg))), ownsRow_kept hk h.rowL (fun g hg => hs g (Or.inr (Or.inr hg))), h.lenC, h.lenL, h.sh⟩
theorem VolAt.below (h : VolAt w v Cv Lv V) (hb : Below w.heap.size w w') : VolAt w' v Cv Lv V := h.kept (S := fun _ => False) (Kept.of_below hb) (fun _ _ => id)
theorem VolAt.drew (h : VolAt w v Cv Lv V) : VolAt w.drew v Cv Lv V := h.kept (S := fun _ => False) ((Kept.refl _ _).drew) (fun _ _ => id)
theorem VolAt.drewN (h : VolAt w v Cv Lv V) (n : Nat) : VolAt (w.drewN n) v Cv Lv V := h.kept (S := fun _ => False) ((Kept.refl _ _).drewN n) (fun _ _ => id)
theorem VolAt.alloc (h : VolAt w v Cv Lv V) (o : Obj) : VolAt (w.alloc o) v Cv Lv V := h.below ((Below.refl _ _).alloc (Nat.le_refl _) _)
end

/-- A call has done something to a volume: what it is then; nothing that is not the volume's has turned; it lies where it lay, or in new blocks. -/
structure VStep (w w' : World) (v : Nat) (Cv Lv Cv' Lv' : Value) (V' : VolR) : Prop where
  at' : VolAt w' v Cv' Lv' V'
  kept : Kept (foot v Cv Lv) w w'
  new : ∀ k, foot v Cv' Lv' k → foot v Cv Lv k ∨ w.heap.size ≤ k
section
variable {w w1 w2 : World} {v : Nat} {Cv Lv C1 L1 C2 L2 : Value} {V V1 V2 : VolR}
theorem VStep.refl (h : VolAt w v Cv Lv V) : VStep w w v Cv Lv Cv Lv V := ⟨h, Kept.refl _ _, fun _ hk => Or.inl hk⟩
theorem VStep.trans (h : VStep w w1 v Cv Lv C1 L1 V1) (k : VStep w1 w2 v C1 L1 C2 L2 V2) : VStep w w2 v Cv Lv C2 L2 V2 :=
  ⟨k.at', ⟨k.kept.os.trans h.kept.os, k.kept.tape.trans h.kept.tape, k.kept.output.trans h.kept.output, Nat.le_trans h.kept.size k.kept.size, fun i hi hs => by
    rw [k.kept.block i (Nat.lt_of_lt_of_le hi h.kept.size) (fun hf => (h.new i hf).elim hs (by omega))]
    exact h.kept.block i hi hs⟩, fun i hi => (k.new i hi).elim (h.new i) (fun hle => Or.inr (Nat.le_trans h.kept.size hle))⟩
theorem VStep.later (h : VStep w w1 v Cv Lv C1 L1 V1) (hb : Below w1.heap.size w1 w2) : VStep w w2 v Cv Lv C1 L1 V1 :=
  ⟨h.at'.below hb, h.kept.trans (Kept.of_below hb), h.new⟩
theorem VStep.drew (h : VStep w w1 v Cv Lv C1 L1 V1) : VStep w w1.drew v Cv Lv C1 L1 V1 := ⟨h.at'.drew, h.kept.drew, h.new⟩
theorem VStep.drewN (h : VStep w w1 v Cv Lv C1 L1 V1) (n : Nat) : VStep w (w1.drewN n) v Cv Lv C1 L1 V1 := ⟨h.at'.drewN n, h.kept.drewN n, h.new⟩
theorem VStep.alloc (h : VStep w w1 v Cv Lv C1 L1 V1) (o : Obj) : VStep w (w1.alloc o) v Cv Lv C1 L1 V1 := h.later ((Below.refl _ _).alloc (Nat.le_refl _) _)
/-- What was turned was the caller's own. -/
theorem VStep.own (h : VStep w w1 v Cv Lv C1 L1 V1) {S : Nat → Prop} (hk : Kept S w1 w2) (hs : ∀ k, S k → w.heap.size ≤ k ∧ ¬ foot v C1 L1 k) : VStep w w2 v Cv Lv C1 L1 V1 :=
  ⟨h.at'.kept hk (fun k hf hS => (hs k hS).2 hf), ⟨hk.os.trans h.kept.os, hk.tape.trans h.kept.tape, hk.output.trans h.kept.output, Nat.le_trans h.kept.size hk.size, fun i hi hf => by
    rw [hk.block i (Nat.lt_of_lt_of_le hi h.kept.size) (fun hS => by have := (hs i hS).1; omega)]; exact h.kept.block i hi hf⟩, h.new⟩
end

/-- A volume and blocks of a call's own beside it. -/
structure Env (w w' : World) (v : Nat) (Cv Lv Cv' Lv' : Value) (V' : VolR) (bs : List (Nat × Obj)) : Prop where
  step : VStep w w' v Cv Lv Cv' Lv' V'
  objs : ∀ x ∈ bs, w'.heap[x.1]? = some x.2 ∧ w.heap.size ≤ x.1 ∧ ¬ foot v Cv' Lv' x.1
section
variable {w w1 w2 : World} {v : Nat} {Cv Lv C1 L1 C2 L2 : Value} {V V1 V2 : VolR} {bs : List (Nat × Obj)}
theorem Env.start (h : VolAt w v Cv Lv V) : Env w w v Cv Lv Cv Lv V [] := ⟨VStep.refl h, fun _ hx => by simp at hx⟩
theorem Env.does (h : Env w w1 v Cv Lv C1 L1 V1 bs) (k : VStep w1 w2 v C1 L1 C2 L2 V2) : Env w w2 v Cv Lv C2 L2 V2 bs :=
  ⟨h.step.trans k, fun x hx => by
    obtain ⟨h1, h2, h3⟩ := h.objs x hx
    exact ⟨(k.kept.block x.1 (blk_lt h1) h3).trans h1, h2, fun hf => (k.new x.1 hf).elim h3 (by have := blk_lt h1; omega)⟩⟩
theorem Env.later (h : Env w w1 v Cv Lv C1 L1 V1 bs) (hb : Below w1.heap.size w1 w2) : Env w w2 v Cv Lv C1 L1 V1 bs :=
  ⟨h.step.later hb, fun x hx => by obtain ⟨h1, h2, h3⟩ := h.objs x hx; exact ⟨(hb.block _ (blk_lt h1)).trans h1, h2, h3⟩⟩
theorem Env.drew (h : Env w w1 v Cv Lv C1 L1 V1 bs) : Env w w1.drew v Cv Lv C1 L1 V1 bs := ⟨h.step.drew, h.objs⟩
theorem Env.drewN (h : Env w w1 v Cv Lv C1 L1 V1 bs) (n : Nat) : Env w (w1.drewN n) v Cv Lv C1 L1 V1 bs := ⟨h.step.drewN n, h.objs⟩
theorem Env.lay (h : Env w w1 v Cv Lv C1 L1 V1 bs) (o : Obj) : Env w (w1.alloc o) v Cv Lv C1 L1 V1 ((w1.heap.size, o) :: bs) :=
  ⟨h.step.alloc o, fun x hx => by
    rcases List.mem_cons.1 hx with rfl | hx
    · exact ⟨heap_alloc_new w1 o, h.step.kept.size, fun hf => by have := h.step.at'.foot_lt _ hf; omega⟩
    · obtain ⟨h1, h2, h3⟩ := h.objs x hx; exact ⟨(Below.heap_alloc _ _ _ (blk_lt h1)).trans h1, h2, h3⟩⟩
theorem Env.alloc (h : Env w w1 v Cv Lv C1 L1 V1 bs) (o : Obj) : Env w (w1.alloc o) v Cv Lv C1 L1 V1 bs := h.later ((Below.refl _ _).alloc (Nat.le_refl _) _)
theorem Env.sub {cs : List (Nat × Obj)} (h : Env w w1 v Cv Lv C1 L1 V1 bs) (hs : ∀ x ∈ cs, x ∈ bs) : Env w w1 v Cv Lv C1 L1 V1 cs := ⟨h.step, fun x hx => h.objs x (hs x hx)⟩
/-- One of the call's own blocks, the first of the list, turns. -/
theorem Env.put {b : Nat} {o o' : Obj} (h : Env w w1 v Cv Lv C1 L1 V1 ((b, o) :: bs)) (hne : ∀ x ∈ bs, x.1 ≠ b) (hk : Kept (fun x => x = b) w1 w2) (ho : w2.heap[b]? = some o') : Env w w2 v Cv Lv C1 L1 V1 ((b, o') :: bs) := by
  obtain ⟨h1, h2, h3⟩ := h.objs (b, o) (by simp)
  refine ⟨h.step.own hk (by rintro k rfl; exact ⟨h2, h3⟩), fun x hx => ?_⟩
  rcases List.mem_cons.1 hx with rfl | hx
  · exact ⟨ho, h2, h3⟩
  · obtain ⟨y1, y2, y3⟩ := h.objs x (by simp [hx])
    exact ⟨hk.blk (hne x hx) y1, y2, y3⟩
theorem Env.at' (h : Env w w1 v Cv Lv C1 L1 V1 bs) : VolAt w1 v C1 L1 V1 := h.step.at'
theorem Env.o0 {b : Nat} {o : Obj} (h : Env w w1 v Cv Lv C1 L1 V1 ((b, o) :: bs)) : w1.heap[b]? = some o := (h.objs (b, o) (by simp)).1
theorem Env.o1 {a b : Nat} {p o : Obj} (h : Env w w1 v Cv Lv C1 L1 V1 ((a, p) :: (b, o) :: bs)) : w1.heap[b]? = some o := (h.objs (b, o) (by simp)).1
theorem Env.o2 {a b c : Nat} {p q o : Obj} (h : Env w w1 v Cv Lv C1 L1 V1 ((a, p) :: (c, q) :: (b, o) :: bs)) : w1.heap[b]? = some o := (h.objs (b, o) (by simp)).1
end

end Go.Proofs.Ytknjjjenklfeoaa

/-
  The program's store: At, Flush.
-/
namespace Go.Proofs.Ytknjjjenklfeoaa
open Go.RowKit
attribute [local go_sem ↓] loadVar_clus storeVar_clus zeroValue_clus loadVar_tab storeVar_tab zeroValue_tab loadVar_cnt storeVar_cnt zeroValue_cnt loadVar_head storeVar_head zeroValue_head build_head buildSlice_clus loadVar_wr storeVar_wr zeroValue_wr build_wr buildSlice_wr
attribute [local go_sem] run_loadClus run_storeClus run_zeroClus run_storeClus_new run_loadClus_new zc_length run_loadTab run_storeTab run_zeroTab run_storeTab_new run_loadTab_new zt_length run_loadCnt run_storeCnt run_zeroCnt run_storeCnt_new run_loadCnt_new zk_length run_loadHead run_storeHead run_zeroHead run_storeHead_new run_bHead HasAt_drew cellsAt_drew HasAt_drewN cellsAt_drewN run_bsClus run_loadWr run_zeroWr run_storeWr run_storeWr_new run_bWr0 run_bsWr
set_option maxHeartbeats 1000000 in
set_option maxRecDepth 100000 in
theorem at_any (w : World) (v : Nat) (Cv Lv : Value) (V : VolR) (h : VolAt w v Cv Lv V) (n : Nat) (hn : n < V.C.length) :
    Calls Try.prog 55 #[.pointer (some ⟨v, 0, none⟩), .int .i64 (n : Nat)] w fun e w' => e = .returned (.agg (cv (cl V.C n)).toArray) ∧ Below w.heap.size w w' := by
  obtain ⟨g, cap, rfl, _⟩ := row_some h.rowC (by omega)
  have L0 := Locs.one w (.cells (cv zc).toArray 26)
  have h1 := h.below L0.below
  have c0 := h1.c0
  have l1 := row_has h1.rowC h1.lenC n hn
  have l2 := row_cells h1.rowC h1.lenC n hn
  have hcl := cl_length h.lenC hn
  have hni : (n : Int) < (V.C.length : Int) := by omega
  have HB := hide L0.below
  generalize hcc : cl V.C n = c at *
  have HB := hide ((unhide HB).alloc (o := .cells (cv c).toArray 26) (by simp))
  have HB2 : Hid (Below w.heap.size w (w.alloc (.cells (cv c).toArray 26))) := (Below.refl _ _).alloc (Nat.le_refl _) _
  clear HB h1 h L0
  go_enter Try.func55, Try.ntmps55
  go_wp2
  refine bodyPost_ret (results_cell Try.results55 ⟨w.heap.size, 0, none⟩ rfl ?_) rfl ⟨rfl, unhide HB2⟩
  rw [loadVar_clus, run_loadClus_new hcl]

def flushW : WrR := ⟨-1, zc⟩
def flushV (V : VolR) : VolR := if V.loose then ⟨V.C, V.L ++ [flushW], false, V.short⟩ else V
/-- The log's slice and its row are others. -/
theorem VolAt.growLog {w w5 : World} {v : Nat} {Cv Lv v' : Value} {V : VolR} {L' : List WrR} {l : Bool} (h : VolAt w v Cv Lv V) (hg : w.grownBy w5 Lv.ownBlock) (hrow : w5.ownsRow 0 116 65 v' L'.length (flatW L')) (hL' : ∀ x ∈ L', x.data.length = 64) (hat : ∀ g, v'.ownBlock = some g → Lv.ownBlock = some g ∨ w.heap.size ≤ g) :
    VStep w ((w5.setCell ⟨v, 1, none⟩ v').setCell ⟨v, 2, none⟩ (.bool l)) v Cv Lv Cv v' ⟨V.C, L', l, V.short⟩ := by
  have b5 : w5.heap[v]? = some (.cells (volCells Cv Lv V).toArray 73 (0, 0)) := grown_blk hg h.blk h.neL
  have b6 := heap_setCell_same _ _ 2 (.bool l) _ _ _ (heap_setCell_same w5 v 1 v' _ _ _ b5)
  have hk5 : Kept (fun k => Lv.ownBlock = some k) w w5 := ⟨hg.os, hg.tape, hg.output, hg.size, fun k hk hs => hg.block k hk (fun e => hs e.symm)⟩
  have hkS : Kept (fun k => k = v) w5 ((w5.setCell ⟨v, 1, none⟩ v').setCell ⟨v, 2, none⟩ (.bool l)) := (Kept.only w5 v 1 v').trans (Kept.only _ v 2 _)
  refine ⟨⟨?_, ?_, ?_, h.lenC, hL', h.sh⟩, ?_, ?_⟩
  · rw [b6]; rfl
  · refine ownsRow_kept hkS (ownsRow_kept hk5 h.rowC (fun g hg' hl => h.neCL g hl hg')) (fun g hg' => h.neC g hg')
  · exact ownsRow_kept hkS hrow (fun g hg' e => by
      subst e
      rcases hat _ hg' with h1 | h1
      · exact h.neL _ h1 rfl
      · have := h.lt; omega)
  · exact (hk5.mono (fun k hk => Or.inr (Or.inr hk))).trans (hkS.mono (fun k hk => Or.inl hk))
  · rintro k (rfl | hk | hk)
    · exact Or.inl (Or.inl rfl)
    · exact Or.inl (Or.inr (Or.inl hk))
    · rcases hat k hk with h1 | h1
      · exact Or.inl (Or.inr (Or.inr h1))
      · exact Or.inr h1

set_option maxHeartbeats 1000000 in
set_option maxRecDepth 100000 in
theorem flush_any (w : World) (v : Nat) (Cv Lv : Value) (V : VolR) (h : VolAt w v Cv Lv V) (hL : V.L.length ≤ 1000000000) :
    Calls Try.prog 35 #[.pointer (some ⟨v, 0, none⟩)] w fun e w' => e = .returned (.tuple #[]) ∧ ∃ Cv' Lv', VStep w w' v Cv Lv Cv' Lv' (flushV V) := by
  have c2 := h.c2
  cases hl : V.loose with
  | false =>
    rw [hl] at c2
    have HR := hide (VStep.refl h)
    have HV : Hid (flushV V = V) := by unfold flushV; rw [hl]; rfl
    go_enter Try.func35, Try.ntmps35
    go_wp2
    refine bodyPost_ret (results_none rfl _ _ _) rfl ?_
    exact ⟨rfl, Cv, Lv, by rw [unhide HV]; exact unhide HR⟩
  | true =>
    rw [hl] at c2
    have c1 := h.c1
    obtain ⟨i0, hi0, hz0, hz1, hz2⟩ := info_parts Try.infoWr
    have HV : Hid (flushV V = ⟨V.C, V.L ++ [flushW], false, V.short⟩) := by unfold flushV; rw [hl]; rfl
    have hfz := h.fz
    have H := hide h
    have c1' : ∀ o, (w.alloc o).cell? ⟨v, 1, none⟩ = some Lv := fun o => (h.alloc o).c1
    clear h
    go_enter Try.func35, Try.ntmps35
    go_wp2_with (at_builtin; refine wpList_append_lies _ rfl _ _ _ rfl 0 116 i0 _ 65 72 Try.underlying69 hi0 hz0 hz1 hz2 (by simp [Value.cells, wrCells, cv_length, zc_length]) (by omega) Lv V.L.length (flatW V.L) rfl ((unhide H).alloc _).rowL ⟨w.heap.size, 0, none⟩ 1 1 (wrCells flushW) rfl (by rw [wrCells_length zc_length]) (World.news_of_block (cs := (wrCells flushW).toArray) (t := 116) (fr := (0, 0)) (heap_alloc_new w _)) (wrCells_one flushW) (by omega) (by unfold maxLen; omega) (by omega) (by omega) (w.heap.size + 1) (by simp) ?_; intro g5 cap5 w5 hown5 hgrow hat hlt5; have b5 := hide (grown_blk hgrow ((unhide H).alloc _).blk (unhide H).neL); have c51 : w5.cell? ⟨v, 1, none⟩ = some Lv := (cell_blk (unhide b5) 1).trans rfl; have c52 : w5.cell? ⟨v, 2, none⟩ = some (.bool V.loose) := (cell_blk (unhide b5) 2).trans rfl; have z5 : ∀ i, w5.frozen? ⟨v, i, none⟩ = false := fun i => frozen_blk (unhide b5) i)
    go_end0
    refine ⟨rfl, Cv, .slice (some ⟨g5, 0, none⟩) (V.L.length + 1) cap5, ?_⟩
    rw [unhide HV]
    refine (VStep.alloc (VStep.refl (unhide H)) _).trans (VolAt.growLog ((unhide H).alloc _) hgrow (L' := V.L ++ [flushW]) ?_ ?_ ?_)
    · rw [flatW_snoc, List.length_append]; exact hown5
    · intro x hx
      rcases List.mem_append.1 hx with hx | hx
      · exact (unhide H).lenL x hx
      · rw [List.mem_singleton.1 hx]; exact zc_length
    · intro g hg
      simp only [Value.ownBlock, Option.some.injEq] at hg
      subst hg
      rcases hat with h1 | h1
      · exact Or.inl h1
      · right; simp; omega
end Go.Proofs.Ytknjjjenklfeoaa
