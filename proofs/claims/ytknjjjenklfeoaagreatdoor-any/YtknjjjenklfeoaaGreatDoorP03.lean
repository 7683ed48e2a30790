import Derived.Test.YtknjjjenklfeoaaGreatDoorP00
import Derived.Test.YtknjjjenklfeoaaGreatDoorP02
import Derived.Lib.EndianBits
import Derived.Deep.RegionLaw
/-
  The program's own arrays: a table (32 numbers), the counts (256 bytes), a place; read, written, laid at once.
-/
namespace Go.Proofs.YtknjjjenklfeoaaGreatDoor
open Go.RowKit

def tv (T : List Nat) : List Value := T.map fun n => .int .u16 (n : Nat)
theorem tv_length (T : List Nat) : (tv T).length = T.length := by simp [tv]
theorem tv_get (T : List Nat) (i : Nat) (h : i < T.length) : (tv T)[i]? = some (.int .u16 ((T.getD i 0 : Nat) : Int)) := by
  simp [tv, h, List.getD]
theorem tv_one (T : List Nat) : ∀ v ∈ tv T, v.oneCell' = true := by
  intro v hv
  simp only [tv, List.mem_map] at hv
  obtain ⟨b, _, rfl⟩ := hv
  rfl
def zt : List Nat := List.replicate 32 0
theorem zt_length : zt.length = 32 := by simp [zt]

def loadTab (a : Addr) : Sem Value := loadVar 169 a
theorem loadVar_tab (a : Addr) : loadVar 169 a = loadTab a := rfl
theorem run_loadTab {w : World} {b o : Nat} (h : HasAt w b o 32) : (loadTab ⟨b, o, none⟩).run Tryz.prog w = .ok (.agg (cellsAt w b o 32).toArray) w :=
  run_loadVar_has h 169 _ Tryz.underlying169 rfl (by kernel_rfl)
def storeTab (a : Addr) (v : Value) : Sem Unit := storeVar 169 a v
theorem storeVar_tab (a : Addr) (v : Value) : storeVar 169 a v = storeTab a v := rfl
theorem run_storeTab {w : World} {b o : Nat} {T : List Nat} (ht : w.there b o 32) (hT : T.length = 32) : (storeTab ⟨b, o, none⟩ (.agg (tv T).toArray)).run Tryz.prog w = .ok () (w.setCells b o (tv T)) := by
  have := run_storeVar_mid (P := Tryz.prog) w b o 169 (tv T).toArray (by simpa [tv_length, hT] using ht) (by simp only [List.size_toArray, tv_length, hT]; kernel_rfl) (all_oneCell_toArray (tv_one T))
  simpa [storeTab] using this
def zeroTab : Sem Value := zeroValue 169
theorem zeroValue_tab : zeroValue 169 = zeroTab := rfl
theorem run_zeroTab (w : World) : zeroTab.run Tryz.prog w = .ok (.agg (tv zt).toArray) w :=
  (zero_of_info (P := Tryz.prog) (t := 169) (v := .agg (tv zt).toArray) (n := 32) (by kernel_rfl)).1 w
theorem run_storeTab_new {w : World} {z T : List Nat} (hz : z.length = 32) (hT : T.length = 32) :
    (storeTab ⟨w.heap.size, 0, none⟩ (.agg (tv T).toArray)).run Tryz.prog (w.alloc (.cells (tv z).toArray 169)) = .ok () (w.alloc (.cells (tv T).toArray 169)) :=
  run_storeVar_new w 169 (tv z).toArray (tv T).toArray (by simp only [List.size_toArray, tv_length, hT]; kernel_rfl) (by simp [tv_length, hz, hT]) (all_oneCell_toArray (tv_one T))
theorem run_loadTab_new {w : World} {T : List Nat} (hT : T.length = 32) :
    (loadTab ⟨w.heap.size, 0, none⟩).run Tryz.prog (w.alloc (.cells (tv T).toArray 169)) = .ok (.agg (tv T).toArray) (w.alloc (.cells (tv T).toArray 169)) :=
  run_loadVar_new w 169 (tv T).toArray 32 167 Tryz.underlying169 (by simp only [List.size_toArray, tv_length, hT]; kernel_rfl)

def zk : List UInt8 := List.replicate 256 0
theorem zk_length : zk.length = 256 := List.length_replicate
def loadCnt (a : Addr) : Sem Value := loadVar 123 a
theorem loadVar_cnt (a : Addr) : loadVar 123 a = loadCnt a := rfl
theorem run_loadCnt {w : World} {b o : Nat} (h : HasAt w b o 256) : (loadCnt ⟨b, o, none⟩).run Tryz.prog w = .ok (.agg (cellsAt w b o 256).toArray) w :=
  run_loadVar_has h 123 _ Tryz.underlying123 rfl (by kernel_rfl)
def storeCnt (a : Addr) (v : Value) : Sem Unit := storeVar 123 a v
theorem storeVar_cnt (a : Addr) (v : Value) : storeVar 123 a v = storeCnt a v := rfl
theorem run_storeCnt {w : World} {b o : Nat} {c : List UInt8} (ht : w.there b o 256) (hc : c.length = 256) : (storeCnt ⟨b, o, none⟩ (.agg (cv c).toArray)).run Tryz.prog w = .ok () (w.setCells b o (cv c)) := by
  have := run_storeVar_mid (P := Tryz.prog) w b o 123 (cv c).toArray (by simpa [cv_length, hc] using ht) (by simp only [List.size_toArray, cv_length, hc]; kernel_rfl) (all_oneCell_toArray (cv_one c))
  simpa [storeCnt] using this
def zeroCnt : Sem Value := zeroValue 123
theorem zeroValue_cnt : zeroValue 123 = zeroCnt := rfl
theorem run_zeroCnt (w : World) : zeroCnt.run Tryz.prog w = .ok (.agg (cv zk).toArray) w :=
  (zero_of_info (P := Tryz.prog) (t := 123) (v := .agg (cv zk).toArray) (n := 256) (by kernel_rfl)).1 w
theorem run_storeCnt_new {w : World} {z c : List UInt8} (hz : z.length = 256) (hc : c.length = 256) :
    (storeCnt ⟨w.heap.size, 0, none⟩ (.agg (cv c).toArray)).run Tryz.prog (w.alloc (.cells (cv z).toArray 123)) = .ok () (w.alloc (.cells (cv c).toArray 123)) :=
  run_storeVar_new w 123 (cv z).toArray (cv c).toArray (by simp only [List.size_toArray, cv_length, hc]; kernel_rfl) (by simp [cv_length, hz, hc]) (all_oneCell_toArray (cv_one c))
theorem run_loadCnt_new {w : World} {c : List UInt8} (hc : c.length = 256) :
    (loadCnt ⟨w.heap.size, 0, none⟩).run Tryz.prog (w.alloc (.cells (cv c).toArray 123)) = .ok (.agg (cv c).toArray) (w.alloc (.cells (cv c).toArray 123)) :=
  run_loadVar_new w 123 (cv c).toArray 256 5 Tryz.underlying123 (by simp only [List.size_toArray, cv_length, hc]; kernel_rfl)

/-- A block that holds a list of cells: whole. -/
theorem blk_has {w : World} {b : Nat} {cs : List Value} {t : TypeId} {fr : Nat × Nat} (h : w.heap[b]? = some (.cells cs.toArray t fr)) {n : Nat} (hn : cs.length = n) : HasAt w b 0 n := hasAt_of_range (range_blk h) hn
theorem blk_cells {w : World} {b : Nat} {cs : List Value} {t : TypeId} {fr : Nat × Nat} (h : w.heap[b]? = some (.cells cs.toArray t fr)) {n : Nat} (hn : cs.length = n) : cellsAt w b 0 n = cs := cellsAt_of_range (range_blk h) hn

structure PlaceR where
  first : Nat
  inFirst : Nat
  inSecond : Nat
  second : Nat
  block : Nat
  tab : List Nat
def placeCells (p : PlaceR) : List Value := .int .i64 p.first :: .int .i64 p.inFirst :: .int .i64 p.inSecond :: .int .u16 p.second :: .int .u16 p.block :: tv p.tab
theorem placeCells_length (p : PlaceR) (h : p.tab.length = 32) : (placeCells p).length = 37 := by simp [placeCells, tv_length, h]
theorem placeCells_one (p : PlaceR) : ∀ v ∈ placeCells p, v.oneCell' = true := by
  intro v hv
  simp only [placeCells, List.mem_cons] at hv
  rcases hv with rfl | rfl | rfl | rfl | rfl | hv
  · rfl
  · rfl
  · rfl
  · rfl
  · rfl
  · exact tv_one _ v hv
def zp : PlaceR := ⟨0, 0, 0, 0, 0, zt⟩
def loadPlace (a : Addr) : Sem Value := loadVar 171 a
theorem loadVar_place (a : Addr) : loadVar 171 a = loadPlace a := rfl
theorem run_loadPlace {w : World} {b o : Nat} (h : HasAt w b o 37) : (loadPlace ⟨b, o, none⟩).run Tryz.prog w = .ok (.agg (cellsAt w b o 37).toArray) w :=
  run_loadVar_has h 171 _ Tryz.underlying171 rfl (by kernel_rfl)
def storePlace (a : Addr) (v : Value) : Sem Unit := storeVar 171 a v
theorem storeVar_place (a : Addr) (v : Value) : storeVar 171 a v = storePlace a v := rfl
theorem run_storePlace {w : World} {b o : Nat} {p : PlaceR} (ht : w.there b o 37) (hp : p.tab.length = 32) : (storePlace ⟨b, o, none⟩ (.agg (placeCells p).toArray)).run Tryz.prog w = .ok () (w.setCells b o (placeCells p)) := by
  have := run_storeVar_mid (P := Tryz.prog) w b o 171 (placeCells p).toArray (by simpa [placeCells_length p hp] using ht) (by simp only [List.size_toArray, placeCells_length p hp]; kernel_rfl) (all_oneCell_toArray (placeCells_one p))
  simpa [storePlace] using this
def zeroPlace : Sem Value := zeroValue 171
theorem zeroValue_place : zeroValue 171 = zeroPlace := rfl
theorem run_zeroPlace (w : World) : zeroPlace.run Tryz.prog w = .ok (.agg (placeCells zp).toArray) w :=
  (zero_of_info (P := Tryz.prog) (t := 171) (v := .agg (placeCells zp).toArray) (n := 37) (by kernel_rfl)).1 w
theorem run_storePlace_new {w : World} {z p : PlaceR} (hz : z.tab.length = 32) (hp : p.tab.length = 32) :
    (storePlace ⟨w.heap.size, 0, none⟩ (.agg (placeCells p).toArray)).run Tryz.prog (w.alloc (.cells (placeCells z).toArray 171)) = .ok () (w.alloc (.cells (placeCells p).toArray 171)) :=
  run_storeVar_new w 171 (placeCells z).toArray (placeCells p).toArray (by simp only [List.size_toArray, placeCells_length p hp]; kernel_rfl) (by simp [placeCells_length _ hz, placeCells_length _ hp]) (all_oneCell_toArray (placeCells_one p))
def bPlace (parts : Array (Nat × Value)) : Sem Value := Instr.build 171 parts
theorem build_place (parts : Array (Nat × Value)) : Instr.build 171 parts = bPlace parts := rfl
theorem run_bPlace (a b c : Nat) (w : World) : (bPlace #[(0, .int .i64 a), (1, .int .i64 b), (2, .int .i64 c)]).run Tryz.prog w = .ok (.agg (placeCells ⟨a, b, c, 0, 0, zt⟩).toArray) w := by
  have hz := (zero_of_info (P := Tryz.prog) (t := 171) (v := .agg (placeCells zp).toArray) (n := 37) (by kernel_rfl)).1
  exact run_build_struct w 171 _ (.agg (placeCells zp).toArray) #[(0, 1), (1, 1), (2, 1), (3, 1), (4, 1), (5, 32)] #[(0, .int .i64 a), (1, .int .i64 b), (2, .int .i64 c)] _ Tryz.underlying171 hz (fun w => by kernel_rfl) (by rfl)

def hv (a b : Nat) : List Value := [.int .i64 (a : Nat), .int .i64 (b : Nat)]
theorem hv_length (a b : Nat) : (hv a b).length = 2 := rfl
theorem hv_one (a b : Nat) : ∀ v ∈ hv a b, v.oneCell' = true := by
  intro v hv'
  simp only [hv, List.mem_cons, List.not_mem_nil, or_false] at hv'
  rcases hv' with rfl | rfl <;> rfl
def loadHead (a : Addr) : Sem Value := loadVar 128 a
theorem loadVar_head (a : Addr) : loadVar 128 a = loadHead a := rfl
theorem run_loadHead {w : World} {b o : Nat} (h : HasAt w b o 2) : (loadHead ⟨b, o, none⟩).run Tryz.prog w = .ok (.agg (cellsAt w b o 2).toArray) w :=
  run_loadVar_has h 128 _ Tryz.underlying128 rfl (by kernel_rfl)
def storeHead (a : Addr) (v : Value) : Sem Unit := storeVar 128 a v
theorem storeVar_head (a : Addr) (v : Value) : storeVar 128 a v = storeHead a v := rfl
theorem run_storeHead {w : World} {b o : Nat} {x y : Nat} (ht : w.there b o 2) : (storeHead ⟨b, o, none⟩ (.agg (hv x y).toArray)).run Tryz.prog w = .ok () (w.setCells b o (hv x y)) := by
  have := run_storeVar_mid (P := Tryz.prog) w b o 128 (hv x y).toArray (by simpa [hv_length] using ht) (by simp only [List.size_toArray, hv_length]; kernel_rfl) (all_oneCell_toArray (hv_one x y))
  simpa [storeHead] using this
def zeroHead : Sem Value := zeroValue 128
theorem zeroValue_head : zeroValue 128 = zeroHead := rfl
theorem run_zeroHead (w : World) : zeroHead.run Tryz.prog w = .ok (.agg (hv 0 0).toArray) w :=
  (zero_of_info (P := Tryz.prog) (t := 128) (v := .agg (hv 0 0).toArray) (n := 2) (by kernel_rfl)).1 w
theorem run_storeHead_new {w : World} {a b x y : Nat} :
    (storeHead ⟨w.heap.size, 0, none⟩ (.agg (hv x y).toArray)).run Tryz.prog (w.alloc (.cells (hv a b).toArray 128)) = .ok () (w.alloc (.cells (hv x y).toArray 128)) :=
  run_storeVar_new w 128 (hv a b).toArray (hv x y).toArray (by simp only [List.size_toArray, hv_length]; kernel_rfl) (by simp [hv_length]) (all_oneCell_toArray (hv_one x y))
def bHead (parts : Array (Nat × Value)) : Sem Value := Instr.build 128 parts
theorem build_head (parts : Array (Nat × Value)) : Instr.build 128 parts = bHead parts := rfl
theorem run_bHead (a b : Nat) (w : World) : (bHead #[(0, .int .i64 a), (1, .int .i64 b)]).run Tryz.prog w = .ok (.agg (hv a b).toArray) w := by
  have hz := (zero_of_info (P := Tryz.prog) (t := 128) (v := .agg (hv 0 0).toArray) (n := 2) (by kernel_rfl)).1
  exact run_build_struct w 128 _ (.agg (hv 0 0).toArray) #[(0, 1), (1, 1)] #[(0, .int .i64 a), (1, .int .i64 b)] _ Tryz.underlying128 hz (fun w => by kernel_rfl) (by rfl)

end Go.Proofs.YtknjjjenklfeoaaGreatDoor

/-
  The program's layout: numbers of two bytes, marks.
-/
namespace Go.Proofs.YtknjjjenklfeoaaGreatDoor
open Go.RowKit
attribute [local go_sem ↓] loadVar_clus storeVar_clus zeroValue_clus loadVar_tab storeVar_tab zeroValue_tab loadVar_cnt storeVar_cnt zeroValue_cnt loadVar_head storeVar_head zeroValue_head build_head
attribute [local go_sem] run_loadClus run_storeClus run_zeroClus run_storeClus_new run_loadClus_new zc_length run_loadTab run_storeTab run_zeroTab run_storeTab_new run_loadTab_new zt_length run_loadCnt run_storeCnt run_zeroCnt run_storeCnt_new run_loadCnt_new zk_length run_loadHead run_storeHead run_zeroHead run_storeHead_new run_bHead
theorem or_hi (a b : Nat) (ha : a < 256) (hb : b < 256) : bits .or .u16 ((a : Int) * 256) (b : Int) = ((256 * a + b : Nat) : Int) := by
  rw [bits_join .u16 16 (by decide) wraps_u16 8 ((a : Int) * 256) (b : Int) (by omega) (by omega) (by omega) (by omega) (by omega) (by omega)]
  omega
theorem andNot_mark (n : Nat) (hn : n < 65536) : bits .andNot .u16 (n : Int) 32768 = ((n % 32768 : Nat) : Int) := by
  have h : bits .andNot .u16 (n : Int) 32768 = bits .and .u16 (n : Int) 32767 := by
    simp only [bits]
    rw [show ~~~(BitVec.ofInt IntKind.u16.bits 32768) = BitVec.ofInt IntKind.u16.bits 32767 from by decide]
  rw [h, show (32767 : Int) = 2 ^ 15 - 1 by decide, bits_mask .u16 16 (by decide) wraps_u16 15 (by decide) (n : Int) (by omega) (by omega)]
  omega
theorem and_mark (n : Nat) (hn : n < 65536) : bits .and .u16 (n : Int) 32768 = if 32768 ≤ n then 32768 else 0 := by
  have h := (bits_nat .u16 16 (by decide) wraps_u16 n 32768 hn (by decide)).1
  rw [show ((32768 : Nat) : Int) = 32768 from rfl] at h
  rw [h]
  have key : n &&& 2 ^ 15 = if 32768 ≤ n then 2 ^ 15 else 0 := by
    refine Nat.eq_of_testBit_eq fun i => ?_
    rw [Nat.testBit_and, Nat.testBit_two_pow]
    by_cases hi : 15 = i
    · subst hi
      rw [decide_eq_true rfl, Bool.and_true, Nat.testBit_eq_decide_div_mod_eq]
      split
      · rw [show n / 2 ^ 15 = 1 by omega]; decide
      · rw [show n / 2 ^ 15 = 0 by omega]; decide
    · rw [decide_eq_false hi, Bool.and_false]
      split
      · rw [Nat.testBit_two_pow, decide_eq_false hi]
      · simp
  rw [show (32768 : Nat) = 2 ^ 15 from rfl, key]
  split <;> rfl

theorem numberAt_any (c : List UInt8) (at' : Int) (w : World) (hc : c.length = 64) (h0 : 0 ≤ at') (h1 : at' < 63) :
    Calls Tryz.prog 149 #[.agg (cv c).toArray, .int .i64 at'] w fun e w' => e = .returned (.int .u16 (num c at'.toNat : Nat)) ∧ Below w.heap.size w w' := by
  obtain ⟨n, rfl⟩ := Int.eq_ofNat_of_zero_le h0
  have b1 := byteAt_lt c n
  have b2 := byteAt_lt c (n + 1)
  have k1 : (w.alloc (.cells (cv c).toArray 38)).cell? ⟨w.heap.size, n, none⟩ = some (.int .u8 (byteAt c n : Nat)) := by
    rw [cell_new, List.getElem?_toArray, cv_get]; omega
  have k2 : (w.alloc (.cells (cv c).toArray 38)).cell? ⟨w.heap.size, n + 1, none⟩ = some (.int .u8 (byteAt c (n + 1) : Nat)) := by
    rw [cell_new, List.getElem?_toArray, cv_get]; omega
  go_enter Tryz.func149, Tryz.ntmps149
  go_wp2
  go_quiet (fail)
  go_wp2
  go_ret
  refine ⟨?_, ?_⟩
  · exact ret_int (or_hi _ _ b1 b2)
  · exact (((Kept.refl (fun _ => False) w).alloc _).drewN _).below

theorem marked_of (n : Nat) (hn : n < 65536) (w : World) : Calls Tryz.prog 105 #[.int .u16 (n : Nat)] w fun e w' => e = .returned (.bool (decide (32768 ≤ n))) ∧ w' = w := by
  go_enter Tryz.func105, Tryz.ntmps105
  go_wp2
  go_ret
  refine ⟨?_, rfl⟩
  rw [show bits BinOp.and IntKind.u16 (n : Int) 32768 = _ from and_mark n hn]
  by_cases h : 32768 ≤ n
  · rw [if_pos h, decide_eq_true h]; rfl
  · rw [if_neg h, decide_eq_false h]; rfl
theorem cluster_of (n : Nat) (hn : n < 65536) (w : World) : Calls Tryz.prog 108 #[.int .u16 (n : Nat)] w fun e w' => e = .returned (.int .i64 ((n % 32768 : Nat) : Int)) ∧ w' = w := by
  go_enter Tryz.func108, Tryz.ntmps108
  go_wp2
  go_ret
  refine ⟨?_, rfl⟩
  rw [show bits BinOp.andNot IntKind.u16 (n : Int) 32768 = _ from andNot_mark n hn]
  exact ret_int (IntWalk.wrap64_in _ (by omega))
end Go.Proofs.YtknjjjenklfeoaaGreatDoor

/-
  The blocks that a call has laid for its own variables, in the order in which they were laid; nothing that was there has turned.
-/
namespace Go.Proofs.YtknjjjenklfeoaaGreatDoor
open Go.RowKit

structure Locs (w w' : World) (os : List Obj) : Prop where
  objs : ∀ i o, os[i]? = some o → w'.heap[w.heap.size + i]? = some o
  below : Below w.heap.size w w'
theorem Locs.nil (w : World) : Locs w w [] := ⟨fun _ _ h => by simp at h, Below.refl _ _⟩
theorem Locs.one (w : World) (o : Obj) : Locs w (w.alloc o) [o] := ⟨fun i x h => by
  cases i with
  | zero => simp at h; subst h; exact heap_alloc_new w o
  | succ i => simp at h, (Below.refl _ _).alloc (Nat.le_refl _) _⟩
theorem Locs.two (w : World) (o p : Obj) : Locs w ((w.alloc o).alloc p) [o, p] := ⟨fun i x h => by
  match i with
  | 0 => simp at h; subst h; exact (Below.heap_alloc _ _ _ (by simp)).trans (heap_alloc_new w _)
  | 1 => simp at h; subst h; have := heap_alloc_new (w.alloc o) p; rwa [World.size_alloc] at this
  | i + 2 => simp at h, ((Below.refl _ _).alloc (Nat.le_refl _) _).alloc (by simp) _⟩
theorem Locs.three (w : World) (o p q : Obj) : Locs w (((w.alloc o).alloc p).alloc q) [o, p, q] := ⟨fun i x h => by
  match i with
  | 0 => simp at h; subst h; exact (Below.heap_alloc _ _ _ (by simp; omega)).trans ((Below.heap_alloc _ _ _ (by simp)).trans (heap_alloc_new w _))
  | 1 => simp at h; subst h; have := heap_alloc_new (w.alloc o) p; rw [World.size_alloc] at this; exact (Below.heap_alloc _ _ _ (by simp)).trans this
  | 2 => simp at h; subst h; have := heap_alloc_new ((w.alloc o).alloc p) q; simp only [World.size_alloc] at this; exact this
  | i + 3 => simp at h, (((Below.refl _ _).alloc (Nat.le_refl _) _).alloc (by simp) _).alloc (by simp; omega) _⟩
/-- A block that is laid behind those that are there, be they the last or not. -/
theorem Locs.later {w w' w2 : World} {os : List Obj} (h : Locs w w' os) (hb : Below w'.heap.size w' w2) : Locs w w2 os :=
  ⟨fun i o ho => by have := h.objs i o ho; rw [hb.block _ (blk_lt this)]; exact this, h.below.trans (hb.mono h.below.size)⟩
theorem Locs.alloc {w w' : World} {os : List Obj} (h : Locs w w' os) (o : Obj) : Locs w (w'.alloc o) os := h.later ((Below.refl _ _).alloc (Nat.le_refl _) _)
theorem Locs.drewN {w w' : World} {os : List Obj} (h : Locs w w' os) (n : Nat) : Locs w (w'.drewN n) os := ⟨h.objs, ⟨h.below.os, h.below.tape, h.below.output, h.below.size, h.below.block⟩⟩
theorem Locs.drew {w w' : World} {os : List Obj} (h : Locs w w' os) : Locs w w'.drew os := ⟨h.objs, h.below.drew⟩
/-- One of them is another. -/
theorem Locs.put {w w' w2 : World} {os : List Obj} (h : Locs w w' os) (i : Nat) (o : Obj) (hk : Kept (fun x => x = w.heap.size + i) w' w2) (ho : w2.heap[w.heap.size + i]? = some o) : Locs w w2 (os.set i o) :=
  ⟨fun j x hx => by
    rw [List.getElem?_set] at hx
    split at hx
    · rename_i e
      subst e
      split at hx
      · injection hx with hx; subst hx; exact ho
      · cases hx
    · rename_i e
      exact hk.blk (by omega) (h.objs j x hx), h.below.trans ⟨hk.os, hk.tape, hk.output, hk.size, fun k hk1 => hk.block k (Nat.lt_of_lt_of_le hk1 h.below.size) (by omega)⟩⟩
theorem Locs.setCell {w w' : World} {os : List Obj} (h : Locs w w' os) (i : Nat) {cs : Array Value} {t : TypeId} {fr : Nat × Nat} (hi : os[i]? = some (.cells cs t fr)) (j : Nat) (v : Value) :
    Locs w (w'.setCell ⟨w.heap.size + i, j, none⟩ v) (os.set i (.cells (cs.setIfInBounds j v) t fr)) :=
  h.put i _ (Kept.only _ _ _ _) (heap_setCell_same _ _ _ _ _ _ _ (h.objs i _ hi))
theorem Kept.onlys (w : World) (f o : Nat) (vs : List Value) : Kept (fun k => k = f) w (w.setCells f o vs) := (Kept.refl (fun k => k = f) w).setCells (Or.inl rfl) o vs
theorem Locs.setCells {w w' : World} {os : List Obj} (h : Locs w w' os) (i : Nat) {cs : Array Value} {t : TypeId} {fr : Nat × Nat} (hi : os[i]? = some (.cells cs t fr)) (j : Nat) (vs : List Value) :
    Locs w (w'.setCells (w.heap.size + i) j vs) (os.set i (.cells (setList cs j vs) t fr)) :=
  h.put i _ (Kept.onlys _ _ _ _) (heap_setCells_same _ _ _ _ _ _ _ (h.objs i _ hi))
theorem Locs.lt {w w' : World} {os : List Obj} (h : Locs w w' os) {i : Nat} {o : Obj} (hi : os[i]? = some o) : w.heap.size + i < w'.heap.size := blk_lt (h.objs i o hi)
theorem Locs.o0 {w w' : World} {o : Obj} {os : List Obj} (h : Locs w w' (o :: os)) : w'.heap[w.heap.size]? = some o := h.objs 0 o rfl
theorem Locs.o1 {w w' : World} {a o : Obj} {os : List Obj} (h : Locs w w' (a :: o :: os)) : w'.heap[w.heap.size + 1]? = some o := h.objs 1 o rfl
theorem Locs.o2 {w w' : World} {a b o : Obj} {os : List Obj} (h : Locs w w' (a :: b :: o :: os)) : w'.heap[w.heap.size + 1 + 1]? = some o := h.objs 2 o rfl
theorem Locs.o3 {w w' : World} {a b c o : Obj} {os : List Obj} (h : Locs w w' (a :: b :: c :: o :: os)) : w'.heap[w.heap.size + 1 + 1 + 1]? = some o := h.objs 3 o rfl

end Go.Proofs.YtknjjjenklfeoaaGreatDoor

/-
  The program's layout: a number is put into a cluster.
-/
namespace Go.Proofs.YtknjjjenklfeoaaGreatDoor
open Go.RowKit
attribute [local go_sem ↓] loadVar_clus storeVar_clus zeroValue_clus loadVar_tab storeVar_tab zeroValue_tab loadVar_cnt storeVar_cnt zeroValue_cnt loadVar_head storeVar_head zeroValue_head build_head
attribute [local go_sem] run_loadClus run_storeClus run_zeroClus run_storeClus_new run_loadClus_new zc_length run_loadTab run_storeTab run_zeroTab run_storeTab_new run_loadTab_new zt_length run_loadCnt run_storeCnt run_zeroCnt run_storeCnt_new run_loadCnt_new zk_length run_loadHead run_storeHead run_zeroHead run_storeHead_new run_bHead
def putNum (c : Clus) (k n : Nat) : Clus := (c.set k (UInt8.ofNat (n / 256))).set (k + 1) (UInt8.ofNat (n % 256))
theorem putNum_length (c : Clus) (k n : Nat) : (putNum c k n).length = c.length := by simp [putNum]
theorem cv_setB (c : Clus) (k : Nat) (b : Nat) (hb : b < 256) : cv (c.set k (UInt8.ofNat b)) = (cv c).set k (.int .u8 (b : Nat)) := by
  rw [cv, List.map_set]
  congr 2
  have : (UInt8.ofNat b).toNat = b := by rw [UInt8.toNat_ofNat']; omega
  rw [this]

set_option maxHeartbeats 1000000 in
theorem putNumber_any (w : World) (b : Nat) (c : Clus) (t : TypeId) (hb : w.heap[b]? = some (.cells (cv c).toArray t (0, 0))) (hc : c.length = 64) (k n : Nat) (hk : k < 63) (hn : n < 65536) :
    Calls Tryz.prog 169 #[.pointer (some ⟨b, 0, none⟩), .int .i64 (k : Nat), .int .u16 (n : Nat)] w fun e w' => e = .returned (.tuple #[]) ∧ w'.heap[b]? = some (.cells (cv (putNum c k n)).toArray t (0, 0)) ∧ Kept (fun x => x = b) w w' := by
  have f1 := frozen_blk hb k
  have f2 := frozen_blk hb (k + 1)
  have c1 : w.cell? ⟨b, k, none⟩ = some (.int .u8 (byteAt c k : Nat)) := by rw [cell_blk hb, List.getElem?_toArray, cv_get _ _ (by omega)]
  have c2 : w.cell? ⟨b, k + 1, none⟩ = some (.int .u8 (byteAt c (k + 1) : Nat)) := by rw [cell_blk hb, List.getElem?_toArray, cv_get _ _ (by omega)]
  have hki : (k : Int) < 63 := by omega
  have e1 : ((w.setCell ⟨b, k, none⟩ (.int .u8 ((n / 256 : Nat) : Int))).setCell ⟨b, k + 1, none⟩ (.int .u8 ((n % 256 : Nat) : Int))).heap[b]? = some (.cells (cv (putNum c k n)).toArray t (0, 0)) := by
    rw [heap_setCell_same _ _ _ _ _ _ _ (heap_setCell_same _ _ _ _ _ _ _ hb), putNum, cv_setB _ _ _ (by omega), cv_setB _ _ _ (by omega)]
    simp
  have k1 := (Kept.only w b k (.int .u8 ((n / 256 : Nat) : Int))).trans (Kept.only _ b (k + 1) (.int .u8 ((n % 256 : Nat) : Int)))
  rw [Int.natCast_ediv, Int.natCast_emod] at e1 k1
  have E1 := hide e1
  have K1 := hide k1
  clear e1 k1
  go_enter Tryz.func169, Tryz.ntmps169
  go_wp2
  go_region
  go_end0
  exact ⟨rfl, unhide E1, (unhide K1).drew⟩

def numsOf (c : Clus) : List Nat := (List.range 32).map fun i => num c (2 * i)
theorem numsOf_length (c : Clus) : (numsOf c).length = 32 := by simp [numsOf]
theorem numsOf_get (c : Clus) (i : Nat) (hi : i < 32) : (numsOf c).getD i 0 = num c (2 * i) := by simp [numsOf, List.getD, hi]
def numsTo (c : Clus) (k : Nat) : List Nat := (List.range 32).map fun i => if i < k then num c (2 * i) else 0
theorem numsTo_zero (c : Clus) : numsTo c 0 = zt := by
  unfold numsTo zt
  refine List.eq_replicate_iff.2 ⟨by simp, fun b hb => ?_⟩
  obtain ⟨i, _, rfl⟩ := List.mem_map.1 hb
  rw [if_neg (by omega)]
theorem numsTo_all (c : Clus) : numsTo c 32 = numsOf c := by
  unfold numsTo numsOf
  refine List.map_congr_left fun i hi => ?_
  rw [if_pos (List.mem_range.1 hi)]
theorem numsTo_length (c : Clus) (k : Nat) : (numsTo c k).length = 32 := by simp [numsTo]
theorem numsTo_succ (c : Clus) (k : Nat) (hk : k < 32) : numsTo c (k + 1) = (numsTo c k).set k (num c (2 * k)) := by
  refine List.ext_getElem? fun i => ?_
  rw [List.getElem?_set]
  simp only [numsTo, List.getElem?_map, List.length_map, List.length_range]
  by_cases hi : i < 32
  · rw [List.getElem?_range hi]
    by_cases e : k = i
    · subst e; simp [hk]
    · simp only [Option.map_some, if_neg e]
      congr 1
      by_cases h : i < k
      · rw [if_pos h, if_pos (by omega)]
      · rw [if_neg h, if_neg (by omega)]
  · rw [List.getElem?_eq_none (by simp; omega)]
    split
    · omega
    · rfl
theorem tv_set (T : List Nat) (k n : Nat) : tv (T.set k n) = (tv T).set k (.int .u16 (n : Nat)) := by simp [tv, List.map_set]

set_option maxHeartbeats 1000000 in
set_option maxRecDepth 100000 in
theorem tableOf_any (w : World) (c : Clus) (hc : c.length = 64) :
    Calls Tryz.prog 178 #[.agg (cv c).toArray] w fun e w' => e = .returned (.agg (tv (numsOf c)).toArray) ∧ Below w.heap.size w w' := by
  have L0 := hide (Locs.three w (.cells (cv c).toArray 38) (.cells (tv zt).toArray 169) (.cells (tv zt).toArray 169))
  go_enter Tryz.func178, Tryz.ntmps178
  go_wp2
  go_loopw [4, 5] (fun _ i w' => ∃ k : Nat, k ≤ 32 ∧ i = .int .i64 k ∧ Locs w w' [.cells (cv c).toArray 38, .cells (tv zt).toArray 169, .cells (tv (numsTo c k)).toArray 169]) (fun _ i _ => 32 - (intOf i).toNat)
  case atStart => exact ⟨0, by omega, rfl, by rw [numsTo_zero]; exact unhide L0⟩
  case round =>
    obtain ⟨k, hk, rfl, hL⟩ := hrel
    clear L0
    by_cases hlt : k < 32
    · have hki : (k : Int) < 32 := by omega
      have b0 := hL.o0
      have l1 := box_has b0 hc
      have l2 := box_cells b0 hc
      have Hn := hide (numberAt_any c (2 * (k : Int)) wr hc (by omega) (by omega))
      have HL := hide hL
      have Hs := hide (numsTo_succ c k hlt)
      clear hL b0
      go_wp2_with fail
      refine (unhide Hn).mono ?_
      rintro e w1 ⟨rfl, hb1⟩
      have hL1 := (unhide HL).later hb1
      have b2 := hL1.o2
      have f1 := frozen_blk b2 k
      have c1 : w1.cell? ⟨w.heap.size + 1 + 1, k, none⟩ = some (.int .u16 (((numsTo c k).getD k 0 : Nat) : Int)) := by
        rw [cell_blk b2, List.getElem?_toArray, tv_get _ _ (by rw [numsTo_length]; exact hlt)]
      have L1 := hide (hL1.setCell 2 rfl k (.int .u16 (num c (2 * k) : Nat)))
      rw [show (2 * (k : Int)).toNat = 2 * k by omega]
      clear hL1 b2 hb1 HL Hn l1 l2
      go_wp2
      go_roundw
      case rel =>
        refine ⟨k + 1, by omega, by go_num, ?_⟩
        rw [unhide Hs, tv_set]
        simpa using unhide L1
      case measure => simp [intOf]; omega
    · have hk32 : k = 32 := by omega
      subst hk32
      rw [numsTo_all] at hL
      have b1 := hL.o1
      have b2 := hL.o2
      have l1 := blk_has b2 (n := 32) (by rw [tv_length, numsOf_length])
      have l2 := blk_cells b2 (n := 32) (by rw [tv_length, numsOf_length])
      have th := there_blk b1 0 32 (by simp [tv_length, zt_length])
      have hnl := numsOf_length c
      have hset := hL.setCells 1 rfl 0 (tv (numsOf c))
      rw [setList_all _ _ (by simp [tv_length, zt_length, numsOf_length])] at hset
      have o1 := hset.o1
      have l3 := blk_has o1 (n := 32) (by rw [tv_length, numsOf_length])
      have l4 := blk_cells o1 (n := 32) (by rw [tv_length, numsOf_length])
      have HB := hide hset.below
      clear hL b1 b2 hset o1
      go_wp2
      refine bodyPost_ret (results_cell Tryz.results178 ⟨w.heap.size + 1, 0, none⟩ rfl ?_) rfl ⟨rfl, unhide HB⟩
      rw [loadVar_tab, run_loadTab l3, l4]
end Go.Proofs.YtknjjjenklfeoaaGreatDoor

/-
  The program's layout: a table as a cluster.
-/
namespace Go.Proofs.YtknjjjenklfeoaaGreatDoor
open Go.RowKit
attribute [local go_sem ↓] loadVar_clus storeVar_clus zeroValue_clus loadVar_tab storeVar_tab zeroValue_tab loadVar_cnt storeVar_cnt zeroValue_cnt loadVar_head storeVar_head zeroValue_head build_head
attribute [local go_sem] run_loadClus run_storeClus run_zeroClus run_storeClus_new run_loadClus_new zc_length run_loadTab run_storeTab run_zeroTab run_storeTab_new run_loadTab_new zt_length run_loadCnt run_storeCnt run_zeroCnt run_storeCnt_new run_loadCnt_new zk_length run_loadHead run_storeHead run_zeroHead run_storeHead_new run_bHead HasAt_drew cellsAt_drew HasAt_drewN cellsAt_drewN
def bytesTo (T : List Nat) : Nat → Clus
  | 0 => zc
  | k + 1 => putNum (bytesTo T k) (2 * k) (T.getD k 0)
def bytesOf (T : List Nat) : Clus := bytesTo T 32
theorem bytesTo_length (T : List Nat) (k : Nat) : (bytesTo T k).length = 64 := by
  induction k with
  | zero => exact zc_length
  | succ k ih => rw [bytesTo, putNum_length, ih]
theorem bytesOf_length (T : List Nat) : (bytesOf T).length = 64 := bytesTo_length T 32
theorem part_num (T : List Nat) (i : Nat) (hi : i < T.length) (w : World) : (part 167 (tv T).toArray (i * 1)).run Tryz.prog w = .ok (.int .u16 ((T.getD i 0 : Nat) : Int)) w := by
  have ha : (isAgg 167).run Tryz.prog w = .ok false w := by unfold isAgg; rw [Sem.run_bind, run_underlying Tryz.underlying167 w]; rfl
  unfold part
  rw [Sem.run_bind, ha]
  simp only [Result.andThen_ok, Bool.false_eq_true, if_false, Nat.mul_one]
  rw [List.getElem?_toArray, tv_get T i hi]
  rfl
theorem run_sizeOf {P : Program} {e : TypeId} {sz : Nat} (hs : (P.info? e).map (·.size) = some sz) (w : World) : (Go.sizeOf e).run P w = .ok sz w := by
  obtain ⟨i, hi, rfl⟩ := Option.map_eq_some_iff.1 hs
  simp [Go.sizeOf, typeInfo, hi, go_sem]
theorem Tryz.sizeByte : (Tryz.prog.info? 5).map (·.size) = some 1 := by kernel_rfl
theorem run_index_arr {P : Program} (w : World) (t e : TypeId) (n sz : Nat) (hu : P.underlying t = some (.array n e)) (hs : (P.info? e).map (·.size) = some sz) (cs : Array Value) (k : Nat) (hk : k < n) (v : Value) (hp : (part e cs (k * sz)).run P w = .ok v w) :
    (Instr.index t (.agg cs) (.int .i64 (k : Int))).run P w = .ok v w := by
  have hsz := run_sizeOf hs w
  unfold Instr.index
  simp only [asIntOf, Sem.run_bind, Sem.run_pure, Result.andThen_ok, run_underlying hu w]
  rw [if_pos (by omega), Sem.run_bind, hsz]
  simpa using hp
theorem run_index_tab (w : World) (T : List Nat) (hT : T.length = 32) (k : Nat) (hk : k < 32) : (Instr.index 169 (.agg (tv T).toArray) (.int .i64 (k : Int))).run Tryz.prog w = .ok (.int .u16 ((T.getD k 0 : Nat) : Int)) w :=
  run_index_arr w _ _ 32 1 Tryz.underlying169 (by kernel_rfl) _ k hk _ (part_num T k (by omega) w)
theorem run_index_cnt (w : World) (c : List UInt8) (hc : c.length = 256) (k : Nat) (hk : k < 256) : (Instr.index 123 (.agg (cv c).toArray) (.int .i64 (k : Int))).run Tryz.prog w = .ok (.int .u8 (byteAt c k : Nat)) w :=
  run_index_arr w _ _ 256 1 Tryz.underlying123 (by kernel_rfl) _ k hk _ (part_byte c k (by omega) w)

set_option maxHeartbeats 1000000 in
set_option maxRecDepth 100000 in
theorem headOf_any (w : World) (c : Clus) (hc : c.length = 64) :
    Calls Tryz.prog 92 #[.agg (cv c).toArray] w fun e w' => e = .returned (.agg (hv (num c 4) (num c 6)).toArray) ∧ Below w.heap.size w w' := by
  have L0 := hide (Locs.two w (.cells (cv c).toArray 38) (.cells (hv 0 0).toArray 128))
  have l1 := box_has (unhide L0).drew.o0 hc
  have l2 := box_cells (unhide L0).drew.o0 hc
  have Hn : Hid (∀ W k, k = 4 ∨ k = 6 → Calls Tryz.prog 149 #[.agg (cv c).toArray, .int .i64 k] W fun e w' => e = .returned (.int .u16 (num c k.toNat : Nat)) ∧ Below W.heap.size W w') := fun W k hk => numberAt_any c k W hc (by omega) (by omega)
  have n4 := num_lt c 4
  have n6 := num_lt c 6
  have e4 : IntKind.i64.wrap ((num c 4 : Nat) : Int) = (num c 4 : Nat) := IntWalk.i64_in _ (by omega)
  have e6 : IntKind.i64.wrap ((num c 6 : Nat) : Int) = (num c 6 : Nat) := IntWalk.i64_in _ (by omega)
  go_enter Tryz.func92, Tryz.ntmps92
  go_wp2
  go_region_law (go_simp
                 go_at_call 149
                 refine (unhide Hn _ _ (by omega)).mono ?_
                 rintro e w1 ⟨rfl, hb1⟩
                 have L1 := hide (Locs.later (by first | exact unhide L1 | exact (unhide L1).drew | exact unhide L0 | exact (unhide L0).drew) hb1)
                 have m1 := box_has (unhide L1).o0 hc
                 have m2 := box_cells (unhide L1).o0 hc
                 have th := there_blk (unhide L1).o1 0 2 (by simp [hv_length]))
  all_goals
    have hset := (unhide L1).setCells 1 rfl 0 (hv (num c 4) (num c 6))
    rw [setList_all _ _ (by simp [hv_length])] at hset
    have l3 := blk_has hset.o1 (n := 2) (hv_length _ _)
    have l4 := blk_cells hset.o1 (n := 2) (hv_length _ _)
    have HB := hide hset.below
    clear hset L0 Hn hb1 m1 m2 l1 l2 th
    go_wp2
    refine bodyPost_ret (results_cell Tryz.results92 ⟨w.heap.size + 1, 0, none⟩ rfl ?_) rfl ⟨rfl, unhide HB⟩
    rw [loadVar_head, run_loadHead l3, l4]
end Go.Proofs.YtknjjjenklfeoaaGreatDoor
