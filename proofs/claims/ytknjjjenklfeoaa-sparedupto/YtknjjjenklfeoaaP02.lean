import Derived.Test.YtknjjjenklfeoaaP01
import Derived.Test.YtknjjjenklfeoaaP00
import Derived.Lib.EndianBits
/-
  The reference's IsName and name.
-/
namespace Go.Proofs.Ytknjjjenklfeoaa
open Go.RowKit

def letter (b : UInt8) : Bool := decide (97 ≤ b.toNat) && decide (b.toNat ≤ 122)
def isNameB (l : List UInt8) : Bool := l.all letter && (decide (1 ≤ l.length) && decide (l.length ≤ 12))

/-- The name in an entry's bytes: from the i-th on, m of them; 'over': a nought was met. None: no name. -/
def nameFrom (c : Clus) (at' : Nat) : Nat → Nat → Bool → List UInt8 → Option (List UInt8)
  | 0, _, _, acc => some acc
  | m + 1, i, over, acc =>
    if byteAt c (at' + i) = 0 then nameFrom c at' m (i + 1) true acc
    else if over then none
    else nameFrom c at' m (i + 1) false (acc ++ [c.getD (at' + i) 0])
def nameOf (c : Clus) (at' : Nat) : List UInt8 × Bool :=
  match nameFrom c at' 12 0 false [] with
  | none => ([], false)
  | some l => (l, isNameB l)

end Go.Proofs.Ytknjjjenklfeoaa

/-
  The reference's list: the pictures' entries.
-/
namespace Go.Proofs.Ytknjjjenklfeoaa
open Go.RowKit
attribute [local go_sem ↓] loadVar_clus storeVar_clus zeroValue_clus
attribute [local go_sem] run_loadClus run_storeClus run_zeroClus run_storeClus_new run_loadClus_new zc_length
/-- Is a name among the roots, from the k-th on, m of them? -/
def nameIn (Q : List RootR) (s : List UInt8) : Nat → Nat → Bool
  | 0, _ => false
  | m + 1, k => if (Q.getD k ⟨0, 0, []⟩).name = s then true else nameIn Q s m (k + 1)
/-- An entry that may not be. -/
def entryBad (c : Clus) (i : Nat) (over : Bool) : Bool := over || (!(nameOf c (16 * i + 2)).2 || (byteAt c (16 * i + 14) != 0 || byteAt c (16 * i + 15) != 0))
def listFrom (c : Clus) : Nat → Nat → Bool → List RootR → Bool × List RootR
  | 0, _, _, Q => (true, Q)
  | m + 1, i, over, Q =>
    if num c (16 * i) = 0 then (if restZero c 16 (16 * i) then listFrom c m (i + 1) true Q else (false, Q))
    else if entryBad c i over then (false, Q)
    else if nameIn Q (nameOf c (16 * i + 2)).1 (Q.length - 1) 1 then (false, Q)
    else listFrom c m (i + 1) over (Q ++ [⟨num c (16 * i), 5, (nameOf c (16 * i + 2)).1⟩])
def listOf (R : FileR) : Bool × List RootR := listFrom (cl R.L 5) 4 0 false R.roots

end Go.Proofs.Ytknjjjenklfeoaa

/-
  What a tree that is gone through shows of the file: all that it tells lies in it. (Plain lists; nothing of the program.)
-/
namespace Go.Proofs.Ytknjjjenklfeoaa

/-- All first tables are gone through, from the i-th on, m of them. -/
def treesFrom : Nat → Nat → FileR → Bool × FileR
  | 0, _, R => (true, R)
  | m + 1, i, R => if (tree R (rootOf R i)).1 then treesFrom m (i + 1) (tree R (rootOf R i)).2 else (false, (tree R (rootOf R i)).2)
/-- The marks of all first tables. -/
def marksFrom (R : FileR) : Nat → Nat → Int → Int
  | 0, _, b => b
  | m + 1, i, b => if b < 0 then marksFrom R m (i + 1) (marked R (rootOf R i)).1 else b
def zeros256 : List Nat := List.replicate 256 0
def used6 : List Nat := [1, 1, 1, 1, 1, 1] ++ List.replicate 250 0
def R0 : FileR := ⟨[], [], zeros256, zeros256, -1⟩
def R1of (file : List Clus) : FileR := { R0 with L := padTo file (num (cl file 0) 4), roots := [⟨num (cl file 0) 6, 0, []⟩] }
def R2of (file : List Clus) : FileR := { R1of file with roots := (listOf (R1of file)).2, used := used6 }
def R3of (file : List Clus) : Bool × FileR := treesFrom (R2of file).roots.length 0 (R2of file)
def look (file : List Clus) : FileR :=
  if headGood file = false then { R0 with bad := 0 }
  else if (listOf (R1of file)).1 = false then { R1of file with roots := (listOf (R1of file)).2, bad := 5 }
  else if (R3of file).1 = false then (R3of file).2
  else { (R3of file).2 with bad := marksFrom (R3of file).2 (R3of file).2.roots.length 0 (countsFrom (R3of file).2 256 0) }

end Go.Proofs.Ytknjjjenklfeoaa

/-
  The reference's Look: a file is looked over.
-/
namespace Go.Proofs.Ytknjjjenklfeoaa
open Go.RowKit

end Go.Proofs.Ytknjjjenklfeoaa

/-
  The reference's Look, walked.
-/
namespace Go.Proofs.Ytknjjjenklfeoaa
open Go.RowKit
end Go.Proofs.Ytknjjjenklfeoaa

/-
  The reference's disk as a record: 64 clusters and the list of pictures.
-/
namespace Go.Proofs.Ytknjjjenklfeoaa
open Go.RowKit

structure PicR where
  name : List UInt8
  C : List Clus
structure DiskR where
  C : List Clus
  L : List PicR
structure Cont (C : List Clus) : Prop where
  all : All64 C
  len : C.length = 64
theorem Cont.flat {C : List Clus} (h : Cont C) : (flatC C).length = 4096 := by rw [flatC_length C h.all, h.len]

end Go.Proofs.Ytknjjjenklfeoaa

/-
  Writes of the log in memory: read, laid into a block of their own.
-/
namespace Go.Proofs.Ytknjjjenklfeoaa
open Go.RowKit

structure WrR where
  cl : Int
  data : Clus
def wrCells (x : WrR) : List Value := .int .i64 x.cl :: cv x.data
theorem wrCells_length {x : WrR} (h : x.data.length = 64) : (wrCells x).length = 65 := by simp [wrCells, cv_length, h]
theorem wrCells_one (x : WrR) : ∀ v ∈ wrCells x, v.oneCell' = true := by
  intro v hv
  rcases List.mem_cons.1 hv with h | h
  · rw [h]; rfl
  · exact cv_one _ v h
def flatW (l : List WrR) : List Value := l.flatMap wrCells
def wrAt (l : List WrR) (k : Nat) : WrR := l.getD k ⟨0, zc⟩
theorem flatW_range (l : List WrR) (hl : ∀ x ∈ l, x.data.length = 64) (k : Nat) (hk : k < l.length) (j : Nat) (hj : j < 65) : (flatW l)[k * 65 + j]? = (wrCells (wrAt l k))[j]? := by
  induction l generalizing k with
  | nil => simp at hk
  | cons a r ih =>
    have h1 := wrCells_length (hl a (by simp))
    cases k with
    | zero =>
      simp only [flatW, List.flatMap_cons, wrAt, List.getD_cons_zero, Nat.zero_mul, Nat.zero_add]
      rw [List.getElem?_append_left (by omega)]
    | succ k =>
      have h2 := ih (fun c hc => hl c (by simp [hc])) k (by simpa using hk)
      simp only [flatW, List.flatMap_cons, wrAt, List.getD_cons_succ] at *
      rw [List.getElem?_append_right (by omega), h1, ← h2]
      congr 1
      omega
theorem wrAt_mem {l : List WrR} {k : Nat} (hk : k < l.length) : wrAt l k ∈ l := by
  unfold wrAt
  rw [List.getD_eq_getElem?_getD, List.getElem?_eq_getElem hk]
  exact List.getElem_mem hk
/-- A log lies behind a slice. -/
structure LRow (w : World) (v : Value) (l : List WrR) : Prop where
  row : w.ownsRow 0 116 65 v l.length (flatW l)
  lens : ∀ x ∈ l, x.data.length = 64
theorem LRow.kept {w w' : World} {S : Nat → Prop} {v : Value} {l : List WrR} (h : LRow w v l) (hk : Kept S w w') (hs : ∀ g, v.ownBlock = some g → ¬ S g) : LRow w' v l := ⟨ownsRow_kept hk h.row hs, h.lens⟩
theorem LRow.range {w : World} {g cap : Nat} {l : List WrR} (h : LRow w (.slice (some ⟨g, 0, none⟩) l.length cap) l) (k : Nat) (hk : k < l.length) : w.rangeAt g (k * 65) (wrCells (wrAt l k)) := by
  intro j v hv
  have hj : j < 65 := by
    have := (List.getElem?_eq_some_iff.1 hv).1
    rw [wrCells_length (h.lens _ (wrAt_mem hk))] at this; exact this
  rw [h.row.cellAt (k * 65 + j) (by omega), flatW_range l h.lens k hk j hj]
  exact hv

def loadWr (a : Addr) : Sem Value := loadVar 116 a
theorem loadVar_wr (a : Addr) : loadVar 116 a = loadWr a := rfl
theorem run_loadWr {w : World} {b o : Nat} (h : HasAt w b o 65) : (loadWr ⟨b, o, none⟩).run Try.prog w = .ok (.agg (cellsAt w b o 65).toArray) w :=
  run_loadVar_has h 116 _ Try.underlying116 rfl (by kernel_rfl)
def storeWr (a : Addr) (v : Value) : Sem Unit := storeVar 116 a v
theorem storeVar_wr (a : Addr) (v : Value) : storeVar 116 a v = storeWr a v := rfl
def zeroWr : Sem Value := zeroValue 116
theorem zeroValue_wr : zeroValue 116 = zeroWr := rfl
theorem run_zeroWr (w : World) : zeroWr.run Try.prog w = .ok (.agg (wrCells ⟨0, zc⟩).toArray) w :=
  (zero_of_info (P := Try.prog) (t := 116) (v := .agg (wrCells ⟨0, zc⟩).toArray) (n := 65) (by kernel_rfl)).1 w
theorem run_storeWr_new {w : World} {z x : WrR} (hz : z.data.length = 64) (hx : x.data.length = 64) :
    (storeWr ⟨w.heap.size, 0, none⟩ (.agg (wrCells x).toArray)).run Try.prog (w.alloc (.cells (wrCells z).toArray 116)) = .ok () (w.alloc (.cells (wrCells x).toArray 116)) :=
  run_storeVar_new w 116 (wrCells z).toArray (wrCells x).toArray (by simp only [List.size_toArray, wrCells_length hx]; kernel_rfl) (by simp [wrCells_length hz, wrCells_length hx]) (all_oneCell_toArray (wrCells_one x))

end Go.Proofs.Ytknjjjenklfeoaa

/-
  A cluster of a row is written over.
-/
namespace Go.Proofs.Ytknjjjenklfeoaa
open Go.RowKit

theorem row_set {w : World} {base g cap : Nat} {L : List Clus} (h : w.ownsRow base 26 64 (.slice (some ⟨g, 0, none⟩) L.length cap) L.length (flatC L)) (hl : ∀ c ∈ L, c.length = 64) (k : Nat) (hk : k < L.length) (c : Clus) (hc : c.length = 64) :
    (w.setCells g (k * 64) (cv c)).ownsRow base 26 64 (.slice (some ⟨g, 0, none⟩) L.length cap) (L.set k c).length (flatC (L.set k c)) := by
  have hl' : ∀ x ∈ L.set k c, x.length = 64 := by
    intro x hx
    rcases List.mem_or_eq_of_mem_set hx with y | y
    · exact hl x y
    · rw [y]; exact hc
  refine ⟨flatC_length _ hl', ?_⟩
  rcases h.2 with ⟨e, _⟩ | ⟨g', cap', cur, e, hb, hh, hn, hm, hs, ht⟩
  · cases e
  · obtain ⟨rfl, rfl⟩ : g' = g ∧ cap' = cap := by injection e with x1 _ x3; injection x1 with x1; injection x1 with x1; exact ⟨x1.symm, x3.symm⟩
    refine Or.inr ⟨g', cap', setList cur (k * 64) (cv c), by simp, hb, heap_setCells_same _ _ _ _ _ _ _ hh, by simpa using hn, hm, by rw [setList_size]; exact hs, ?_⟩
    have hfl := flatC_length L hl
    have e2 := setList_flatC L hl k hk c hc
    refine List.ext_getElem? fun i => ?_
    rw [List.length_set]
    by_cases hi : i < L.length * 64
    · rw [List.getElem?_take, if_pos hi, Array.getElem?_toList, setList_get _ _ _ _ (by rw [cv_length, hc, hs]; have := Nat.mul_le_mul_right 64 hn; omega)]
      have e3 : (setList (flatC L).toArray (k * 64) (cv c))[i]? = (flatC (L.set k c)).toArray[i]? := by rw [e2]
      rw [setList_get _ _ _ _ (by rw [cv_length, hc]; simp; omega), List.getElem?_toArray, List.getElem?_toArray] at e3
      rw [← e3]
      have e4 : cur[i]? = (flatC L)[i]? := by rw [← ht, List.getElem?_take, if_pos hi, Array.getElem?_toList]
      rw [e4]
    · have hfl2 := flatC_length _ hl'
      rw [List.length_set] at hfl2
      rw [List.getElem?_eq_none (by rw [List.length_take]; omega), List.getElem?_eq_none (by omega)]
theorem row_there {w : World} {base g cap : Nat} {L : List Clus} (h : w.ownsRow base 26 64 (.slice (some ⟨g, 0, none⟩) L.length cap) L.length (flatC L)) (k : Nat) (hk : k < L.length) : w.there g (k * 64) 64 := by
  rcases h.2 with ⟨e, _⟩ | ⟨g', cap', cur, e, hb, hh, hn, hm, hs, ht⟩
  · cases e
  · obtain ⟨rfl, rfl⟩ : g' = g ∧ cap' = cap := by injection e with x1 _ x3; injection x1 with x1; injection x1 with x1; exact ⟨x1.symm, x3.symm⟩
    exact there_blk hh _ _ (by rw [hs]; have := Nat.mul_le_mul_right 64 hn; omega)

end Go.Proofs.Ytknjjjenklfeoaa

/-
  The reference's Replayed: writes are done on a file.
-/
namespace Go.Proofs.Ytknjjjenklfeoaa
open Go.RowKit
attribute [local go_sem ↓] loadVar_clus storeVar_clus zeroValue_clus buildSlice_clus loadVar_wr storeVar_wr zeroValue_wr
attribute [local go_sem] run_loadClus run_storeClus run_zeroClus run_storeClus_new run_loadClus_new zc_length run_bsClus run_loadWr run_zeroWr run_storeWr_new
def sliceLen : Value → Nat
  | .slice _ n _ => n
  | _ => 0
def growTo (l : List Clus) (n : Nat) : List Clus := l ++ List.replicate (n - l.length) zc
def replayOne (l : List Clus) (x : WrR) : List Clus := if x.cl < 0 then l else (growTo l (x.cl.toNat + 1)).set x.cl.toNat x.data
def replay (l : List Clus) (log : List WrR) : List Clus := log.foldl replayOne l

end Go.Proofs.Ytknjjjenklfeoaa

/-
  Small functions of the statements: cluster, num, sameFile, marked.
-/
namespace Go.Proofs.Ytknjjjenklfeoaa
open Go.RowKit
attribute [local go_sem ↓] loadVar_clus storeVar_clus zeroValue_clus equalIn_clus
attribute [local go_sem] run_loadClus run_storeClus run_zeroClus zc_length
/-- Two clusters lie in the two blocks that were made first. -/
structure TwoCl (w w' : World) (z c : Clus) : Prop where
  below : Below w.heap.size w w'
  one : w'.heap[w.heap.size]? = some (.cells (cv z).toArray 26 (0, 0))
  two : w'.heap[w.heap.size + 1]? = some (.cells (cv c).toArray 26 (0, 0))
theorem TwoCl.start (w : World) : TwoCl w ((w.alloc (.cells (cv zc).toArray 26)).alloc (.cells (cv zc).toArray 26)) zc zc := by
  refine ⟨((Below.refl _ _).alloc (Nat.le_refl _) _).alloc (by simp) _, ?_, ?_⟩
  · rw [Below.heap_alloc _ _ _ (by simp)]; exact heap_alloc_new _ _
  · have := heap_alloc_new (w.alloc (.cells (cv zc).toArray 26)) (.cells (cv zc).toArray 26)
    simpa using this
theorem cv_set (c : Clus) (i : Nat) (b : UInt8) : (cv c).set i (.int .u8 (b.toNat : Int)) = cv (c.set i b) := by simp [cv, List.map_set]
theorem TwoCl.set {w w' : World} {z c : Clus} (h : TwoCl w w' z c) (i : Nat) (b : UInt8) : TwoCl w (w'.setCell ⟨w.heap.size + 1, i, none⟩ (.int .u8 (b.toNat : Int))) z (c.set i b) :=
  ⟨h.below.setCell (by simp) _, by rw [Below.heap_setCell _ _ _ _ (by simp)]; exact h.one, by rw [heap_setCell_same _ _ _ _ _ _ _ h.two, List.setIfInBounds_toArray, cv_set]⟩

/-- A text as a cluster: cut, or noughts behind it. -/
def clusTo (l : List UInt8) (k : Nat) : Clus := l.take k ++ List.replicate (64 - k) 0
def clusOf (l : List UInt8) : Clus := clusTo l (min l.length 64)
theorem clusTo_length (l : List UInt8) (k : Nat) (h : k ≤ l.length) (h2 : k ≤ 64) : (clusTo l k).length = 64 := by simp [clusTo]; omega
theorem clusTo_succ (l : List UInt8) (k : Nat) (h : k < l.length) (h2 : k < 64) : (clusTo l k).set k (l.getD k 0) = clusTo l (k + 1) := by
  unfold clusTo
  rw [List.set_append_right _ _ (by simp; omega), List.length_take, show k - min k l.length = 0 by omega, show 64 - k = (64 - (k + 1)) + 1 by omega, List.replicate_succ, List.set_cons_zero, List.take_succ_eq_append_getElem h, List.append_assoc]
  rw [List.getD_eq_getElem?_getD, List.getElem?_eq_getElem h]
  rfl

/-- What was stored last is handed back. -/
theorem TwoCl.back {w w' : World} {z c : Clus} (h : TwoCl w w' z c) (hz : z.length = 64) (hc : c.length = 64) :
    w'.there w.heap.size 0 64 ∧ HasAt w' (w.heap.size + 1) 0 64 ∧ cellsAt w' (w.heap.size + 1) 0 64 = cv c ∧ HasAt (w'.setCells w.heap.size 0 (cv c)) w.heap.size 0 64 ∧ cellsAt (w'.setCells w.heap.size 0 (cv c)) w.heap.size 0 64 = cv c ∧ Below w.heap.size w (w'.setCells w.heap.size 0 (cv c)) := by
  have hs := box_store h.one hz hc
  exact ⟨there_blk h.one _ _ (by simp [cv_length, hz]), box_has h.two hc, box_cells h.two hc, box_has hs hc, box_cells hs hc, below_setCells h.below (Nat.le_refl _) _ _⟩

end Go.Proofs.Ytknjjjenklfeoaa

/-
  The program's own arrays: a table (32 numbers), the counts (256 bytes), a place; read, written, laid at once.
-/
namespace Go.Proofs.Ytknjjjenklfeoaa
open Go.RowKit

def tv (T : List Nat) : List Value := T.map fun n => .int .u16 (n : Nat)
theorem tv_length (T : List Nat) : (tv T).length = T.length := by simp [tv]
theorem tv_get (T : List Nat) (i : Nat) (h : i < T.length) : (tv T)[i]? = some (.int .u16 ((T.getD i 0 : Nat) : Int)) := by
  simp [tv, h, List.getD]
theorem tv_one (T : List Nat) : ∀ v ∈ tv T, v.oneCell' = true := by
  intro v hv
  simp only [tv, List.mem_map] at hv
  obtain ⟨b, _, rfl⟩ := hv
  rfl
def zt : List Nat := List.replicate 32 0
theorem zt_length : zt.length = 32 := by simp [zt]

def loadTab (a : Addr) : Sem Value := loadVar 94 a
theorem loadVar_tab (a : Addr) : loadVar 94 a = loadTab a := rfl
theorem run_loadTab {w : World} {b o : Nat} (h : HasAt w b o 32) : (loadTab ⟨b, o, none⟩).run Try.prog w = .ok (.agg (cellsAt w b o 32).toArray) w :=
  run_loadVar_has h 94 _ Try.underlying94 rfl (by kernel_rfl)
def storeTab (a : Addr) (v : Value) : Sem Unit := storeVar 94 a v
theorem storeVar_tab (a : Addr) (v : Value) : storeVar 94 a v = storeTab a v := rfl
theorem run_storeTab {w : World} {b o : Nat} {T : List Nat} (ht : w.there b o 32) (hT : T.length = 32) : (storeTab ⟨b, o, none⟩ (.agg (tv T).toArray)).run Try.prog w = .ok () (w.setCells b o (tv T)) := by
  have := run_storeVar_mid (P := Try.prog) w b o 94 (tv T).toArray (by simpa [tv_length, hT] using ht) (by simp only [List.size_toArray, tv_length, hT]; kernel_rfl) (all_oneCell_toArray (tv_one T))
  simpa [storeTab] using this
def zeroTab : Sem Value := zeroValue 94
theorem zeroValue_tab : zeroValue 94 = zeroTab := rfl
theorem run_zeroTab (w : World) : zeroTab.run Try.prog w = .ok (.agg (tv zt).toArray) w :=
  (zero_of_info (P := Try.prog) (t := 94) (v := .agg (tv zt).toArray) (n := 32) (by kernel_rfl)).1 w
theorem run_storeTab_new {w : World} {z T : List Nat} (hz : z.length = 32) (hT : T.length = 32) :
    (storeTab ⟨w.heap.size, 0, none⟩ (.agg (tv T).toArray)).run Try.prog (w.alloc (.cells (tv z).toArray 94)) = .ok () (w.alloc (.cells (tv T).toArray 94)) :=
  run_storeVar_new w 94 (tv z).toArray (tv T).toArray (by simp only [List.size_toArray, tv_length, hT]; kernel_rfl) (by simp [tv_length, hz, hT]) (all_oneCell_toArray (tv_one T))
theorem run_loadTab_new {w : World} {T : List Nat} (hT : T.length = 32) :
    (loadTab ⟨w.heap.size, 0, none⟩).run Try.prog (w.alloc (.cells (tv T).toArray 94)) = .ok (.agg (tv T).toArray) (w.alloc (.cells (tv T).toArray 94)) :=
  run_loadVar_new w 94 (tv T).toArray 32 92 Try.underlying94 (by simp only [List.size_toArray, tv_length, hT]; kernel_rfl)

def zk : List UInt8 := List.replicate 256 0
theorem zk_length : zk.length = 256 := List.length_replicate
def loadCnt (a : Addr) : Sem Value := loadVar 86 a
theorem loadVar_cnt (a : Addr) : loadVar 86 a = loadCnt a := rfl
theorem run_loadCnt {w : World} {b o : Nat} (h : HasAt w b o 256) : (loadCnt ⟨b, o, none⟩).run Try.prog w = .ok (.agg (cellsAt w b o 256).toArray) w :=
  run_loadVar_has h 86 _ Try.underlying86 rfl (by kernel_rfl)
def storeCnt (a : Addr) (v : Value) : Sem Unit := storeVar 86 a v
theorem storeVar_cnt (a : Addr) (v : Value) : storeVar 86 a v = storeCnt a v := rfl
theorem run_storeCnt {w : World} {b o : Nat} {c : List UInt8} (ht : w.there b o 256) (hc : c.length = 256) : (storeCnt ⟨b, o, none⟩ (.agg (cv c).toArray)).run Try.prog w = .ok () (w.setCells b o (cv c)) := by
  have := run_storeVar_mid (P := Try.prog) w b o 86 (cv c).toArray (by simpa [cv_length, hc] using ht) (by simp only [List.size_toArray, cv_length, hc]; kernel_rfl) (all_oneCell_toArray (cv_one c))
  simpa [storeCnt] using this
def zeroCnt : Sem Value := zeroValue 86
theorem zeroValue_cnt : zeroValue 86 = zeroCnt := rfl
theorem run_zeroCnt (w : World) : zeroCnt.run Try.prog w = .ok (.agg (cv zk).toArray) w :=
  (zero_of_info (P := Try.prog) (t := 86) (v := .agg (cv zk).toArray) (n := 256) (by kernel_rfl)).1 w
theorem run_storeCnt_new {w : World} {z c : List UInt8} (hz : z.length = 256) (hc : c.length = 256) :
    (storeCnt ⟨w.heap.size, 0, none⟩ (.agg (cv c).toArray)).run Try.prog (w.alloc (.cells (cv z).toArray 86)) = .ok () (w.alloc (.cells (cv c).toArray 86)) :=
  run_storeVar_new w 86 (cv z).toArray (cv c).toArray (by simp only [List.size_toArray, cv_length, hc]; kernel_rfl) (by simp [cv_length, hz, hc]) (all_oneCell_toArray (cv_one c))
theorem run_loadCnt_new {w : World} {c : List UInt8} (hc : c.length = 256) :
    (loadCnt ⟨w.heap.size, 0, none⟩).run Try.prog (w.alloc (.cells (cv c).toArray 86)) = .ok (.agg (cv c).toArray) (w.alloc (.cells (cv c).toArray 86)) :=
  run_loadVar_new w 86 (cv c).toArray 256 5 Try.underlying86 (by simp only [List.size_toArray, cv_length, hc]; kernel_rfl)

/-- A block that holds a list of cells: whole. -/
theorem blk_has {w : World} {b : Nat} {cs : List Value} {t : TypeId} {fr : Nat × Nat} (h : w.heap[b]? = some (.cells cs.toArray t fr)) {n : Nat} (hn : cs.length = n) : HasAt w b 0 n := hasAt_of_range (range_blk h) hn
theorem blk_cells {w : World} {b : Nat} {cs : List Value} {t : TypeId} {fr : Nat × Nat} (h : w.heap[b]? = some (.cells cs.toArray t fr)) {n : Nat} (hn : cs.length = n) : cellsAt w b 0 n = cs := cellsAt_of_range (range_blk h) hn

structure PlaceR where
  first : Nat
  inFirst : Nat
  inSecond : Nat
  second : Nat
  block : Nat
  tab : List Nat
def placeCells (p : PlaceR) : List Value := .int .i64 p.first :: .int .i64 p.inFirst :: .int .i64 p.inSecond :: .int .u16 p.second :: .int .u16 p.block :: tv p.tab
theorem placeCells_length (p : PlaceR) (h : p.tab.length = 32) : (placeCells p).length = 37 := by simp [placeCells, tv_length, h]
theorem placeCells_one (p : PlaceR) : ∀ v ∈ placeCells p, v.oneCell' = true := by
  intro v hv
  simp only [placeCells, List.mem_cons] at hv
  rcases hv with rfl | rfl | rfl | rfl | rfl | hv
  · rfl
  · rfl
  · rfl
  · rfl
  · rfl
  · exact tv_one _ v hv
def zp : PlaceR := ⟨0, 0, 0, 0, 0, zt⟩
def loadPlace (a : Addr) : Sem Value := loadVar 96 a
theorem loadVar_place (a : Addr) : loadVar 96 a = loadPlace a := rfl
theorem run_loadPlace {w : World} {b o : Nat} (h : HasAt w b o 37) : (loadPlace ⟨b, o, none⟩).run Try.prog w = .ok (.agg (cellsAt w b o 37).toArray) w :=
  run_loadVar_has h 96 _ Try.underlying96 rfl (by kernel_rfl)
def storePlace (a : Addr) (v : Value) : Sem Unit := storeVar 96 a v
theorem storeVar_place (a : Addr) (v : Value) : storeVar 96 a v = storePlace a v := rfl
theorem run_storePlace {w : World} {b o : Nat} {p : PlaceR} (ht : w.there b o 37) (hp : p.tab.length = 32) : (storePlace ⟨b, o, none⟩ (.agg (placeCells p).toArray)).run Try.prog w = .ok () (w.setCells b o (placeCells p)) := by
  have := run_storeVar_mid (P := Try.prog) w b o 96 (placeCells p).toArray (by simpa [placeCells_length p hp] using ht) (by simp only [List.size_toArray, placeCells_length p hp]; kernel_rfl) (all_oneCell_toArray (placeCells_one p))
  simpa [storePlace] using this
def zeroPlace : Sem Value := zeroValue 96
theorem zeroValue_place : zeroValue 96 = zeroPlace := rfl
theorem run_zeroPlace (w : World) : zeroPlace.run Try.prog w = .ok (.agg (placeCells zp).toArray) w :=
  (zero_of_info (P := Try.prog) (t := 96) (v := .agg (placeCells zp).toArray) (n := 37) (by kernel_rfl)).1 w
theorem run_storePlace_new {w : World} {z p : PlaceR} (hz : z.tab.length = 32) (hp : p.tab.length = 32) :
    (storePlace ⟨w.heap.size, 0, none⟩ (.agg (placeCells p).toArray)).run Try.prog (w.alloc (.cells (placeCells z).toArray 96)) = .ok () (w.alloc (.cells (placeCells p).toArray 96)) :=
  run_storeVar_new w 96 (placeCells z).toArray (placeCells p).toArray (by simp only [List.size_toArray, placeCells_length p hp]; kernel_rfl) (by simp [placeCells_length _ hz, placeCells_length _ hp]) (all_oneCell_toArray (placeCells_one p))
def bPlace (parts : Array (Nat × Value)) : Sem Value := Instr.build 96 parts
theorem build_place (parts : Array (Nat × Value)) : Instr.build 96 parts = bPlace parts := rfl
theorem run_bPlace (a b c : Nat) (w : World) : (bPlace #[(0, .int .i64 a), (1, .int .i64 b), (2, .int .i64 c)]).run Try.prog w = .ok (.agg (placeCells ⟨a, b, c, 0, 0, zt⟩).toArray) w := by
  have hz := (zero_of_info (P := Try.prog) (t := 96) (v := .agg (placeCells zp).toArray) (n := 37) (by kernel_rfl)).1
  exact run_build_struct w 96 _ (.agg (placeCells zp).toArray) #[(0, 1), (1, 1), (2, 1), (3, 1), (4, 1), (5, 32)] #[(0, .int .i64 a), (1, .int .i64 b), (2, .int .i64 c)] _ Try.underlying96 hz (fun w => by kernel_rfl) (by rfl)

def hv (a b : Nat) : List Value := [.int .i64 (a : Nat), .int .i64 (b : Nat)]
theorem hv_length (a b : Nat) : (hv a b).length = 2 := rfl
theorem hv_one (a b : Nat) : ∀ v ∈ hv a b, v.oneCell' = true := by
  intro v hv'
  simp only [hv, List.mem_cons, List.not_mem_nil, or_false] at hv'
  rcases hv' with rfl | rfl <;> rfl
def loadHead (a : Addr) : Sem Value := loadVar 64 a
theorem loadVar_head (a : Addr) : loadVar 64 a = loadHead a := rfl
theorem run_loadHead {w : World} {b o : Nat} (h : HasAt w b o 2) : (loadHead ⟨b, o, none⟩).run Try.prog w = .ok (.agg (cellsAt w b o 2).toArray) w :=
  run_loadVar_has h 64 _ Try.underlying64 rfl (by kernel_rfl)
def storeHead (a : Addr) (v : Value) : Sem Unit := storeVar 64 a v
theorem storeVar_head (a : Addr) (v : Value) : storeVar 64 a v = storeHead a v := rfl
theorem run_storeHead {w : World} {b o : Nat} {x y : Nat} (ht : w.there b o 2) : (storeHead ⟨b, o, none⟩ (.agg (hv x y).toArray)).run Try.prog w = .ok () (w.setCells b o (hv x y)) := by
  have := run_storeVar_mid (P := Try.prog) w b o 64 (hv x y).toArray (by simpa [hv_length] using ht) (by simp only [List.size_toArray, hv_length]; kernel_rfl) (all_oneCell_toArray (hv_one x y))
  simpa [storeHead] using this
def zeroHead : Sem Value := zeroValue 64
theorem zeroValue_head : zeroValue 64 = zeroHead := rfl
theorem run_zeroHead (w : World) : zeroHead.run Try.prog w = .ok (.agg (hv 0 0).toArray) w :=
  (zero_of_info (P := Try.prog) (t := 64) (v := .agg (hv 0 0).toArray) (n := 2) (by kernel_rfl)).1 w
theorem run_storeHead_new {w : World} {a b x y : Nat} :
    (storeHead ⟨w.heap.size, 0, none⟩ (.agg (hv x y).toArray)).run Try.prog (w.alloc (.cells (hv a b).toArray 64)) = .ok () (w.alloc (.cells (hv x y).toArray 64)) :=
  run_storeVar_new w 64 (hv a b).toArray (hv x y).toArray (by simp only [List.size_toArray, hv_length]; kernel_rfl) (by simp [hv_length]) (all_oneCell_toArray (hv_one x y))
def bHead (parts : Array (Nat × Value)) : Sem Value := Instr.build 64 parts
theorem build_head (parts : Array (Nat × Value)) : Instr.build 64 parts = bHead parts := rfl
theorem run_bHead (a b : Nat) (w : World) : (bHead #[(0, .int .i64 a), (1, .int .i64 b)]).run Try.prog w = .ok (.agg (hv a b).toArray) w := by
  have hz := (zero_of_info (P := Try.prog) (t := 64) (v := .agg (hv 0 0).toArray) (n := 2) (by kernel_rfl)).1
  exact run_build_struct w 64 _ (.agg (hv 0 0).toArray) #[(0, 1), (1, 1)] #[(0, .int .i64 a), (1, .int .i64 b)] _ Try.underlying64 hz (fun w => by kernel_rfl) (by rfl)

end Go.Proofs.Ytknjjjenklfeoaa

/-
  The program's layout: numbers of two bytes, marks.
-/
namespace Go.Proofs.Ytknjjjenklfeoaa
open Go.RowKit
attribute [local go_sem ↓] loadVar_clus storeVar_clus zeroValue_clus loadVar_tab storeVar_tab zeroValue_tab loadVar_cnt storeVar_cnt zeroValue_cnt loadVar_head storeVar_head zeroValue_head build_head
attribute [local go_sem] run_loadClus run_storeClus run_zeroClus run_storeClus_new run_loadClus_new zc_length run_loadTab run_storeTab run_zeroTab run_storeTab_new run_loadTab_new zt_length run_loadCnt run_storeCnt run_zeroCnt run_storeCnt_new run_loadCnt_new zk_length run_loadHead run_storeHead run_zeroHead run_storeHead_new run_bHead
theorem or_hi (a b : Nat) (ha : a < 256) (hb : b < 256) : bits .or .u16 ((a : Int) * 256) (b : Int) = ((256 * a + b : Nat) : Int) := by
  rw [bits_join .u16 16 (by decide) wraps_u16 8 ((a : Int) * 256) (b : Int) (by omega) (by omega) (by omega) (by omega) (by omega) (by omega)]
  omega
theorem or_mark (n : Nat) (hn : n < 32768) : bits .or .u16 (n : Int) 32768 = ((n + 32768 : Nat) : Int) := by
  rw [bits_join_low .u16 16 (by decide) wraps_u16 15 (n : Int) 32768 (by omega) (by omega) (by omega) (by omega) (by omega) (by omega)]
  omega
theorem andNot_mark (n : Nat) (hn : n < 65536) : bits .andNot .u16 (n : Int) 32768 = ((n % 32768 : Nat) : Int) := by
  have h : bits .andNot .u16 (n : Int) 32768 = bits .and .u16 (n : Int) 32767 := by
    simp only [bits]
    rw [show ~~~(BitVec.ofInt IntKind.u16.bits 32768) = BitVec.ofInt IntKind.u16.bits 32767 from by decide]
  rw [h, show (32767 : Int) = 2 ^ 15 - 1 by decide, bits_mask .u16 16 (by decide) wraps_u16 15 (by decide) (n : Int) (by omega) (by omega)]
  omega
theorem and_mark (n : Nat) (hn : n < 65536) : bits .and .u16 (n : Int) 32768 = if 32768 ≤ n then 32768 else 0 := by
  have h := (bits_nat .u16 16 (by decide) wraps_u16 n 32768 hn (by decide)).1
  rw [show ((32768 : Nat) : Int) = 32768 from rfl] at h
  rw [h]
  have key : n &&& 2 ^ 15 = if 32768 ≤ n then 2 ^ 15 else 0 := by
    refine Nat.eq_of_testBit_eq fun i => ?_
    rw [Nat.testBit_and, Nat.testBit_two_pow]
    by_cases hi : 15 = i
    · subst hi
      rw [decide_eq_true rfl, Bool.and_true, Nat.testBit_eq_decide_div_mod_eq]
      split
      · rw [show n / 2 ^ 15 = 1 by omega]; decide
      · rw [show n / 2 ^ 15 = 0 by omega]; decide
    · rw [decide_eq_false hi, Bool.and_false]
      split
      · rw [Nat.testBit_two_pow, decide_eq_false hi]
      · simp
  rw [show (32768 : Nat) = 2 ^ 15 from rfl, key]
  split <;> rfl

theorem numberAt_any (c : List UInt8) (at' : Int) (w : World) (hc : c.length = 64) (h0 : 0 ≤ at') (h1 : at' < 63) :
    Calls Try.prog 79 #[.agg (cv c).toArray, .int .i64 at'] w fun e w' => e = .returned (.int .u16 (num c at'.toNat : Nat)) ∧ Below w.heap.size w w' := by
  obtain ⟨n, rfl⟩ := Int.eq_ofNat_of_zero_le h0
  have b1 := byteAt_lt c n
  have b2 := byteAt_lt c (n + 1)
  have k1 : (w.alloc (.cells (cv c).toArray 26)).cell? ⟨w.heap.size, n, none⟩ = some (.int .u8 (byteAt c n : Nat)) := by
    rw [cell_new, List.getElem?_toArray, cv_get]; omega
  have k2 : (w.alloc (.cells (cv c).toArray 26)).cell? ⟨w.heap.size, n + 1, none⟩ = some (.int .u8 (byteAt c (n + 1) : Nat)) := by
    rw [cell_new, List.getElem?_toArray, cv_get]; omega
  go_enter Try.func79, Try.ntmps79
  go_wp2
  go_quiet (fail)
  go_wp2
  go_ret
  refine ⟨?_, ?_⟩
  · exact ret_int (or_hi _ _ b1 b2)
  · exact (((Kept.refl (fun _ => False) w).alloc _).drewN _).below

theorem marked_of (n : Nat) (hn : n < 65536) (w : World) : Calls Try.prog 49 #[.int .u16 (n : Nat)] w fun e w' => e = .returned (.bool (decide (32768 ≤ n))) ∧ w' = w := by
  go_enter Try.func49, Try.ntmps49
  go_wp2
  go_ret
  refine ⟨?_, rfl⟩
  rw [show bits BinOp.and IntKind.u16 (n : Int) 32768 = _ from and_mark n hn]
  by_cases h : 32768 ≤ n
  · rw [if_pos h, decide_eq_true h]; rfl
  · rw [if_neg h, decide_eq_false h]; rfl
theorem cluster_of (n : Nat) (hn : n < 65536) (w : World) : Calls Try.prog 52 #[.int .u16 (n : Nat)] w fun e w' => e = .returned (.int .i64 ((n % 32768 : Nat) : Int)) ∧ w' = w := by
  go_enter Try.func52, Try.ntmps52
  go_wp2
  go_ret
  refine ⟨?_, rfl⟩
  rw [show bits BinOp.andNot IntKind.u16 (n : Int) 32768 = _ from andNot_mark n hn]
  exact ret_int (IntWalk.wrap64_in _ (by omega))
theorem own_of (n : Nat) (hn : n < 32768) (w : World) : Calls Try.prog 73 #[.int .i64 (n : Nat)] w fun e w' => e = .returned (.int .u16 ((n + 32768 : Nat) : Int)) ∧ w' = w := by
  go_enter Try.func73, Try.ntmps73
  go_wp2
  go_ret
  refine ⟨?_, rfl⟩
  exact ret_int (or_mark n hn)
end Go.Proofs.Ytknjjjenklfeoaa

/-
  The blocks that a call has laid for its own variables, in the order in which they were laid; nothing that was there has turned.
-/
namespace Go.Proofs.Ytknjjjenklfeoaa
open Go.RowKit

structure Locs (w w' : World) (os : List Obj) : Prop where
  objs : ∀ i o, os[i]? = some o → w'.heap[w.heap.size + i]? = some o
  below : Below w.heap.size w w'
theorem Locs.nil (w : World) : Locs w w [] := ⟨fun _ _ h => by simp at h, Below.refl _ _⟩
theorem Locs.one (w : World) (o : Obj) : Locs w (w.alloc o) [o] := ⟨fun i x h => by
  cases i with
  | zero => simp at h; subst h; exact heap_alloc_new w o
  | succ i => simp at h, (Below.refl _ _).alloc (Nat.le_refl _) _⟩
theorem Locs.two (w : World) (o p : Obj) : Locs w ((w.alloc o).alloc p) [o, p] := ⟨fun i x h => by
  match i with
  | 0 => simp at h; subst h; exact (Below.heap_alloc _ _ _ (by simp)).trans (heap_alloc_new w _)
  | 1 => simp at h; subst h; have := heap_alloc_new (w.alloc o) p; rwa [World.size_alloc] at this
  | i + 2 => simp at h, ((Below.refl _ _).alloc (Nat.le_refl _) _).alloc (by simp) _⟩
theorem Locs.three (w : World) (o p q : Obj) : Locs w (((w.alloc o).alloc p).alloc q) [o, p, q] := ⟨fun i x h => by
  match i with
  | 0 => simp at h; subst h; exact (Below.heap_alloc _ _ _ (by simp; omega)).trans ((Below.heap_alloc _ _ _ (by simp)).trans (heap_alloc_new w _))
  | 1 => simp at h; subst h; have := heap_alloc_new (w.alloc o) p; rw [World.size_alloc] at this; exact (Below.heap_alloc _ _ _ (by simp)).trans this
  | 2 => simp at h; subst h; have := heap_alloc_new ((w.alloc o).alloc p) q; simp only [World.size_alloc] at this; exact this
  | i + 3 => simp at h, (((Below.refl _ _).alloc (Nat.le_refl _) _).alloc (by simp) _).alloc (by simp; omega) _⟩
/-- A block that is laid behind those that are there, be they the last or not. -/
theorem Locs.later {w w' w2 : World} {os : List Obj} (h : Locs w w' os) (hb : Below w'.heap.size w' w2) : Locs w w2 os :=
  ⟨fun i o ho => by have := h.objs i o ho; rw [hb.block _ (blk_lt this)]; exact this, h.below.trans (hb.mono h.below.size)⟩
theorem Locs.alloc {w w' : World} {os : List Obj} (h : Locs w w' os) (o : Obj) : Locs w (w'.alloc o) os := h.later ((Below.refl _ _).alloc (Nat.le_refl _) _)
theorem Locs.drewN {w w' : World} {os : List Obj} (h : Locs w w' os) (n : Nat) : Locs w (w'.drewN n) os := ⟨h.objs, ⟨h.below.os, h.below.tape, h.below.output, h.below.size, h.below.block⟩⟩
theorem Locs.drew {w w' : World} {os : List Obj} (h : Locs w w' os) : Locs w w'.drew os := ⟨h.objs, h.below.drew⟩
/-- One of them is another. -/
theorem Locs.put {w w' w2 : World} {os : List Obj} (h : Locs w w' os) (i : Nat) (o : Obj) (hk : Kept (fun x => x = w.heap.size + i) w' w2) (ho : w2.heap[w.heap.size + i]? = some o) : Locs w w2 (os.set i o) :=
  ⟨fun j x hx => by
    rw [List.getElem?_set] at hx
    split at hx
    · rename_i e
      subst e
      split at hx
      · injection hx with hx; subst hx; exact ho
      · cases hx
    · rename_i e
      exact hk.blk (by omega) (h.objs j x hx), h.below.trans ⟨hk.os, hk.tape, hk.output, hk.size, fun k hk1 => hk.block k (Nat.lt_of_lt_of_le hk1 h.below.size) (by omega)⟩⟩
theorem Locs.setCell {w w' : World} {os : List Obj} (h : Locs w w' os) (i : Nat) {cs : Array Value} {t : TypeId} {fr : Nat × Nat} (hi : os[i]? = some (.cells cs t fr)) (j : Nat) (v : Value) :
    Locs w (w'.setCell ⟨w.heap.size + i, j, none⟩ v) (os.set i (.cells (cs.setIfInBounds j v) t fr)) :=
  h.put i _ (Kept.only _ _ _ _) (heap_setCell_same _ _ _ _ _ _ _ (h.objs i _ hi))
theorem Kept.onlys (w : World) (f o : Nat) (vs : List Value) : Kept (fun k => k = f) w (w.setCells f o vs) := (Kept.refl (fun k => k = f) w).setCells (Or.inl rfl) o vs
theorem Locs.setCells {w w' : World} {os : List Obj} (h : Locs w w' os) (i : Nat) {cs : Array Value} {t : TypeId} {fr : Nat × Nat} (hi : os[i]? = some (.cells cs t fr)) (j : Nat) (vs : List Value) :
    Locs w (w'.setCells (w.heap.size + i) j vs) (os.set i (.cells (setList cs j vs) t fr)) :=
  h.put i _ (Kept.onlys _ _ _ _) (heap_setCells_same _ _ _ _ _ _ _ (h.objs i _ hi))
theorem Locs.lt {w w' : World} {os : List Obj} (h : Locs w w' os) {i : Nat} {o : Obj} (hi : os[i]? = some o) : w.heap.size + i < w'.heap.size := blk_lt (h.objs i o hi)
theorem Locs.o0 {w w' : World} {o : Obj} {os : List Obj} (h : Locs w w' (o :: os)) : w'.heap[w.heap.size]? = some o := h.objs 0 o rfl
theorem Locs.o1 {w w' : World} {a o : Obj} {os : List Obj} (h : Locs w w' (a :: o :: os)) : w'.heap[w.heap.size + 1]? = some o := h.objs 1 o rfl
theorem Locs.o2 {w w' : World} {a b o : Obj} {os : List Obj} (h : Locs w w' (a :: b :: o :: os)) : w'.heap[w.heap.size + 1 + 1]? = some o := h.objs 2 o rfl
theorem Locs.o3 {w w' : World} {a b c o : Obj} {os : List Obj} (h : Locs w w' (a :: b :: c :: o :: os)) : w'.heap[w.heap.size + 1 + 1 + 1]? = some o := h.objs 3 o rfl

end Go.Proofs.Ytknjjjenklfeoaa

/-
  The program's layout: a number is put into a cluster.
-/
namespace Go.Proofs.Ytknjjjenklfeoaa
open Go.RowKit
attribute [local go_sem ↓] loadVar_clus storeVar_clus zeroValue_clus loadVar_tab storeVar_tab zeroValue_tab loadVar_cnt storeVar_cnt zeroValue_cnt loadVar_head storeVar_head zeroValue_head build_head
attribute [local go_sem] run_loadClus run_storeClus run_zeroClus run_storeClus_new run_loadClus_new zc_length run_loadTab run_storeTab run_zeroTab run_storeTab_new run_loadTab_new zt_length run_loadCnt run_storeCnt run_zeroCnt run_storeCnt_new run_loadCnt_new zk_length run_loadHead run_storeHead run_zeroHead run_storeHead_new run_bHead
def putNum (c : Clus) (k n : Nat) : Clus := (c.set k (UInt8.ofNat (n / 256))).set (k + 1) (UInt8.ofNat (n % 256))
theorem putNum_length (c : Clus) (k n : Nat) : (putNum c k n).length = c.length := by simp [putNum]
theorem cv_setB (c : Clus) (k : Nat) (b : Nat) (hb : b < 256) : cv (c.set k (UInt8.ofNat b)) = (cv c).set k (.int .u8 (b : Nat)) := by
  rw [cv, List.map_set]
  congr 2
  have : (UInt8.ofNat b).toNat = b := by rw [UInt8.toNat_ofNat']; omega
  rw [this]

set_option maxHeartbeats 1000000 in
theorem putNumber_any (w : World) (b : Nat) (c : Clus) (t : TypeId) (hb : w.heap[b]? = some (.cells (cv c).toArray t (0, 0))) (hc : c.length = 64) (k n : Nat) (hk : k < 63) (hn : n < 65536) :
    Calls Try.prog 82 #[.pointer (some ⟨b, 0, none⟩), .int .i64 (k : Nat), .int .u16 (n : Nat)] w fun e w' => e = .returned (.tuple #[]) ∧ w'.heap[b]? = some (.cells (cv (putNum c k n)).toArray t (0, 0)) ∧ Kept (fun x => x = b) w w' := by
  have f1 := frozen_blk hb k
  have f2 := frozen_blk hb (k + 1)
  have c1 : w.cell? ⟨b, k, none⟩ = some (.int .u8 (byteAt c k : Nat)) := by rw [cell_blk hb, List.getElem?_toArray, cv_get _ _ (by omega)]
  have c2 : w.cell? ⟨b, k + 1, none⟩ = some (.int .u8 (byteAt c (k + 1) : Nat)) := by rw [cell_blk hb, List.getElem?_toArray, cv_get _ _ (by omega)]
  have hki : (k : Int) < 63 := by omega
  have e1 : ((w.setCell ⟨b, k, none⟩ (.int .u8 ((n / 256 : Nat) : Int))).setCell ⟨b, k + 1, none⟩ (.int .u8 ((n % 256 : Nat) : Int))).heap[b]? = some (.cells (cv (putNum c k n)).toArray t (0, 0)) := by
    rw [heap_setCell_same _ _ _ _ _ _ _ (heap_setCell_same _ _ _ _ _ _ _ hb), putNum, cv_setB _ _ _ (by omega), cv_setB _ _ _ (by omega)]
    simp
  have k1 := (Kept.only w b k (.int .u8 ((n / 256 : Nat) : Int))).trans (Kept.only _ b (k + 1) (.int .u8 ((n % 256 : Nat) : Int)))
  rw [Int.natCast_ediv, Int.natCast_emod] at e1 k1
  have E1 := hide e1
  have K1 := hide k1
  clear e1 k1
  go_enter Try.func82, Try.ntmps82
  go_wp2
  go_region
  go_end0
  exact ⟨rfl, unhide E1, (unhide K1).drew⟩

def numsOf (c : Clus) : List Nat := (List.range 32).map fun i => num c (2 * i)
theorem numsOf_length (c : Clus) : (numsOf c).length = 32 := by simp [numsOf]
theorem numsOf_get (c : Clus) (i : Nat) (hi : i < 32) : (numsOf c).getD i 0 = num c (2 * i) := by simp [numsOf, List.getD, hi]
def numsTo (c : Clus) (k : Nat) : List Nat := (List.range 32).map fun i => if i < k then num c (2 * i) else 0
theorem numsTo_zero (c : Clus) : numsTo c 0 = zt := by
  unfold numsTo zt
  refine List.eq_replicate_iff.2 ⟨by simp, fun b hb => ?_⟩
  obtain ⟨i, _, rfl⟩ := List.mem_map.1 hb
  rw [if_neg (by omega)]
theorem numsTo_all (c : Clus) : numsTo c 32 = numsOf c := by
  unfold numsTo numsOf
  refine List.map_congr_left fun i hi => ?_
  rw [if_pos (List.mem_range.1 hi)]
theorem numsTo_length (c : Clus) (k : Nat) : (numsTo c k).length = 32 := by simp [numsTo]
theorem numsTo_succ (c : Clus) (k : Nat) (hk : k < 32) : numsTo c (k + 1) = (numsTo c k).set k (num c (2 * k)) := by
  refine List.ext_getElem? fun i => ?_
  rw [List.getElem?_set]
  simp only [numsTo, List.getElem?_map, List.length_map, List.length_range]
  by_cases hi : i < 32
  · rw [List.getElem?_range hi]
    by_cases e : k = i
    · subst e; simp [hk]
    · simp only [Option.map_some, if_neg e]
      congr 1
      by_cases h : i < k
      · rw [if_pos h, if_pos (by omega)]
      · rw [if_neg h, if_neg (by omega)]
  · rw [List.getElem?_eq_none (by simp; omega)]
    split
    · omega
    · rfl
theorem tv_set (T : List Nat) (k n : Nat) : tv (T.set k n) = (tv T).set k (.int .u16 (n : Nat)) := by simp [tv, List.map_set]

set_option maxHeartbeats 1000000 in
set_option maxRecDepth 100000 in
theorem tableOf_any (w : World) (c : Clus) (hc : c.length = 64) :
    Calls Try.prog 86 #[.agg (cv c).toArray] w fun e w' => e = .returned (.agg (tv (numsOf c)).toArray) ∧ Below w.heap.size w w' := by
  have L0 := hide (Locs.three w (.cells (cv c).toArray 26) (.cells (tv zt).toArray 94) (.cells (tv zt).toArray 94))
  go_enter Try.func86, Try.ntmps86
  go_wp2
  go_loopw [4, 5] (fun _ i w' => ∃ k : Nat, k ≤ 32 ∧ i = .int .i64 k ∧ Locs w w' [.cells (cv c).toArray 26, .cells (tv zt).toArray 94, .cells (tv (numsTo c k)).toArray 94]) (fun _ i _ => 32 - (intOf i).toNat)
  case atStart => exact ⟨0, by omega, rfl, by rw [numsTo_zero]; exact unhide L0⟩
  case round =>
    obtain ⟨k, hk, rfl, hL⟩ := hrel
    clear L0
    by_cases hlt : k < 32
    · have hki : (k : Int) < 32 := by omega
      have b0 := hL.o0
      have l1 := box_has b0 hc
      have l2 := box_cells b0 hc
      have Hn := hide (numberAt_any c (2 * (k : Int)) wr hc (by omega) (by omega))
      have HL := hide hL
      have Hs := hide (numsTo_succ c k hlt)
      clear hL b0
      go_wp2_with fail
      refine (unhide Hn).mono ?_
      rintro e w1 ⟨rfl, hb1⟩
      have hL1 := (unhide HL).later hb1
      have b2 := hL1.o2
      have f1 := frozen_blk b2 k
      have c1 : w1.cell? ⟨w.heap.size + 1 + 1, k, none⟩ = some (.int .u16 (((numsTo c k).getD k 0 : Nat) : Int)) := by
        rw [cell_blk b2, List.getElem?_toArray, tv_get _ _ (by rw [numsTo_length]; exact hlt)]
      have L1 := hide (hL1.setCell 2 rfl k (.int .u16 (num c (2 * k) : Nat)))
      rw [show (2 * (k : Int)).toNat = 2 * k by omega]
      clear hL1 b2 hb1 HL Hn l1 l2
      go_wp2
      go_roundw
      case rel =>
        refine ⟨k + 1, by omega, by go_num, ?_⟩
        rw [unhide Hs, tv_set]
        simpa using unhide L1
      case measure => simp [intOf]; omega
    · have hk32 : k = 32 := by omega
      subst hk32
      rw [numsTo_all] at hL
      have b1 := hL.o1
      have b2 := hL.o2
      have l1 := blk_has b2 (n := 32) (by rw [tv_length, numsOf_length])
      have l2 := blk_cells b2 (n := 32) (by rw [tv_length, numsOf_length])
      have th := there_blk b1 0 32 (by simp [tv_length, zt_length])
      have hnl := numsOf_length c
      have hset := hL.setCells 1 rfl 0 (tv (numsOf c))
      rw [setList_all _ _ (by simp [tv_length, zt_length, numsOf_length])] at hset
      have o1 := hset.o1
      have l3 := blk_has o1 (n := 32) (by rw [tv_length, numsOf_length])
      have l4 := blk_cells o1 (n := 32) (by rw [tv_length, numsOf_length])
      have HB := hide hset.below
      clear hL b1 b2 hset o1
      go_wp2
      refine bodyPost_ret (results_cell Try.results86 ⟨w.heap.size + 1, 0, none⟩ rfl ?_) rfl ⟨rfl, unhide HB⟩
      rw [loadVar_tab, run_loadTab l3, l4]
end Go.Proofs.Ytknjjjenklfeoaa
