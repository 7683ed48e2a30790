import Derived.Test.YtknjjjenklfeoaaGreatDoorP05
import Derived.Test.YtknjjjenklfeoaaGreatDoorP00
/-
  What a tree that is gone through shows of the file: all that it tells lies in it. (Plain lists; nothing of the program.)
-/
namespace Go.Proofs.YtknjjjenklfeoaaGreatDoor

theorem treeIn_L (t : Nat) : ∀ m k R, (treeIn t m k R).2.L = R.L
  | 0, _, _ => rfl
  | m + 1, k, R => by
    rw [treeIn]
    split
    · exact treeIn_L t m _ R
    · split
      · rw [treeIn_L t m, tell_L]
      · exact tell_L _ _ _ _
theorem treeIn_roots (t : Nat) : ∀ m k R, (treeIn t m k R).2.roots = R.roots
  | 0, _, _ => rfl
  | m + 1, k, R => by
    rw [treeIn]
    split
    · exact treeIn_roots t m _ R
    · split
      · rw [treeIn_roots t m, tell_roots]
      · exact tell_roots _ _ _ _
theorem treeIn_in (t : Nat) : ∀ m k R, (treeIn t m k R).1 = true → ∀ j, k ≤ j → j < k + m → num (cl R.L t) (2 * j) ≠ 0 → num (cl R.L t) (2 * j) % 32768 < R.L.length
  | 0, _, _, _, j, h1, h2, _ => by omega
  | m + 1, k, R, h, j, h1, h2, hj => by
    rw [treeIn] at h
    split at h
    · rename_i h0
      by_cases e : j = k
      · subst e; exact absurd h0 hj
      · exact treeIn_in t m (k + 1) R h j (by omega) (by omega) hj
    · split at h
      · rename_i h0 ht
        by_cases e : j = k
        · subst e; exact (tell_ok ht).2
        · have := treeIn_in t m (k + 1) _ h j (by omega) (by omega) (by rw [tell_L]; exact hj)
          rw [tell_L] at this; exact this
      · cases h
theorem treeOut_in (t : Nat) : ∀ m i R, (treeOut t m i R).1 = true → ∀ j, i ≤ j → j < i + m → num (cl R.L t) (2 * j) ≠ 0 →
    num (cl R.L t) (2 * j) % 32768 < R.L.length ∧ ∀ k, k < 32 → num (cl R.L (num (cl R.L t) (2 * j) % 32768)) (2 * k) ≠ 0 → num (cl R.L (num (cl R.L t) (2 * j) % 32768)) (2 * k) % 32768 < R.L.length
  | 0, _, _, _, j, h1, h2, _ => by omega
  | m + 1, i, R, h, j, h1, h2, hj => by
    rw [treeOut] at h
    split at h
    · rename_i h0
      by_cases e : j = i
      · subst e; exact absurd h0 hj
      · exact treeOut_in t m (i + 1) R h j (by omega) (by omega) hj
    · split at h
      · cases h
      · split at h
        · split at h
          · rename_i h0 hi ht hin
            by_cases e : j = i
            · subst e
              refine ⟨(tell_ok ht).2, fun k hk hy => ?_⟩
              have := treeIn_in _ 32 0 _ hin k (by omega) (by omega) (by rw [tell_L]; exact hy)
              rw [tell_L] at this; exact this
            · have := treeOut_in t m (i + 1) _ h j (by omega) (by omega) (by rw [treeIn_L, tell_L]; exact hj)
              rw [treeIn_L, tell_L] at this; exact this
          · cases h
        · cases h
theorem tree_inFile {R : FileR} {r : RootR} (h : (tree R r).1 = true) : InFile R.L r.N := by
  unfold tree at h
  split at h
  · rename_i ht
    have hN := tell_ok ht
    have hx := treeOut_in r.N 32 0 _ h
    simp only [tell_L] at hx
    refine ⟨hN.2, fun i hi h0 => (hx i (by omega) (by omega) h0).1, fun i hi h0 k hk => ?_⟩
    by_cases hy : num (cl R.L (num (cl R.L r.N) (2 * i) % 32768)) (2 * k) = 0
    · rw [hy]; omega
    · exact (hx i (by omega) (by omega) h0).2 k hk hy
  · cases h

/-- All first tables are gone through, from the i-th on, m of them. -/
def treesFrom : Nat → Nat → FileR → Bool × FileR
  | 0, _, R => (true, R)
  | m + 1, i, R => if (tree R (rootOf R i)).1 then treesFrom m (i + 1) (tree R (rootOf R i)).2 else (false, (tree R (rootOf R i)).2)
/-- The marks of all first tables. -/
def marksFrom (R : FileR) : Nat → Nat → Int → Int
  | 0, _, b => b
  | m + 1, i, b => if b < 0 then marksFrom R m (i + 1) (marked R (rootOf R i)).1 else b
def zeros256 : List Nat := List.replicate 256 0
def used6 : List Nat := [1, 1, 1, 1, 1, 1] ++ List.replicate 250 0
def R0 : FileR := ⟨[], [], zeros256, zeros256, -1⟩
def R1of (file : List Clus) : FileR := { R0 with L := padTo file (num (cl file 0) 4), roots := [⟨num (cl file 0) 6, 0, []⟩] }
def R2of (file : List Clus) : FileR := { R1of file with roots := (listOf (R1of file)).2, used := used6 }
def R3of (file : List Clus) : Bool × FileR := treesFrom (R2of file).roots.length 0 (R2of file)
def look (file : List Clus) : FileR :=
  if headGood file = false then { R0 with bad := 0 }
  else if (listOf (R1of file)).1 = false then { R1of file with roots := (listOf (R1of file)).2, bad := 5 }
  else if (R3of file).1 = false then (R3of file).2
  else { (R3of file).2 with bad := marksFrom (R3of file).2 (R3of file).2.roots.length 0 (countsFrom (R3of file).2 256 0) }

end Go.Proofs.YtknjjjenklfeoaaGreatDoor

/-
  The reference's Look: a file is looked over.
-/
namespace Go.Proofs.YtknjjjenklfeoaaGreatDoor
open Go.RowKit

def bFile (parts : Array (Nat × Value)) : Sem Value := Instr.build 93 parts
theorem build_file (parts : Array (Nat × Value)) : Instr.build 93 parts = bFile parts := rfl
theorem run_bFile (w : World) : (bFile #[(4, .int .i64 (-1))]).run Tryz.prog w = .ok (.agg (fileCells (.slice none 0 0) (.slice none 0 0) R0).toArray) w := by kernel_rfl

theorem listFrom_ok (c : Clus) : ∀ m i over Q, (∀ r ∈ Q, r.N < 65536 ∧ r.At < 65536) → (∀ r ∈ (listFrom c m i over Q).2, r.N < 65536 ∧ r.At < 65536) ∧ Q.length ≤ (listFrom c m i over Q).2.length ∧ (listFrom c m i over Q).2.length ≤ Q.length + m
  | 0, _, _, Q, h => ⟨h, Nat.le_refl _, Nat.le_refl _⟩
  | m + 1, i, over, Q, h => by
    rw [listFrom]
    split
    · split
      · obtain ⟨a, b, d⟩ := listFrom_ok c m (i + 1) true Q h; exact ⟨a, b, by omega⟩
      · exact ⟨h, Nat.le_refl _, by show Q.length ≤ _; omega⟩
    · split
      · exact ⟨h, Nat.le_refl _, by show Q.length ≤ _; omega⟩
      · split
        · exact ⟨h, Nat.le_refl _, by show Q.length ≤ _; omega⟩
        · obtain ⟨a, b, d⟩ := listFrom_ok c m (i + 1) over (Q ++ [⟨num c (16 * i), 5, (nameOf c (16 * i + 2)).1⟩]) (by
            intro r hr
            rcases List.mem_append.1 hr with x | x
            · exact h r x
            · rw [List.mem_singleton.1 x]; exact ⟨num_lt _ _, by show 5 < 65536; omega⟩)
          simp only [List.length_append, List.length_singleton] at b d
          exact ⟨a, by omega, by omega⟩
theorem R1_roots (file : List Clus) : ∀ r ∈ (R1of file).roots, r.N < 65536 ∧ r.At < 65536 := by
  intro r hr
  rw [List.mem_singleton.1 hr]
  exact ⟨num_lt _ _, by show 0 < 65536; omega⟩
theorem R2_roots (file : List Clus) : (∀ r ∈ (R2of file).roots, r.N < 65536 ∧ r.At < 65536) ∧ 1 ≤ (R2of file).roots.length ∧ (R2of file).roots.length ≤ 5 := by
  have h := listFrom_ok (cl (R1of file).L 5) 4 0 false (R1of file).roots (R1_roots file)
  have e : (R1of file).roots.length = 1 := rfl
  rw [e] at h
  exact ⟨h.1, h.2.1, h.2.2⟩
theorem rootOf_mem {R : FileR} {i : Nat} (h : i < R.roots.length) : rootOf R i ∈ R.roots := by
  unfold rootOf
  rw [List.getD_eq_getElem?_getD, List.getElem?_eq_getElem h]
  exact List.getElem_mem h
theorem mark_bad (R : FileR) (b : Int) (x : Nat) : markBad { R with bad := b } x = markBad R x := rfl
theorem mark_none (R : FileR) (b : Int) (x : Nat) : markNone { R with bad := b } x = markNone R x := rfl
theorem markedIn_bad (R : FileR) (b : Int) (t : Nat) : ∀ m k acc, markedIn { R with bad := b } t m k acc = markedIn R t m k acc
  | 0, _, _ => rfl
  | m + 1, k, acc => by simp only [markedIn, mark_bad, mark_none, markedIn_bad R b t m]
theorem markedOut_bad (R : FileR) (b : Int) (t : Nat) : ∀ m k acc, markedOut { R with bad := b } t m k acc = markedOut R t m k acc
  | 0, _, _ => rfl
  | m + 1, k, acc => by simp only [markedOut, mark_bad, mark_none, markedIn_bad, markedOut_bad R b t m]
theorem marked_bad (R : FileR) (b : Int) (r : RootR) : marked { R with bad := b } r = marked R r := markedOut_bad R b r.N 2 0 0
/-- The first six clusters are used once: after k rounds. -/
def usedTo (k : Nat) : List Nat := List.replicate k 1 ++ List.replicate (256 - k) 0
theorem usedTo_length (k : Nat) (h : k ≤ 6) : (usedTo k).length = 256 := by simp [usedTo]; omega
theorem usedTo_succ (k : Nat) (h : k < 6) : (usedTo k).set k 1 = usedTo (k + 1) := by
  refine List.ext_getElem? fun i => ?_
  rw [List.getElem?_set, usedTo_length k (by omega)]
  unfold usedTo
  by_cases hi : k = i
  · subst hi
    rw [if_pos rfl, if_pos (by omega), List.getElem?_append_left (by simp), List.getElem?_replicate, if_pos (by omega)]
  · rw [if_neg hi]
    by_cases h1 : i < k
    · rw [List.getElem?_append_left (by simp; omega), List.getElem?_append_left (by simp; omega), List.getElem?_replicate, List.getElem?_replicate, if_pos h1, if_pos (by omega)]
    · rw [List.getElem?_append_right (by simp; omega), List.getElem?_append_right (by simp; omega), List.getElem?_replicate, List.getElem?_replicate]
      simp only [List.length_replicate]
      by_cases h2 : i < 256
      · rw [if_pos (by omega), if_pos (by omega)]
      · rw [if_neg (by omega), if_neg (by omega)]
theorem usedTo_low (k n : Nat) : (usedTo k).getD n 0 ≤ 1 := by
  unfold usedTo
  rw [List.getD_eq_getElem?_getD]
  by_cases h : n < k
  · rw [List.getElem?_append_left (by rw [List.length_replicate]; exact h), List.getElem?_replicate, if_pos h]; exact Nat.le_refl _
  · rw [List.getElem?_append_right (by rw [List.length_replicate]; omega), List.getElem?_replicate]
    split
    · exact Nat.zero_le _
    · exact Nat.zero_le _
end Go.Proofs.YtknjjjenklfeoaaGreatDoor

/-
  The reference's Look, walked.
-/
namespace Go.Proofs.YtknjjjenklfeoaaGreatDoor
open Go.RowKit
attribute [local go_sem ↓] build_file
attribute [local go_sem] run_bFile
theorem Kept.toBelow {S : Nat → Prop} {n : Nat} {w W w' : World} (hk : Kept S W w') (hB : Below n w W) (hn : n ≤ W.heap.size) (hS : ∀ k, S k → n ≤ k) : Below n w w' :=
  ⟨hk.os.trans hB.os, hk.tape.trans hB.tape, hk.output.trans hB.output, Nat.le_trans hB.size hk.size, fun k hk' => (hk.block k (Nat.lt_of_lt_of_le hk' hn) (fun x => by have := hS k x; omega)).trans (hB.block k hk')⟩
theorem headGood_bounds {file : List Clus} (h : headGood file = true) : 6 ≤ file.length ∧ file.length ≤ 256 ∧ 7 ≤ num (cl file 0) 4 ∧ num (cl file 0) 4 ≤ 256 ∧ file.length ≤ num (cl file 0) 4 := by
  simp only [headGood, Bool.and_eq_true, decide_eq_true_eq] at h
  omega
/-- What holds of the record while all its trees are gone through. -/
structure Trees (W w' : World) (f : Nat) (Lv Rv : Value) (R R' : FileR) (k : Nat) : Prop where
  at' : FileAt w' f Lv Rv R'
  kept : Kept (fun k => k = f) W w'
  hL : R'.L = R.L
  hR : R'.roots = R.roots
  low : Low (1 + 2000 * k) R'
  inn : ∀ i, i < k → InFile R.L (rootOf R i).N

/-- The reader's record behind Look: in new memory. -/
structure Looked (w w' : World) (file : List Clus) (Lv Rv : Value) : Prop where
  at' : FileAt w' w.heap.size Lv Rv (look file)
  below : Below w.heap.size w w'
  fresh : ∀ g, Lv.ownBlock = some g → w.heap.size ≤ g

set_option maxHeartbeats 4000000 in
set_option maxRecDepth 100000 in
theorem look_any (w : World) (fv : Value) (file : List Clus) (hf : FRow w fv file) (hlen : file.length ≤ 1000) :
    Calls Tryz.prog 41 #[fv] w fun e w' =>
      e = .returned (.pointer (some ⟨w.heap.size, 0, none⟩)) ∧ ∃ Lv Rv, Looked w w' file Lv Rv := by
  have hF0 : FileAt (w.alloc (.cells (fileCells (.slice none 0 0) (.slice none 0 0) R0).toArray 93)) w.heap.size (.slice none 0 0) (.slice none 0 0) R0 :=
    ⟨heap_alloc_new _ _, World.ownsRow_nil _ _ _ _, World.ownsRow_nil _ _ _ _, by simp [R0, zeros256], by simp [R0, zeros256], by intro c hc; cases hc⟩
  have hB0 : Below w.heap.size w (w.alloc (.cells (fileCells (.slice none 0 0) (.slice none 0 0) R0).toArray 93)) := (Below.refl _ _).alloc (Nat.le_refl _) _
  have hfW : FRow (w.alloc (.cells (fileCells (.slice none 0 0) (.slice none 0 0) R0).toArray 93)) fv file := hf.kept (S := fun _ => False) ((Kept.refl _ _).alloc _) (fun _ _ => id)
  have hWs : (w.alloc (.cells (fileCells (.slice none 0 0) (.slice none 0 0) R0).toArray 93)).heap.size = w.heap.size + 1 := by simp
  have Hh := hide (head_any _ w.heap.size fv file R0 hF0 hfW hlen)
  have HB0 := hide hB0
  have HWs := hide hWs
  clear hF0 hB0 hfW hWs
  go_enter Tryz.func41, Tryz.ntmps41
  go_wp2_with fail
  generalize w.alloc (.cells (fileCells (.slice none 0 0) (.slice none 0 0) R0).toArray 93) = W at *
  refine (unhide Hh).mono ?_
  rintro e w1 (⟨hgood, rfl, hF1, hK1⟩ | ⟨hgood, rfl, ⟨Lv, Rv, hF1, hRv, hLv0⟩, hK1⟩)
  · have hl : look file = { R0 with bad := 0 } := by simp [look, hgood]
    have c1 := hF1.cBad
    have z1 := hF1.fz
    have Hb := hide (hF1.setBad 0)
    have HL := hide hl
    have HK := hide hK1
    clear hgood hF1 hK1 hl Hh
    go_wp2
    go_ret
    refine ⟨rfl, _, _, by rw [unhide HL]; exact unhide Hb, ?_, fun g hg => by cases hg⟩
    exact ((unhide HK).setCell (p := ⟨w.heap.size, 514, none⟩) (Or.inl rfl) (.int .i64 0)).toBelow (unhide HB0) (by have := unhide HWs; omega) (fun k hk => by omega)
  · have HLv : Hid (∀ g, Lv.ownBlock = some g → w.heap.size ≤ g) := fun g hg => by have := hLv0 g hg; have := unhide HWs; omega
    clear hLv0
    have hbd := headGood_bounds hgood
    have hLlen : (R1of file).L.length = num (cl file 0) 4 := padTo_length _ _
    have HF1 : Hid (FileAt w1 w.heap.size Lv Rv (R1of file)) := hF1
    have HK1 := hide hK1
    have HRv := hide hRv
    have Hls := hide (list_any w1 w.heap.size Lv Rv (R1of file) hF1 (by rw [hLlen]; omega) rfl)
    have hlk : look file = if (listOf (R1of file)).1 = false then { R1of file with roots := (listOf (R1of file)).2, bad := 5 }
        else if (R3of file).1 = false then (R3of file).2
        else { (R3of file).2 with bad := marksFrom (R3of file).2 (R3of file).2.roots.length 0 (countsFrom (R3of file).2 256 0) } := by simp [look, hgood]
    have Hlk := hide hlk
    clear hF1 hK1 hRv hgood hlk Hh
    go_wp2_with fail
    refine (unhide Hls).mono ?_
    rintro e w2 ⟨rfl, Rv2, hF2, hK2, hRv2⟩
    have hB2 : Below w.heap.size w w2 := by
      refine hK2.toBelow ((unhide HK1).toBelow (unhide HB0) (by have := unhide HWs; omega) (fun k hk => by omega)) (by have := (unhide HK1).size; have := unhide HWs; omega) (fun k hk => ?_)
      rcases hk with x | x
      · omega
      · have := unhide HRv k x; have := unhide HWs; omega
    have HB2 := hide hB2
    clear hB2 hK2 hRv2 HK1 HRv HF1 Hls HB0
    cases hls : (listOf (R1of file)).1 with
    | false =>
      rw [hls, if_pos rfl] at Hlk
      have c1 := hF2.cBad
      have z1 := hF2.fz
      have Hb := hide (hF2.setBad 5)
      clear hls hF2
      go_wp2
      go_ret
      refine ⟨rfl, _, _, by rw [unhide Hlk]; exact unhide Hb, ?_, unhide HLv⟩
      exact (unhide HB2).setCell (p := ⟨w.heap.size, 514, none⟩) (Nat.le_refl _) _
    | true =>
      rw [hls, if_neg (by decide)] at Hlk
      clear hls
      have HF2 : Hid (FileAt w2 w.heap.size Lv Rv2 { R1of file with roots := (listOf (R1of file)).2, used := usedTo 0 }) := hF2
      clear hF2
      go_wp2
      go_loopw [5] (fun i w' => ∃ k : Nat, k ≤ 6 ∧ i = .int .i64 k ∧ FileAt w' w.heap.size Lv Rv2 { R1of file with roots := (listOf (R1of file)).2, used := usedTo k } ∧ Below w.heap.size w w') (fun i _ => 6 - (intOf i).toNat)
      case atStart => exact ⟨0, by omega, rfl, unhide HF2, unhide HB2⟩
      case round =>
        obtain ⟨k, hk, rfl, hF, hB⟩ := hrel
        clear HF2 HB2
        by_cases hlt : k < 6
        · have cu := hF.cUsed k (by omega)
          have zu := hF.fz
          have Hs := hide (hF.setUsed k 1 (by omega))
          have HB := hide hB
          clear hF hB
          go_wp2
          go_roundw
          case rel =>
            refine ⟨k + 1, by omega, by go_num, ?_, (unhide HB).setCell (p := ⟨w.heap.size, 258 + k, none⟩) (Nat.le_refl _) _⟩
            rw [← usedTo_succ k hlt]
            exact unhide Hs
          case measure => simp [intOf]; omega
        · have hk6 : k = 6 := by omega
          subst hk6
          have HF : Hid (FileAt wr w.heap.size Lv Rv2 (R2of file)) := hF
          have HB := hide hB
          clear hF hB
          have hr2 := R2_roots file
          have c1 := (unhide HF).cRv
          obtain ⟨a2, cap2, hRv2⟩ := row_form (unhide HF).rowR
          have hLL : (R2of file).L.length ≤ 256 := by show (R1of file).L.length ≤ 256; rw [hLlen]; omega
          have hL5 : 5 ≤ (R2of file).L.length := by show 5 ≤ (R1of file).L.length; rw [hLlen]; omega
          have hT3 : R3of file = treesFrom (R2of file).roots.length 0 (R2of file) := rfl
          have hlow2 : Low 1 (R2of file) := fun n => usedTo_low 6 n
          have HT3 := hide hT3
          have Hr2 := hide hr2
          have Hlow2 := hide hlow2
          clear hT3 hlow2
          generalize R2of file = R2 at *
          subst hRv2
          have hrl5 := hr2.2.2
          clear hr2
          have HTr : Hid (Trees wr wr w.heap.size Lv (.slice a2 R2.roots.length cap2) R2 R2 0) := ⟨unhide HF, Kept.refl _ _, rfl, rfl, unhide Hlow2, fun i hi => by omega⟩
          clear HF Hlow2 c1
          have HB3 := HB
          clear HB
          go_wp2
          generalize Value.int .i64 ((6 : Nat) : Int) = s5
          generalize wr = W3 at *
          go_loopw [6] (fun i w' => ∃ (k : Nat) (R' : FileR), k ≤ R2.roots.length ∧ i = .int .i64 k ∧ Trees W3 w' w.heap.size Lv (.slice a2 R2.roots.length cap2) R2 R' k ∧ R3of file = treesFrom (R2.roots.length - k) k R') (fun i _ => R2.roots.length - (intOf i).toNat)
          case atStart => exact ⟨0, R2, by omega, rfl, unhide HTr, unhide HT3⟩
          case round =>
            obtain ⟨k, R', hk, rfl, ht, he⟩ := hrel
            have He := hide he
            clear he HTr HT3
            have c1 := ht.at'.cRv
            by_cases hlt2 : k < R2.roots.length
            · have hrow := ht.at'.rowR
              rw [ht.hR] at hrow
              obtain ⟨g2, cap3, e2, _⟩ := row_some hrow (by omega)
              obtain ⟨rfl, rfl⟩ : a2 = some ⟨g2, 0, none⟩ ∧ cap2 = cap3 := by injection e2 with x1 x2 x3; exact ⟨x1, x3⟩
              have r0 := root_cell hrow k hlt2 0 (by omega)
              have r1 := root_cell hrow k hlt2 1 (by omega)
              have r2 := root_cell hrow k hlt2 2 (by omega)
              have hro : rootOf R' k = rootOf R2 k := by unfold rootOf; rw [ht.hR]
              rw [show R2.roots.getD k ⟨0, 0, []⟩ = rootOf R2 k from rfl] at r0 r1 r2
              simp only [rootCells, List.getElem?_cons_zero, List.getElem?_cons_succ, Nat.add_zero] at r0 r1 r2
              have hkb := (unhide Hr2).1 _ (rootOf_mem hlt2)
              have Htr := hide (tree_any wr w.heap.size Lv _ R' (rootOf R2 k) ht.at' (by rw [ht.hL]; exact hLL) hkb.1 hkb.2 (1 + 2000 * k) (by omega) ht.low)
              have hki : (k : Int) < (R2.roots.length : Int) := by omega
              have hst : R3of file = if (tree R' (rootOf R2 k)).1 then treesFrom (R2.roots.length - (k + 1)) (k + 1) (tree R' (rootOf R2 k)).2 else (false, (tree R' (rootOf R2 k)).2) := by
                rw [unhide He, show R2.roots.length - k = (R2.roots.length - (k + 1)) + 1 by omega, treesFrom, hro]
              have Hst := hide hst
              have HT := hide ht
              clear hst ht He hrow e2 hro hkb
              have hinf := fun h => tree_inFile (R := R') (r := rootOf R2 k) h
              rw [(unhide HT).hL] at hinf
              have Hinf := hide hinf
              clear hinf
              unfold rootCells at Htr
              go_wp2_with fail
              refine (unhide Htr).mono ?_
              rintro e w4 ⟨rfl, hg4⟩
              clear Htr r0 r1 r2 c1
              cases htt : (tree R' (rootOf R2 k)).1 with
              | false =>
                rw [htt] at Hst
                have hx : R3of file = (false, (tree R' (rootOf R2 k)).2) := unhide Hst
                rw [show (R3of file).1 = false by rw [hx], if_pos rfl, show (R3of file).2 = (tree R' (rootOf R2 k)).2 by rw [hx]] at Hlk
                have Hg4 := hide hg4
                clear htt Hst hx hg4
                go_wp2
                go_ret
                refine ⟨rfl, _, _, by rw [unhide Hlk]; exact (unhide Hg4).at', ?_, unhide HLv⟩
                exact ((unhide HT).kept.trans (unhide Hg4).kept).toBelow (unhide HB3) (unhide HB3).size (fun k hk => by omega)
              | true =>
                rw [htt] at Hst
                have hi := unhide Hinf htt
                have hx : R3of file = treesFrom (R2.roots.length - (k + 1)) (k + 1) (tree R' (rootOf R2 k)).2 := unhide Hst
                have HX := hide hx
                have HI := hide hi
                have Hg4 := hide hg4
                clear htt Hst hx hg4 hi Hinf
                go_wp2
                go_roundw
                case rel =>
                  refine ⟨k + 1, (tree R' (rootOf R2 k)).2, by omega, by go_num, ⟨(unhide Hg4).at', (unhide HT).kept.trans (unhide Hg4).kept, (unhide Hg4).hL.trans (unhide HT).hL, (unhide Hg4).hR.trans (unhide HT).hR, (unhide Hg4).low.mono (by omega), fun i hi => ?_⟩, unhide HX⟩
                  by_cases hik : i = k
                  · subst hik; exact unhide HI
                  · exact (unhide HT).inn i (by omega)
                case measure => simp [intOf]; omega
            · have hkr : k = R2.roots.length := by omega
              have hx : R3of file = (true, R') := by rw [unhide He, hkr, Nat.sub_self]; rfl
              rw [show (R3of file).1 = true by rw [hx], if_neg (by decide), show (R3of file).2 = R' by rw [hx]] at Hlk
              have hlow' : Low 100000 R' := ht.low.mono (by omega)
              have hL' : R'.L.length ≤ 256 := by rw [ht.hL]; exact hLL
              have hL5' : 5 ≤ R'.L.length := by rw [ht.hL]; exact hL5
              have hinn : ∀ i, i < R'.roots.length → InFile R'.L (rootOf R' i).N := by
                intro i hi
                rw [ht.hR] at hi
                rw [show rootOf R' i = rootOf R2 i by unfold rootOf; rw [ht.hR], ht.hL]
                exact ht.inn i (by omega)
              have Hinn := hide hinn
              have hBw : Below w.heap.size w wr := ht.kept.toBelow (unhide HB3) (unhide HB3).size (fun k hk => by omega)
              have Hc := hide (counts_any wr w.heap.size Lv _ R' ht.at' hL5' (hlow'.mono (by omega)))
              have hRl : R'.roots.length = R2.roots.length := by rw [ht.hR]
              have HF := hide ht.at'
              have HBw := hide hBw
              have cb := ht.at'.cBad
              have zb := ht.at'.fz
              clear ht hx He hinn hBw
              go_wp2_with fail
              refine (unhide Hc).mono ?_
              rintro e w4 ⟨rfl, rfl⟩
              have HFc := hide ((unhide HF).setBad (countsFrom R' 256 0))
              have HBc := hide ((unhide HBw).setCell (p := ⟨w.heap.size, 514, none⟩) (Nat.le_refl _) (.int .i64 (countsFrom R' 256 0)))
              generalize hcc : countsFrom R' 256 0 = cc at *
              have Hcc := hide hcc
              clear Hc hcc
              go_wp2
              generalize Value.int .i64 (k : Int) = s6
              have hcl : marksFrom R' R'.roots.length 0 cc = marksFrom R' R2.roots.length 0 cc := by rw [hRl]
              rw [hcl] at Hlk
              generalize hM : marksFrom R' R2.roots.length 0 cc = M at Hlk
              have HM := hide hM
              clear hM hcl cb HF
              go_loopw [7] (fun i w' => ∃ (m : Nat) (b : Int), m ≤ R2.roots.length ∧ i = .int .i64 m ∧ FileAt w' w.heap.size Lv (.slice a2 R2.roots.length cap2) { R' with bad := b } ∧ Below w.heap.size w w' ∧ marksFrom R' (R2.roots.length - m) m b = M) (fun i _ => R2.roots.length - (intOf i).toNat)
              case atStart => exact ⟨0, cc, by omega, rfl, unhide HFc, unhide HBc, unhide HM⟩
              case round =>
                obtain ⟨m, b, hm, rfl, hF, hB, hz⟩ := hrel
                have Hz := hide hz
                clear hz HM HFc HBc
                have c1 := hF.cRv
                have cb := hF.cBad
                have zb := hF.fz
                by_cases hlt3 : m < R2.roots.length
                · have hz2 : (if b < 0 then marksFrom R' (R2.roots.length - (m + 1)) (m + 1) (marked R' (rootOf R' m)).1 else b) = M := by
                    rw [← unhide Hz, show R2.roots.length - m = (R2.roots.length - (m + 1)) + 1 by omega, marksFrom]
                  have Hz2 := hide hz2
                  clear hz2 Hz
                  by_cases hb0 : b < 0
                  · rw [if_pos hb0] at Hz2
                    have hrow := hF.rowR
                    rw [show ({ R' with bad := b } : FileR).roots = R'.roots from rfl] at hrow
                    have hrow2 : wr.ownsRow 0 132 3 (.slice a2 R'.roots.length cap2) R'.roots.length (R'.roots.flatMap rootCells) := by rw [hRl] at *; exact hrow
                    obtain ⟨g2, cap3, e2, _⟩ := row_some hrow2 (by omega)
                    obtain ⟨rfl, rfl⟩ : a2 = some ⟨g2, 0, none⟩ ∧ cap2 = cap3 := by injection e2 with x1 x2 x3; exact ⟨x1, x3⟩
                    have r0 := root_cell hrow2 m (by omega) 0 (by omega)
                    have r1 := root_cell hrow2 m (by omega) 1 (by omega)
                    have r2 := root_cell hrow2 m (by omega) 2 (by omega)
                    rw [show R'.roots.getD m ⟨0, 0, []⟩ = rootOf R' m from rfl] at r0 r1 r2
                    simp only [rootCells, List.getElem?_cons_zero, List.getElem?_cons_succ, Nat.add_zero] at r0 r1 r2
                    have Hmk := hide (marked_any wr w.heap.size Lv _ { R' with bad := b } (rootOf R' m) hF hL' hL5' (unhide Hinn m (by omega)) (hlow'.mono (by omega)))
                    rw [marked_bad] at Hmk
                    have hmi : (m : Int) < (R2.roots.length : Int) := by omega
                    have HF := hide hF
                    have HB := hide hB
                    clear hF hB hrow hrow2 e2
                    unfold rootCells at Hmk
                    go_wp2_with fail
                    refine (unhide Hmk).mono ?_
                    rintro e w5 ⟨rfl, hb5⟩
                    have hF5 := (unhide HF).below hb5
                    have cb5 := hF5.cBad
                    have zb5 := hF5.fz
                    have HF5 := hide (hF5.setBad (marked R' (rootOf R' m)).1)
                    have HB5 := hide (((unhide HB).trans (hb5.mono (unhide HB).size)).setCell (p := ⟨w.heap.size, 514, none⟩) (Nat.le_refl _) (.int .i64 (marked R' (rootOf R' m)).1))
                    clear Hmk hb5 hF5 HF HB r0 r1 r2 c1 cb zb
                    generalize (marked R' (rootOf R' m)).1 = b5 at *
                    generalize (marked R' (rootOf R' m)).2 = q5 at *
                    go_wp2
                    go_roundw
                    case rel => exact ⟨m + 1, b5, by omega, by go_num, unhide HF5, unhide HB5, unhide Hz2⟩
                    case measure => simp [intOf]; omega
                  · rw [if_neg hb0] at Hz2
                    have db : decide (b < 0) = false := by simpa using hb0
                    have HF := hide hF
                    have HB := hide hB
                    clear hF hB
                    go_wp2
                    go_ret
                    exact ⟨rfl, Lv, _, by rw [unhide Hlk, ← unhide Hz2]; exact unhide HF, unhide HB, unhide HLv⟩
                · have hmn : m = R2.roots.length := by omega
                  have hz2 : b = M := by rw [← unhide Hz, hmn, Nat.sub_self]; rfl
                  have Hz2 := hide hz2
                  have HF := hide hF
                  have HB := hide hB
                  clear hF hB hz2 Hz hmn
                  go_wp2
                  go_ret
                  exact ⟨rfl, Lv, _, by rw [unhide Hlk, ← unhide Hz2]; exact unhide HF, unhide HB, unhide HLv⟩
end Go.Proofs.YtknjjjenklfeoaaGreatDoor

/-
  The reference's disk as a record: 64 clusters and the list of pictures.
-/
namespace Go.Proofs.YtknjjjenklfeoaaGreatDoor
open Go.RowKit

structure PicR where
  name : List UInt8
  C : List Clus
structure DiskR where
  C : List Clus
  L : List PicR
def picCells (p : PicR) : List Value := .string (txt p.name) :: flatC p.C
def diskCells (D : DiskR) (Pv : Value) : List Value := flatC D.C ++ [Pv]
structure Cont (C : List Clus) : Prop where
  all : All64 C
  len : C.length = 64
theorem Cont.flat {C : List Clus} (h : Cont C) : (flatC C).length = 4096 := by rw [flatC_length C h.all, h.len]

/-- The reference's disk lies in block d. -/
structure DiskAt (w : World) (d : Nat) (Pv : Value) (D : DiskR) : Prop where
  blk : w.heap[d]? = some (.cells (diskCells D Pv).toArray 70 (0, 0))
  row : w.ownsRow 0 139 4097 Pv D.L.length (D.L.flatMap picCells)
  cont : Cont D.C
  pics : ∀ p ∈ D.L, Cont p.C
theorem DiskAt.lt {w : World} {d : Nat} {Pv : Value} {D : DiskR} (h : DiskAt w d Pv D) : d < w.heap.size := blk_lt h.blk
theorem DiskAt.cPv {w : World} {d : Nat} {Pv : Value} {D : DiskR} (h : DiskAt w d Pv D) : w.cell? ⟨d, 4096, none⟩ = some Pv := by
  rw [cell_blk h.blk, List.getElem?_toArray, diskCells, List.getElem?_append_right (by rw [h.cont.flat]; omega), h.cont.flat]; rfl
theorem DiskAt.range {w : World} {d : Nat} {Pv : Value} {D : DiskR} (h : DiskAt w d Pv D) : w.rangeAt d 0 (flatC D.C) := fun j v hv => by
  have hj := (List.getElem?_eq_some_iff.1 hv).1
  rw [Nat.zero_add, cell_blk h.blk, List.getElem?_toArray, diskCells, List.getElem?_append_left hj]; exact hv
theorem DiskAt.has {w : World} {d : Nat} {Pv : Value} {D : DiskR} (h : DiskAt w d Pv D) : HasAt w d 0 4096 := hasAt_of_range h.range h.cont.flat
theorem DiskAt.cells {w : World} {d : Nat} {Pv : Value} {D : DiskR} (h : DiskAt w d Pv D) : cellsAt w d 0 4096 = flatC D.C := cellsAt_of_range h.range h.cont.flat
theorem DiskAt.neP {w : World} {d : Nat} {Pv : Value} {D : DiskR} (h : DiskAt w d Pv D) : ∀ g, Pv.ownBlock = some g → g ≠ d := row_ne h.row h.blk (by decide)
theorem DiskAt.kept {w w' : World} {d : Nat} {Pv : Value} {D : DiskR} {S : Nat → Prop} (h : DiskAt w d Pv D) (hk : Kept S w w') (hd : ¬ S d) (hP : ∀ g, Pv.ownBlock = some g → ¬ S g) : DiskAt w' d Pv D :=
  ⟨hk.blk hd h.blk, ownsRow_kept hk h.row hP, h.cont, h.pics⟩
theorem DiskAt.below {w w' : World} {d : Nat} {Pv : Value} {D : DiskR} (h : DiskAt w d Pv D) (hb : Below w.heap.size w w') : DiskAt w' d Pv D :=
  h.kept (S := fun _ => False) (Kept.of_below hb) id (fun _ _ => id)
theorem DiskAt.drewN {w : World} {d : Nat} {Pv : Value} {D : DiskR} (h : DiskAt w d Pv D) (n : Nat) : DiskAt (w.drewN n) d Pv D :=
  h.kept (S := fun _ => False) ((Kept.refl _ _).drewN n) id (fun _ _ => id)

def bDisk (parts : Array (Nat × Value)) : Sem Value := Instr.build 70 parts
theorem build_disk (parts : Array (Nat × Value)) : Instr.build 70 parts = bDisk parts := rfl
theorem run_bDisk {w : World} {C : List Clus} (hC : All64 C) (hl : C.length = 64) : (bDisk #[(0, .agg (flatC C).toArray)]).run Tryz.prog w = .ok (.agg (diskCells ⟨C, []⟩ (.slice none 0 0)).toArray) w := by
  have hz := (zero_of_info (P := Tryz.prog) (t := 70) (v := .agg (diskCells ⟨zD, []⟩ (.slice none 0 0)).toArray) (n := 4097) (by kernel_rfl)).1
  have hfl := (Cont.mk hC hl).flat
  have hzl := (Cont.mk (C := zD) zD_all zD_length).flat
  have hf : Instr.fill (fun x => (#[(0, 4096), (4096, 1)] : Array (Nat × Nat))[x]?) (flatC zD ++ [Value.slice none 0 0]).toArray [(0, Value.agg (flatC C).toArray)] = some (diskCells ⟨C, []⟩ (.slice none 0 0)).toArray := by
    rw [fill_one _ _ 0 0 4096 (.agg (flatC C).toArray) [] (by rfl) (by simp [Value.cells, hfl]) (by simp [hzl]), Instr.fill, show (Value.agg (flatC C).toArray).cells.toList = flatC C from rfl,
      setList_front (flatC zD) [Value.slice none 0 0] (flatC C) (by rw [hzl, hfl])]
    rfl
  exact run_build_struct w 70 _ (.agg (diskCells ⟨zD, []⟩ (.slice none 0 0)).toArray) #[(0, 4096), (4096, 1)] #[(0, .agg (flatC C).toArray)] _ Tryz.underlying70 hz (fun w => by kernel_rfl) hf
def bPic (parts : Array (Nat × Value)) : Sem Value := Instr.build 139 parts
theorem build_pic (parts : Array (Nat × Value)) : Instr.build 139 parts = bPic parts := rfl
theorem run_bPic {w : World} {nm : List UInt8} {C : List Clus} (hC : All64 C) (hl : C.length = 64) : (bPic #[(0, .string (txt nm)), (1, .agg (flatC C).toArray)]).run Tryz.prog w = .ok (.agg (picCells ⟨nm, C⟩).toArray) w := by
  have hz := (zero_of_info (P := Tryz.prog) (t := 139) (v := .agg (picCells ⟨[], zD⟩).toArray) (n := 4097) (by kernel_rfl)).1
  have hfl := (Cont.mk hC hl).flat
  have hzl := (Cont.mk (C := zD) zD_all zD_length).flat
  have hf : Instr.fill (fun x => (#[(0, 1), (1, 4096)] : Array (Nat × Nat))[x]?) ([Value.string (txt [])] ++ flatC zD).toArray [(0, Value.string (txt nm)), (1, Value.agg (flatC C).toArray)] = some (picCells ⟨nm, C⟩).toArray := by
    rw [fill_one _ _ 0 0 1 (.string (txt nm)) _ (by rfl) (by rfl) (by simp), show (Value.string (txt nm)).cells.toList = [Value.string (txt nm)] from rfl, setList_front [Value.string (txt [])] (flatC zD) [Value.string (txt nm)] rfl,
      fill_one _ _ 1 1 4096 (.agg (flatC C).toArray) [] (by rfl) (by simp [Value.cells, hfl]) (by simp [hzl]), Instr.fill, show (Value.agg (flatC C).toArray).cells.toList = flatC C from rfl]
    have := setList_back [Value.string (txt nm)] (flatC zD) (flatC C) (by rw [hzl, hfl])
    rw [show ([Value.string (txt nm)] : List Value).length = 1 from rfl] at this
    rw [this]
    rfl
  exact run_build_struct w 139 _ (.agg (picCells ⟨[], zD⟩).toArray) #[(0, 1), (1, 4096)] #[(0, .string (txt nm)), (1, .agg (flatC C).toArray)] _ Tryz.underlying139 hz (fun w => by kernel_rfl) hf

end Go.Proofs.YtknjjjenklfeoaaGreatDoor

/-
  Writes of the log in memory: read, laid into a block of their own.
-/
namespace Go.Proofs.YtknjjjenklfeoaaGreatDoor
open Go.RowKit

structure WrR where
  cl : Int
  data : Clus
def wrCells (x : WrR) : List Value := .int .i64 x.cl :: cv x.data
theorem wrCells_length {x : WrR} (h : x.data.length = 64) : (wrCells x).length = 65 := by simp [wrCells, cv_length, h]
theorem wrCells_one (x : WrR) : ∀ v ∈ wrCells x, v.oneCell' = true := by
  intro v hv
  rcases List.mem_cons.1 hv with h | h
  · rw [h]; rfl
  · exact cv_one _ v h
def flatW (l : List WrR) : List Value := l.flatMap wrCells
def wrAt (l : List WrR) (k : Nat) : WrR := l.getD k ⟨0, zc⟩
theorem flatW_length (l : List WrR) (hl : ∀ x ∈ l, x.data.length = 64) : (flatW l).length = l.length * 65 := by
  induction l with
  | nil => rfl
  | cons a r ih =>
    have h1 := wrCells_length (hl a (by simp))
    have h2 := ih (fun c hc => hl c (by simp [hc]))
    simp only [flatW, List.flatMap_cons, List.length_append, List.length_cons] at *
    omega
theorem flatW_range (l : List WrR) (hl : ∀ x ∈ l, x.data.length = 64) (k : Nat) (hk : k < l.length) (j : Nat) (hj : j < 65) : (flatW l)[k * 65 + j]? = (wrCells (wrAt l k))[j]? := by
  induction l generalizing k with
  | nil => simp at hk
  | cons a r ih =>
    have h1 := wrCells_length (hl a (by simp))
    cases k with
    | zero =>
      simp only [flatW, List.flatMap_cons, wrAt, List.getD_cons_zero, Nat.zero_mul, Nat.zero_add]
      rw [List.getElem?_append_left (by omega)]
    | succ k =>
      have h2 := ih (fun c hc => hl c (by simp [hc])) k (by simpa using hk)
      simp only [flatW, List.flatMap_cons, wrAt, List.getD_cons_succ] at *
      rw [List.getElem?_append_right (by omega), h1, ← h2]
      congr 1
      omega
theorem wrAt_mem {l : List WrR} {k : Nat} (hk : k < l.length) : wrAt l k ∈ l := by
  unfold wrAt
  rw [List.getD_eq_getElem?_getD, List.getElem?_eq_getElem hk]
  exact List.getElem_mem hk
/-- A log lies behind a slice. -/
structure LRow (w : World) (v : Value) (l : List WrR) : Prop where
  row : w.ownsRow 0 104 65 v l.length (flatW l)
  lens : ∀ x ∈ l, x.data.length = 64
theorem LRow.kept {w w' : World} {S : Nat → Prop} {v : Value} {l : List WrR} (h : LRow w v l) (hk : Kept S w w') (hs : ∀ g, v.ownBlock = some g → ¬ S g) : LRow w' v l := ⟨ownsRow_kept hk h.row hs, h.lens⟩
theorem LRow.range {w : World} {g cap : Nat} {l : List WrR} (h : LRow w (.slice (some ⟨g, 0, none⟩) l.length cap) l) (k : Nat) (hk : k < l.length) : w.rangeAt g (k * 65) (wrCells (wrAt l k)) := by
  intro j v hv
  have hj : j < 65 := by
    have := (List.getElem?_eq_some_iff.1 hv).1
    rw [wrCells_length (h.lens _ (wrAt_mem hk))] at this; exact this
  rw [h.row.cellAt (k * 65 + j) (by omega), flatW_range l h.lens k hk j hj]
  exact hv

def loadWr (a : Addr) : Sem Value := loadVar 104 a
theorem loadVar_wr (a : Addr) : loadVar 104 a = loadWr a := rfl
theorem run_loadWr {w : World} {b o : Nat} (h : HasAt w b o 65) : (loadWr ⟨b, o, none⟩).run Tryz.prog w = .ok (.agg (cellsAt w b o 65).toArray) w :=
  run_loadVar_has h 104 _ Tryz.underlying104 rfl (by kernel_rfl)
def storeWr (a : Addr) (v : Value) : Sem Unit := storeVar 104 a v
theorem storeVar_wr (a : Addr) (v : Value) : storeVar 104 a v = storeWr a v := rfl
def zeroWr : Sem Value := zeroValue 104
theorem zeroValue_wr : zeroValue 104 = zeroWr := rfl
theorem run_zeroWr (w : World) : zeroWr.run Tryz.prog w = .ok (.agg (wrCells ⟨0, zc⟩).toArray) w :=
  (zero_of_info (P := Tryz.prog) (t := 104) (v := .agg (wrCells ⟨0, zc⟩).toArray) (n := 65) (by kernel_rfl)).1 w
theorem run_storeWr_new {w : World} {z x : WrR} (hz : z.data.length = 64) (hx : x.data.length = 64) :
    (storeWr ⟨w.heap.size, 0, none⟩ (.agg (wrCells x).toArray)).run Tryz.prog (w.alloc (.cells (wrCells z).toArray 104)) = .ok () (w.alloc (.cells (wrCells x).toArray 104)) :=
  run_storeVar_new w 104 (wrCells z).toArray (wrCells x).toArray (by simp only [List.size_toArray, wrCells_length hx]; kernel_rfl) (by simp [wrCells_length hz, wrCells_length hx]) (all_oneCell_toArray (wrCells_one x))

end Go.Proofs.YtknjjjenklfeoaaGreatDoor

/-
  A cluster of a row is written over.
-/
namespace Go.Proofs.YtknjjjenklfeoaaGreatDoor
open Go.RowKit

theorem row_set {w : World} {base g cap : Nat} {L : List Clus} (h : w.ownsRow base 38 64 (.slice (some ⟨g, 0, none⟩) L.length cap) L.length (flatC L)) (hl : ∀ c ∈ L, c.length = 64) (k : Nat) (hk : k < L.length) (c : Clus) (hc : c.length = 64) :
    (w.setCells g (k * 64) (cv c)).ownsRow base 38 64 (.slice (some ⟨g, 0, none⟩) L.length cap) (L.set k c).length (flatC (L.set k c)) := by
  have hl' : ∀ x ∈ L.set k c, x.length = 64 := by
    intro x hx
    rcases List.mem_or_eq_of_mem_set hx with y | y
    · exact hl x y
    · rw [y]; exact hc
  refine ⟨flatC_length _ hl', ?_⟩
  rcases h.2 with ⟨e, _⟩ | ⟨g', cap', cur, e, hb, hh, hn, hm, hs, ht⟩
  · cases e
  · obtain ⟨rfl, rfl⟩ : g' = g ∧ cap' = cap := by injection e with x1 _ x3; injection x1 with x1; injection x1 with x1; exact ⟨x1.symm, x3.symm⟩
    refine Or.inr ⟨g', cap', setList cur (k * 64) (cv c), by simp, hb, heap_setCells_same _ _ _ _ _ _ _ hh, by simpa using hn, hm, by rw [setList_size]; exact hs, ?_⟩
    have hfl := flatC_length L hl
    have e2 := setList_flatC L hl k hk c hc
    refine List.ext_getElem? fun i => ?_
    rw [List.length_set]
    by_cases hi : i < L.length * 64
    · rw [List.getElem?_take, if_pos hi, Array.getElem?_toList, setList_get _ _ _ _ (by rw [cv_length, hc, hs]; have := Nat.mul_le_mul_right 64 hn; omega)]
      have e3 : (setList (flatC L).toArray (k * 64) (cv c))[i]? = (flatC (L.set k c)).toArray[i]? := by rw [e2]
      rw [setList_get _ _ _ _ (by rw [cv_length, hc]; simp; omega), List.getElem?_toArray, List.getElem?_toArray] at e3
      rw [← e3]
      have e4 : cur[i]? = (flatC L)[i]? := by rw [← ht, List.getElem?_take, if_pos hi, Array.getElem?_toList]
      rw [e4]
    · have hfl2 := flatC_length _ hl'
      rw [List.length_set] at hfl2
      rw [List.getElem?_eq_none (by rw [List.length_take]; omega), List.getElem?_eq_none (by omega)]
theorem row_there {w : World} {base g cap : Nat} {L : List Clus} (h : w.ownsRow base 38 64 (.slice (some ⟨g, 0, none⟩) L.length cap) L.length (flatC L)) (k : Nat) (hk : k < L.length) : w.there g (k * 64) 64 := by
  rcases h.2 with ⟨e, _⟩ | ⟨g', cap', cur, e, hb, hh, hn, hm, hs, ht⟩
  · cases e
  · obtain ⟨rfl, rfl⟩ : g' = g ∧ cap' = cap := by injection e with x1 _ x3; injection x1 with x1; injection x1 with x1; exact ⟨x1.symm, x3.symm⟩
    exact there_blk hh _ _ (by rw [hs]; have := Nat.mul_le_mul_right 64 hn; omega)

end Go.Proofs.YtknjjjenklfeoaaGreatDoor
