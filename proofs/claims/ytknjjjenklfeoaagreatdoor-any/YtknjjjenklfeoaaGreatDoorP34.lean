import Derived.Test.YtknjjjenklfeoaaGreatDoorP06
import Derived.Test.YtknjjjenklfeoaaGreatDoorP11
import Derived.Lib.ConvBytes
/-
  What may be wrong with a file: the errors that lie in variables, a Fault as a value; the roles that clusters are told in.
-/
namespace Go.Proofs.YtknjjjenklfeoaaGreatDoor
open Go.RowKit
attribute [local go_sem] Oper.semAt_some

/-- The package-level variables hold their errors, and errors' own type. -/
structure Glob (w : World) : Prop where
  err : ∀ g, g < 9 → ∃ t v, w.cell? ⟨g, 0, none⟩ = some (.iface t v)
  typ : w.cell? ⟨5, 0, none⟩ = some (.iface 246 (.agg #[.pointer (some ⟨10, 98, none⟩)]))
theorem Glob.size {w : World} (h : Glob w) : 9 ≤ w.heap.size := by
  obtain ⟨t, v, h8⟩ := h.err 8 (by omega)
  unfold World.cell? at h8
  rcases Nat.lt_or_ge 8 w.heap.size with x | x
  · omega
  · rw [Array.getElem?_eq_none (show w.heap.size ≤ (⟨8, 0, none⟩ : Addr).block from x)] at h8
    cases h8
theorem Glob.kept {w w' : World} {S : Nat → Prop} (h : Glob w) (hk : Kept S w w') (hs : ∀ k, k < 9 → ¬ S k) : Glob w' := by
  have h9 := h.size
  have key : ∀ g, g < 9 → w'.cell? ⟨g, 0, none⟩ = w.cell? ⟨g, 0, none⟩ := fun g hg => by
    unfold World.cell?
    rw [show w'.heap[(⟨g, 0, none⟩ : Addr).block]? = w.heap[(⟨g, 0, none⟩ : Addr).block]? from hk.block g (by omega) (hs g hg)]
  refine ⟨fun g hg => ?_, ?_⟩
  · rw [key g hg]; exact h.err g hg
  · rw [key 5 (by omega)]; exact h.typ
theorem Glob.below {w w' : World} (h : Glob w) (hb : Below w.heap.size w w') : Glob w' := h.kept (S := fun _ => False) (Kept.of_below hb) (fun _ _ => id)

/-- A fault as an error. -/
def faultV (c : Nat) (x : Value) : Value := .iface 157 (.agg #[.int .i64 (c : Nat), x])
def isIface (x : Value) : Prop := ∃ t v, x = .iface t v

def rv (M : List Nat) : List Value := M.map fun k => .int .u8 (k : Nat)
def roleCells (T : Nat) (M : List Nat) : List Value := .int .i64 (T : Nat) :: rv M
structure RolesAt (w : World) (b T : Nat) (M : List Nat) : Prop where
  blk : w.heap[b]? = some (.cells (roleCells T M).toArray 212 (0, 0))
  len : M.length = 256
theorem rv_get (M : List Nat) (i : Nat) (h : i < M.length) : (rv M)[i]? = some (.int .u8 ((M.getD i 0 : Nat) : Int)) := by
  unfold rv
  rw [List.getElem?_map, List.getElem?_eq_getElem h, List.getD_eq_getElem?_getD, List.getElem?_eq_getElem h]
  rfl
theorem RolesAt.c0 {w : World} {b T : Nat} {M : List Nat} (h : RolesAt w b T M) : w.cell? ⟨b, 0, none⟩ = some (.int .i64 (T : Nat)) := by rw [cell_blk h.blk]; rfl
theorem RolesAt.cell {w : World} {b T : Nat} {M : List Nat} (h : RolesAt w b T M) (n : Nat) (hn : n < 256) : w.cell? ⟨b, 1 + n, none⟩ = some (.int .u8 ((M.getD n 0 : Nat) : Int)) := by
  rw [cell_blk h.blk, List.getElem?_toArray, Nat.add_comm]
  show (rv M)[n]? = _
  exact rv_get M n (by rw [h.len]; exact hn)
theorem RolesAt.fz {w : World} {b T : Nat} {M : List Nat} (h : RolesAt w b T M) (i : Nat) : w.frozen? ⟨b, i, none⟩ = false := frozen_blk h.blk i
theorem RolesAt.kept {w w' : World} {b T : Nat} {M : List Nat} {S : Nat → Prop} (h : RolesAt w b T M) (hk : Kept S w w') (hs : ¬ S b) : RolesAt w' b T M := ⟨hk.blk hs h.blk, h.len⟩
theorem RolesAt.below {w w' : World} {b T : Nat} {M : List Nat} (h : RolesAt w b T M) (hb : Below w.heap.size w w') : RolesAt w' b T M := h.kept (S := fun _ => False) (Kept.of_below hb) id
theorem RolesAt.lt {w : World} {b T : Nat} {M : List Nat} (h : RolesAt w b T M) : b < w.heap.size := blk_lt h.blk
theorem RolesAt.put {w : World} {b T : Nat} {M : List Nat} (h : RolesAt w b T M) (n kind : Nat) : RolesAt (w.setCell ⟨b, 1 + n, none⟩ (.int .u8 (kind : Nat))) b T (M.set n kind) := by
  refine ⟨?_, by simp [h.len]⟩
  rw [heap_setCell_same _ _ _ _ _ _ _ h.blk, List.setIfInBounds_toArray]
  simp only [roleCells, rv, List.map_set, Nat.add_comm 1 n, List.set_cons_succ]
/-- May a number not be told as this? -/
def noTellM (M : List Nat) (T n kind : Nat) : Bool := decide (n < 6) || (decide (T ≤ n) || (M.getD n 0 != 0 && (M.getD n 0 != kind || kind == 1)))
set_option maxHeartbeats 1000000 in
set_option maxRecDepth 100000 in
theorem roles_no (w : World) (b T : Nat) (M : List Nat) (n kind : Nat) (h : RolesAt w b T M) (hG : Glob w) (hT : T ≤ 256) (hn : n < 65536) (hk : kind < 256) (hM : ∀ i, M.getD i 0 < 256) (hno : noTellM M T n kind = true) :
    Calls Tryz.prog 151 #[.pointer (some ⟨b, 0, none⟩), .int .i64 (n : Nat), .int .u8 (kind : Nat)] w fun e w' => (∃ x, isIface x ∧ e = .returned x) ∧ w' = w := by
  obtain ⟨t6, v6, g6⟩ := hG.err 6 (by omega)
  obtain ⟨t7, v7, g7⟩ := hG.err 7 (by omega)
  have c0 := h.c0
  have f0 := h.fz
  by_cases h6 : n < 6
  · have d6 : ((n : Nat) : Int) < 6 := by omega
    clear hno
    go_enter Tryz.func151, Tryz.ntmps151
    go_wp2
    go_ret
    exact ⟨⟨_, ⟨_, _, rfl⟩, rfl⟩, rfl⟩
  · have d6 : ¬ ((n : Nat) : Int) < 6 := by omega
    by_cases hTn : T ≤ n
    · have dT : ((T : Nat) : Int) ≤ ((n : Nat) : Int) := by omega
      clear hno
      go_enter Tryz.func151, Tryz.ntmps151
      go_wp2
      go_ret
      exact ⟨⟨_, ⟨_, _, rfl⟩, rfl⟩, rfl⟩
    · have hn256 : n < 256 := by omega
      have cn := h.cell n hn256
      have dT : ¬ ((T : Nat) : Int) ≤ ((n : Nat) : Int) := by omega
      unfold noTellM at hno
      rw [decide_eq_false h6, decide_eq_false hTn, Bool.false_or, Bool.false_or] at hno
      have hm := hM n
      generalize M.getD n 0 = m at *
      have hm0 : m ≠ 0 := by rintro rfl; cases hno
      have dm : (((m : Nat) : Int) != 0) = true := by rw [bne_iff_ne]; omega
      by_cases hmk : m = kind
      · subst hmk
        have h1 : m = 1 := by simpa [hm0] using hno
        subst h1
        clear hno
        go_enter Tryz.func151, Tryz.ntmps151
        go_wp2
        go_ret
        exact ⟨⟨_, ⟨_, _, rfl⟩, rfl⟩, rfl⟩
      · have dk : (((m : Nat) : Int) != ((kind : Nat) : Int)) = true := by rw [bne_iff_ne]; omega
        clear hno
        go_enter Tryz.func151, Tryz.ntmps151
        go_wp2
        go_ret
        exact ⟨⟨_, ⟨_, _, rfl⟩, rfl⟩, rfl⟩
set_option maxHeartbeats 1000000 in
set_option maxRecDepth 100000 in
theorem roles_yes (w : World) (b T : Nat) (M : List Nat) (n kind : Nat) (h : RolesAt w b T M) (hT : T ≤ 256) (hk : kind < 256) (hM : ∀ i, M.getD i 0 < 256) (hno : noTellM M T n kind = false) :
    Calls Tryz.prog 151 #[.pointer (some ⟨b, 0, none⟩), .int .i64 (n : Nat), .int .u8 (kind : Nat)] w fun e w' => e = .returned .nilIface ∧ w' = w.setCell ⟨b, 1 + n, none⟩ (.int .u8 (kind : Nat)) := by
  have c0 := h.c0
  have f0 := h.fz
  unfold noTellM at hno
  rw [Bool.or_eq_false_iff, Bool.or_eq_false_iff] at hno
  obtain ⟨h6, hTn, hno⟩ := hno
  have h6 := of_decide_eq_false h6
  have hTn := of_decide_eq_false hTn
  have hn256 : n < 256 := by omega
  have cn := h.cell n hn256
  have d6 : ¬ ((n : Nat) : Int) < 6 := by omega
  have dT : ¬ ((T : Nat) : Int) ≤ ((n : Nat) : Int) := by omega
  have dn : ((n : Nat) : Int) < 256 := by omega
  have hm := hM n
  generalize M.getD n 0 = m at *
  by_cases hm0 : m = 0
  · subst hm0
    clear hno
    go_enter Tryz.func151, Tryz.ntmps151
    go_wp2
    go_ret
    exact ⟨rfl, rfl⟩
  · have dm : (((m : Nat) : Int) != 0) = true := by rw [bne_iff_ne]; omega
    have e0 : (m != 0) = true := by simpa using hm0
    rw [e0, Bool.true_and, Bool.or_eq_false_iff] at hno
    have hmk : m = kind := by simpa using hno.1
    have h1 : ¬ kind = 1 := by simpa using hno.2
    subst hmk
    have d1 : (((m : Nat) : Int) == 1) = false := by rw [beq_eq_false_iff_ne]; omega
    clear hno
    go_enter Tryz.func151, Tryz.ntmps151
    go_wp2
    go_ret
    exact ⟨rfl, rfl⟩
end Go.Proofs.YtknjjjenklfeoaaGreatDoor

/-
  tellSpot: a place of a table, held against what was told ahead of it.
-/
namespace Go.Proofs.YtknjjjenklfeoaaGreatDoor
open Go.RowKit
attribute [local go_sem] Oper.semAt_some

def spotNo (M : List Nat) (T first t i x : Nat) : Bool := if t = first then (decide (2 ≤ i) || noTellM M T (x % 32768) 2) else noTellM M T (x % 32768) 3
def spotKind (first t : Nat) : Nat := if t = first then 2 else 3
set_option maxHeartbeats 1000000 in
set_option maxRecDepth 100000 in
theorem spot_no (w : World) (b T : Nat) (M : List Nat) (first t i x : Nat) (h : RolesAt w b T M) (hG : Glob w) (hT : T ≤ 256) (hx : x < 65536) (hM : ∀ i, M.getD i 0 < 256) (hno : spotNo M T first t i x = true) :
    Calls Tryz.prog 153 #[.pointer (some ⟨b, 0, none⟩), .agg #[.int .i64 (t : Nat), .int .i64 (i : Nat), .int .u16 (x : Nat)], .int .i64 (first : Nat)] w fun e w' => (∃ x, isIface x ∧ e = .returned x) ∧ Below w.heap.size w w' := by
  have hb : Below w.heap.size w (w.alloc (.cells #[.int .i64 (t : Nat), .int .i64 (i : Nat), .int .u16 (x : Nat)] 219)) := (Below.refl _ _).alloc (Nat.le_refl _) _
  have HB := hide hb
  have h1 : RolesAt (w.alloc (.cells #[.int .i64 (t : Nat), .int .i64 (i : Nat), .int .u16 (x : Nat)] 219)) b T M := h.below hb
  have hG1 := hG.below hb
  clear h hG
  obtain ⟨t8, v8, g8⟩ := hG1.err 8 (by omega)
  have Hc := hide (fun W => cluster_of x hx W)
  have hlt : x % 32768 < 65536 := by omega
  unfold spotNo at hno
  by_cases hf : t = first
  · rw [if_pos hf] at hno
    subst hf
    have df : (((t : Nat) : Int) != ((t : Nat) : Int)) = false := by rw [bne_eq_false_iff_eq]
    by_cases h2 : 2 ≤ i
    · have d2 : (2 : Int) ≤ ((i : Nat) : Int) := by omega
      clear hno Hc h1 hG1 hb
      go_enter Tryz.func153, Tryz.ntmps153
      go_wp2
      go_ret
      exact ⟨⟨_, ⟨_, _, rfl⟩, rfl⟩, unhide HB⟩
    · have d2 : ¬ (2 : Int) ≤ ((i : Nat) : Int) := by omega
      rw [decide_eq_false h2, Bool.false_or] at hno
      have Ht := hide (roles_no _ b T M (x % 32768) 2 h1 hG1 hT hlt (by omega) hM hno)
      clear hno h1 hG1 hb
      generalize x % 32768 = c at *
      go_enter Tryz.func153, Tryz.ntmps153
      go_wp2_with fail
      refine (unhide Hc _).mono ?_
      rintro e w1 ⟨rfl, rfl⟩
      go_wp2_with fail
      refine (unhide Ht).mono ?_
      rintro e w1 ⟨⟨y, hy, rfl⟩, rfl⟩
      go_wp2
      go_ret
      exact ⟨⟨_, hy, rfl⟩, unhide HB⟩
  · rw [if_neg hf] at hno
    have df : (((t : Nat) : Int) != ((first : Nat) : Int)) = true := by rw [bne_iff_ne]; omega
    have Ht := hide (roles_no _ b T M (x % 32768) 3 h1 hG1 hT hlt (by omega) hM hno)
    clear hno h1 hG1 hb
    generalize x % 32768 = c at *
    go_enter Tryz.func153, Tryz.ntmps153
    go_wp2_with fail
    refine (unhide Hc _).mono ?_
    rintro e w1 ⟨rfl, rfl⟩
    go_wp2_with fail
    refine (unhide Ht).mono ?_
    rintro e w1 ⟨⟨y, hy, rfl⟩, rfl⟩
    go_wp2
    go_ret
    exact ⟨⟨_, hy, rfl⟩, unhide HB⟩
set_option maxHeartbeats 1000000 in
set_option maxRecDepth 100000 in
theorem spot_yes (w : World) (b T : Nat) (M : List Nat) (first t i x : Nat) (h : RolesAt w b T M) (hT : T ≤ 256) (hx : x < 65536) (hM : ∀ i, M.getD i 0 < 256) (hno : spotNo M T first t i x = false) :
    Calls Tryz.prog 153 #[.pointer (some ⟨b, 0, none⟩), .agg #[.int .i64 (t : Nat), .int .i64 (i : Nat), .int .u16 (x : Nat)], .int .i64 (first : Nat)] w fun e w' => e = .returned .nilIface ∧ RolesAt w' b T (M.set (x % 32768) (spotKind first t)) ∧ Kept (fun k => k = b) w w' := by
  have hb : Below w.heap.size w (w.alloc (.cells #[.int .i64 (t : Nat), .int .i64 (i : Nat), .int .u16 (x : Nat)] 219)) := (Below.refl _ _).alloc (Nat.le_refl _) _
  have h1 : RolesAt (w.alloc (.cells #[.int .i64 (t : Nat), .int .i64 (i : Nat), .int .u16 (x : Nat)] 219)) b T M := h.below hb
  have HB := hide hb
  have H1 := hide h1
  clear h
  have Hc := hide (fun W => cluster_of x hx W)
  unfold spotNo at hno
  unfold spotKind
  by_cases hf : t = first
  · rw [if_pos hf] at hno ⊢
    subst hf
    have df : (((t : Nat) : Int) != ((t : Nat) : Int)) = false := by rw [bne_eq_false_iff_eq]
    rw [Bool.or_eq_false_iff] at hno
    have h2 := of_decide_eq_false hno.1
    have d2 : ¬ (2 : Int) ≤ ((i : Nat) : Int) := by omega
    have Ht := hide (roles_yes _ b T M (x % 32768) 2 h1 hT (by omega) hM hno.2)
    clear hno h1 hb
    generalize x % 32768 = c at *
    go_enter Tryz.func153, Tryz.ntmps153
    go_wp2_with fail
    refine (unhide Hc _).mono ?_
    rintro e w1 ⟨rfl, rfl⟩
    go_wp2_with fail
    refine (unhide Ht).mono ?_
    rintro e w1 ⟨rfl, rfl⟩
    go_wp2
    go_ret
    exact ⟨rfl, (unhide H1).put _ _, (Kept.of_below (unhide HB)).trans (Kept.only _ _ _ _)⟩
  · rw [if_neg hf] at hno ⊢
    have df : (((t : Nat) : Int) != ((first : Nat) : Int)) = true := by rw [bne_iff_ne]; omega
    have Ht := hide (roles_yes _ b T M (x % 32768) 3 h1 hT (by omega) hM hno)
    clear hno h1 hb
    generalize x % 32768 = c at *
    go_enter Tryz.func153, Tryz.ntmps153
    go_wp2_with fail
    refine (unhide Hc _).mono ?_
    rintro e w1 ⟨rfl, rfl⟩
    go_wp2_with fail
    refine (unhide Ht).mono ?_
    rintro e w1 ⟨rfl, rfl⟩
    go_wp2
    go_ret
    exact ⟨rfl, (unhide H1).put _ _, (Kept.of_below (unhide HB)).trans (Kept.only _ _ _ _)⟩
end Go.Proofs.YtknjjjenklfeoaaGreatDoor

/-
  checkHead: is the head as it must be?
-/
namespace Go.Proofs.YtknjjjenklfeoaaGreatDoor
open Go.RowKit
attribute [local go_sem ↓] loadVar_clus storeVar_clus zeroValue_clus loadVar_tab storeVar_tab zeroValue_tab loadVar_cnt storeVar_cnt zeroValue_cnt loadVar_head storeVar_head zeroValue_head build_head buildSlice_clus loadVar_wr storeVar_wr zeroValue_wr build_wr buildSlice_wr equalIn_clus
attribute [local go_sem] run_loadClus run_storeClus run_zeroClus run_storeClus_new run_loadClus_new zc_length run_loadTab run_storeTab run_zeroTab run_storeTab_new run_loadTab_new zt_length run_loadCnt run_storeCnt run_zeroCnt run_storeCnt_new run_loadCnt_new zk_length run_loadHead run_storeHead run_zeroHead run_storeHead_new run_bHead HasAt_drew cellsAt_drew HasAt_drewN cellsAt_drewN run_bsClus run_loadWr run_zeroWr run_storeWr run_storeWr_new run_bWr0 run_bsWr
attribute [local go_sem] Oper.semAt_some
def bFault (parts : Array (Nat × Value)) : Sem Value := Instr.build 157 parts

/-- The head is what the program would write, and the file is as long as it may be. -/
structure HeadP (file : List Clus) : Prop where
  six : 6 ≤ file.length
  same : headBytes (num (cl file 0) 4) (num (cl file 0) 6) = cl file 0
  seven : 7 ≤ num (cl file 0) 4
  most : num (cl file 0) 4 ≤ 256
  le : file.length ≤ num (cl file 0) 4
set_option maxHeartbeats 1000000 in
set_option maxRecDepth 100000 in
theorem checkHead_short (w : World) (fv : Value) (file : List Clus) (hf : FRow w fv file) (hG : Glob w) (h6 : file.length ≤ 5) :
    Calls Tryz.prog 90 #[fv] w fun e w' => (∃ x, isIface x ∧ e = .returned (faultV 0 x)) ∧ Below w.heap.size w w' := by
  obtain ⟨t0, v0, g0⟩ := hG.err 0 (by omega)
  obtain ⟨a, cap, rfl⟩ := row_form hf.row
  have d6 : ((file.length : Nat) : Int) ≤ 5 := by omega
  go_enter Tryz.func90, Tryz.ntmps90
  go_wp2
  go_ret
  exact ⟨⟨_, ⟨_, _, rfl⟩, rfl⟩, Below.refl _ _⟩
set_option maxHeartbeats 2000000 in
set_option maxRecDepth 100000 in
theorem checkHead_form (w : World) (fv : Value) (file : List Clus) (hf : FRow w fv file) (hG : Glob w) (h6 : 6 ≤ file.length) (hm : file.length ≤ 1000000)
    (hne : headBytes (num (cl file 0) 4) (num (cl file 0) 6) ≠ cl file 0) :
    Calls Tryz.prog 90 #[fv] w fun e w' => (∃ x, isIface x ∧ e = .returned (faultV 0 x)) ∧ Below w.heap.size w w' := by
  have d6 : ¬ ((file.length : Nat) : Int) ≤ 5 := by omega
  have hlen0 := cl_length hf.lens (k := 0) (by omega)
  have Hh : Hid (∀ W, _) := fun W => headOf_any W (cl file 0) hlen0
  have hx4 := num_lt (cl file 0) 4
  have hx6 := num_lt (cl file 0) 6
  obtain ⟨g, cap, rfl, hcap⟩ := row_some hf.row (by omega)
  have l1 := row_has hf.row hf.lens 0 (by omega)
  have l2 := row_cells hf.row hf.lens 0 (by omega)
  simp only [Nat.zero_mul] at l1 l2
  have hli : (0 : Int) < (file.length : Int) := by omega
  have HF := hide hf
  have HL := hide (fun W (hb : Below w.heap.size w W) => (⟨row_has (hf.kept (S := fun _ => False) (Kept.of_below hb) (fun _ _ => id)).row hf.lens 0 (by omega), row_cells (hf.kept (S := fun _ => False) (Kept.of_below hb) (fun _ _ => id)).row hf.lens 0 (by omega)⟩ : _ ∧ _))
  simp only [Nat.zero_mul] at HL
  have HG := hide hG
  clear hf hG
  generalize cl file 0 = c at *
  generalize num c 4 = T at *
  generalize num c 6 = N at *
  have Hq := hide hne
  clear hne
  have hbl : (headBytes T N).length = 64 := headBytes_length T N
  go_enter Tryz.func90, Tryz.ntmps90
  go_wp2_with fail
  refine (unhide Hh _).mono ?_
  rintro e w1 ⟨rfl, hb1⟩
  have HB1 := hide (hb1.alloc hb1.size (.cells (hv T N).toArray 128))
  have HX := hide (heap_alloc_new w1 (.cells (hv T N).toArray 128))
  clear hb1 l1 l2 Hh
  go_wp2_with fail
  generalize hW2 : w1.alloc (.cells (hv T N).toArray 128) = w2 at *
  clear hW2
  have hx0 : ∀ d os, (Go.Sort.grow (redrawn w2 d) os).heap[w1.heap.size]? = some (.cells (hv T N).toArray 128 (0, 0)) := fun d os => ((below_regrown w2 d os).block _ (blk_lt (unhide HX))).trans (unhide HX)
  have k1 : ∀ d os, HasAt (Go.Sort.grow (redrawn w2 d) os) w1.heap.size 0 2 := fun d os => blk_has (hx0 d os) (hv_length _ _)
  have k2 : ∀ d os, cellsAt (Go.Sort.grow (redrawn w2 d) os) w1.heap.size 0 2 = hv T N := fun d os => blk_cells (hx0 d os) (hv_length _ _)
  have k3 : ∀ d os, (Go.Sort.grow (redrawn w2 d) os).cell? ⟨w1.heap.size, 0, none⟩ = some (.int .i64 (T : Nat)) := fun d os => by rw [cell_blk (hx0 d os)]; rfl
  have l1 : ∀ d os, HasAt (Go.Sort.grow (redrawn w2 d) os) g 0 64 := fun d os => (unhide HL _ ((unhide HB1).trans ((below_regrown w2 d os).mono (unhide HB1).size))).1
  have l2 : ∀ d os, cellsAt (Go.Sort.grow (redrawn w2 d) os) g 0 64 = cv c := fun d os => (unhide HL _ ((unhide HB1).trans ((below_regrown w2 d os).mono (unhide HB1).size))).2
  have Hn := hide (fun d os => headCluster_any (Go.Sort.grow (redrawn w2 d) os) T N hx4 hx6)
  have he : ∀ w, (eqClus (.agg (cv (headBytes T N)).toArray) (.agg (cv c).toArray)).run Tryz.prog w = .ok false w := fun w => by rw [run_eqClus hbl hlen0, decide_eq_false (unhide Hq)]
  clear hx0
  generalize headBytes T N = hb at *
  refine wp_region_quiet_below (by kernel_rfl) (by kernel_rfl) ?_
  repeat (go_big_quiet_step (exact Calls.regrown_of (unhide Hn _ _)))
  refine wpQuiet_nil ?_
  intro _ hw'
  obtain ⟨⟨dq, osq⟩, hw''⟩ := hw'
  subst hw''
  have HBq := hide ((unhide HB1).trans ((below_regrown w2 dq osq).mono (unhide HB1).size))
  have k4 := k3 dq osq
  obtain ⟨t0, v0, g0⟩ := ((unhide HG).below (unhide HBq)).err 0 (by omega)
  obtain ⟨t1, v1, g1⟩ := ((unhide HG).below (unhide HBq)).err 1 (by omega)
  clear l1 l2 k1 k2 k3 Hn he
  go_wp2
  go_ret
  exact ⟨⟨_, ⟨_, _, rfl⟩, rfl⟩, unhide HBq⟩
set_option maxHeartbeats 2000000 in
set_option maxRecDepth 100000 in
theorem checkHead_low (w : World) (fv : Value) (file : List Clus) (hf : FRow w fv file) (hG : Glob w) (h6 : 6 ≤ file.length) (hm : file.length ≤ 1000000)
    (hsame : headBytes (num (cl file 0) 4) (num (cl file 0) 6) = cl file 0) (hlow : num (cl file 0) 4 ≤ 6) :
    Calls Tryz.prog 90 #[fv] w fun e w' => (∃ x, isIface x ∧ e = .returned (faultV 0 x)) ∧ Below w.heap.size w w' := by
  have d6 : ¬ ((file.length : Nat) : Int) ≤ 5 := by omega
  have hlen0 := cl_length hf.lens (k := 0) (by omega)
  have Hh : Hid (∀ W, _) := fun W => headOf_any W (cl file 0) hlen0
  have hx4 := num_lt (cl file 0) 4
  have hx6 := num_lt (cl file 0) 6
  obtain ⟨g, cap, rfl, hcap⟩ := row_some hf.row (by omega)
  have l1 := row_has hf.row hf.lens 0 (by omega)
  have l2 := row_cells hf.row hf.lens 0 (by omega)
  simp only [Nat.zero_mul] at l1 l2
  have hli : (0 : Int) < (file.length : Int) := by omega
  have HF := hide hf
  have HL := hide (fun W (hb : Below w.heap.size w W) => (⟨row_has (hf.kept (S := fun _ => False) (Kept.of_below hb) (fun _ _ => id)).row hf.lens 0 (by omega), row_cells (hf.kept (S := fun _ => False) (Kept.of_below hb) (fun _ _ => id)).row hf.lens 0 (by omega)⟩ : _ ∧ _))
  simp only [Nat.zero_mul] at HL
  have HG := hide hG
  clear hf hG
  generalize cl file 0 = c at *
  generalize num c 4 = T at *
  generalize num c 6 = N at *
  have dl : decide (((T : Nat) : Int) ≤ 6) = true := decide_eq_true (by omega)
  have Hq := hide hsame
  clear hsame
  have hbl : (headBytes T N).length = 64 := headBytes_length T N
  go_enter Tryz.func90, Tryz.ntmps90
  go_wp2_with fail
  refine (unhide Hh _).mono ?_
  rintro e w1 ⟨rfl, hb1⟩
  have HB1 := hide (hb1.alloc hb1.size (.cells (hv T N).toArray 128))
  have HX := hide (heap_alloc_new w1 (.cells (hv T N).toArray 128))
  clear hb1 l1 l2 Hh
  go_wp2_with fail
  generalize hW2 : w1.alloc (.cells (hv T N).toArray 128) = w2 at *
  clear hW2
  have hx0 : ∀ d os, (Go.Sort.grow (redrawn w2 d) os).heap[w1.heap.size]? = some (.cells (hv T N).toArray 128 (0, 0)) := fun d os => ((below_regrown w2 d os).block _ (blk_lt (unhide HX))).trans (unhide HX)
  have k1 : ∀ d os, HasAt (Go.Sort.grow (redrawn w2 d) os) w1.heap.size 0 2 := fun d os => blk_has (hx0 d os) (hv_length _ _)
  have k2 : ∀ d os, cellsAt (Go.Sort.grow (redrawn w2 d) os) w1.heap.size 0 2 = hv T N := fun d os => blk_cells (hx0 d os) (hv_length _ _)
  have k3 : ∀ d os, (Go.Sort.grow (redrawn w2 d) os).cell? ⟨w1.heap.size, 0, none⟩ = some (.int .i64 (T : Nat)) := fun d os => by rw [cell_blk (hx0 d os)]; rfl
  have l1 : ∀ d os, HasAt (Go.Sort.grow (redrawn w2 d) os) g 0 64 := fun d os => (unhide HL _ ((unhide HB1).trans ((below_regrown w2 d os).mono (unhide HB1).size))).1
  have l2 : ∀ d os, cellsAt (Go.Sort.grow (redrawn w2 d) os) g 0 64 = cv c := fun d os => (unhide HL _ ((unhide HB1).trans ((below_regrown w2 d os).mono (unhide HB1).size))).2
  have Hn := hide (fun d os => headCluster_any (Go.Sort.grow (redrawn w2 d) os) T N hx4 hx6)
  have he : ∀ w, (eqClus (.agg (cv (headBytes T N)).toArray) (.agg (cv c).toArray)).run Tryz.prog w = .ok true w := fun w => by rw [run_eqClus hbl hlen0, decide_eq_true (unhide Hq)]
  clear hx0
  generalize headBytes T N = hb at *
  refine wp_region_quiet_below (by kernel_rfl) (by kernel_rfl) ?_
  repeat (go_big_quiet_step (exact Calls.regrown_of (unhide Hn _ _)))
  refine wpQuiet_nil ?_
  intro _ hw'
  obtain ⟨⟨dq, osq⟩, hw''⟩ := hw'
  subst hw''
  have HBq := hide ((unhide HB1).trans ((below_regrown w2 dq osq).mono (unhide HB1).size))
  have k4 := k3 dq osq
  obtain ⟨t0, v0, g0⟩ := ((unhide HG).below (unhide HBq)).err 0 (by omega)
  obtain ⟨t1, v1, g1⟩ := ((unhide HG).below (unhide HBq)).err 1 (by omega)
  clear l1 l2 k1 k2 k3 Hn he
  go_wp2
  go_ret
  exact ⟨⟨_, ⟨_, _, rfl⟩, rfl⟩, unhide HBq⟩
set_option maxHeartbeats 2000000 in
set_option maxRecDepth 100000 in
theorem checkHead_high (w : World) (fv : Value) (file : List Clus) (hf : FRow w fv file) (hG : Glob w) (h6 : 6 ≤ file.length) (hm : file.length ≤ 1000000)
    (hsame : headBytes (num (cl file 0) 4) (num (cl file 0) 6) = cl file 0) (hhi : 256 < num (cl file 0) 4) :
    Calls Tryz.prog 90 #[fv] w fun e w' => (∃ x, isIface x ∧ e = .returned (faultV 0 x)) ∧ Below w.heap.size w w' := by
  have d6 : ¬ ((file.length : Nat) : Int) ≤ 5 := by omega
  have hlen0 := cl_length hf.lens (k := 0) (by omega)
  have Hh : Hid (∀ W, _) := fun W => headOf_any W (cl file 0) hlen0
  have hx4 := num_lt (cl file 0) 4
  have hx6 := num_lt (cl file 0) 6
  obtain ⟨g, cap, rfl, hcap⟩ := row_some hf.row (by omega)
  have l1 := row_has hf.row hf.lens 0 (by omega)
  have l2 := row_cells hf.row hf.lens 0 (by omega)
  simp only [Nat.zero_mul] at l1 l2
  have hli : (0 : Int) < (file.length : Int) := by omega
  have HF := hide hf
  have HL := hide (fun W (hb : Below w.heap.size w W) => (⟨row_has (hf.kept (S := fun _ => False) (Kept.of_below hb) (fun _ _ => id)).row hf.lens 0 (by omega), row_cells (hf.kept (S := fun _ => False) (Kept.of_below hb) (fun _ _ => id)).row hf.lens 0 (by omega)⟩ : _ ∧ _))
  simp only [Nat.zero_mul] at HL
  have HG := hide hG
  clear hf hG
  generalize cl file 0 = c at *
  generalize num c 4 = T at *
  generalize num c 6 = N at *
  have dl : decide (((T : Nat) : Int) ≤ 6) = false := decide_eq_false (by omega)
  have dh : decide ((256 : Int) < ((T : Nat) : Int)) = true := decide_eq_true (by omega)
  have Hq := hide hsame
  clear hsame
  have hbl : (headBytes T N).length = 64 := headBytes_length T N
  go_enter Tryz.func90, Tryz.ntmps90
  go_wp2_with fail
  refine (unhide Hh _).mono ?_
  rintro e w1 ⟨rfl, hb1⟩
  have HB1 := hide (hb1.alloc hb1.size (.cells (hv T N).toArray 128))
  have HX := hide (heap_alloc_new w1 (.cells (hv T N).toArray 128))
  clear hb1 l1 l2 Hh
  go_wp2_with fail
  generalize hW2 : w1.alloc (.cells (hv T N).toArray 128) = w2 at *
  clear hW2
  have hx0 : ∀ d os, (Go.Sort.grow (redrawn w2 d) os).heap[w1.heap.size]? = some (.cells (hv T N).toArray 128 (0, 0)) := fun d os => ((below_regrown w2 d os).block _ (blk_lt (unhide HX))).trans (unhide HX)
  have k1 : ∀ d os, HasAt (Go.Sort.grow (redrawn w2 d) os) w1.heap.size 0 2 := fun d os => blk_has (hx0 d os) (hv_length _ _)
  have k2 : ∀ d os, cellsAt (Go.Sort.grow (redrawn w2 d) os) w1.heap.size 0 2 = hv T N := fun d os => blk_cells (hx0 d os) (hv_length _ _)
  have k3 : ∀ d os, (Go.Sort.grow (redrawn w2 d) os).cell? ⟨w1.heap.size, 0, none⟩ = some (.int .i64 (T : Nat)) := fun d os => by rw [cell_blk (hx0 d os)]; rfl
  have l1 : ∀ d os, HasAt (Go.Sort.grow (redrawn w2 d) os) g 0 64 := fun d os => (unhide HL _ ((unhide HB1).trans ((below_regrown w2 d os).mono (unhide HB1).size))).1
  have l2 : ∀ d os, cellsAt (Go.Sort.grow (redrawn w2 d) os) g 0 64 = cv c := fun d os => (unhide HL _ ((unhide HB1).trans ((below_regrown w2 d os).mono (unhide HB1).size))).2
  have Hn := hide (fun d os => headCluster_any (Go.Sort.grow (redrawn w2 d) os) T N hx4 hx6)
  have he : ∀ w, (eqClus (.agg (cv (headBytes T N)).toArray) (.agg (cv c).toArray)).run Tryz.prog w = .ok true w := fun w => by rw [run_eqClus hbl hlen0, decide_eq_true (unhide Hq)]
  clear hx0
  generalize headBytes T N = hb at *
  refine wp_region_quiet_below (by kernel_rfl) (by kernel_rfl) ?_
  repeat (go_big_quiet_step (exact Calls.regrown_of (unhide Hn _ _)))
  refine wpQuiet_nil ?_
  intro _ hw'
  obtain ⟨⟨dq, osq⟩, hw''⟩ := hw'
  subst hw''
  have HBq := hide ((unhide HB1).trans ((below_regrown w2 dq osq).mono (unhide HB1).size))
  have k4 := k3 dq osq
  obtain ⟨t0, v0, g0⟩ := ((unhide HG).below (unhide HBq)).err 0 (by omega)
  obtain ⟨t1, v1, g1⟩ := ((unhide HG).below (unhide HBq)).err 1 (by omega)
  clear l1 l2 k1 k2 k3 Hn he
  go_wp2
  go_ret
  exact ⟨⟨_, ⟨_, _, rfl⟩, rfl⟩, unhide HBq⟩
set_option maxHeartbeats 2000000 in
set_option maxRecDepth 100000 in
theorem checkHead_long (w : World) (fv : Value) (file : List Clus) (hf : FRow w fv file) (hG : Glob w) (h6 : 6 ≤ file.length) (hm : file.length ≤ 1000000)
    (hsame : headBytes (num (cl file 0) 4) (num (cl file 0) 6) = cl file 0) (hlow : 7 ≤ num (cl file 0) 4) (hhi : num (cl file 0) 4 ≤ 256) (hle : num (cl file 0) 4 < file.length) :
    Calls Tryz.prog 90 #[fv] w fun e w' => (∃ x, isIface x ∧ e = .returned (faultV 0 x)) ∧ Below w.heap.size w w' := by
  have d6 : ¬ ((file.length : Nat) : Int) ≤ 5 := by omega
  have hlen0 := cl_length hf.lens (k := 0) (by omega)
  have Hh : Hid (∀ W, _) := fun W => headOf_any W (cl file 0) hlen0
  have hx4 := num_lt (cl file 0) 4
  have hx6 := num_lt (cl file 0) 6
  obtain ⟨g, cap, rfl, hcap⟩ := row_some hf.row (by omega)
  have l1 := row_has hf.row hf.lens 0 (by omega)
  have l2 := row_cells hf.row hf.lens 0 (by omega)
  simp only [Nat.zero_mul] at l1 l2
  have hli : (0 : Int) < (file.length : Int) := by omega
  have HF := hide hf
  have HL := hide (fun W (hb : Below w.heap.size w W) => (⟨row_has (hf.kept (S := fun _ => False) (Kept.of_below hb) (fun _ _ => id)).row hf.lens 0 (by omega), row_cells (hf.kept (S := fun _ => False) (Kept.of_below hb) (fun _ _ => id)).row hf.lens 0 (by omega)⟩ : _ ∧ _))
  simp only [Nat.zero_mul] at HL
  have HG := hide hG
  clear hf hG
  generalize cl file 0 = c at *
  generalize num c 4 = T at *
  generalize num c 6 = N at *
  have dl : decide (((T : Nat) : Int) ≤ 6) = false := decide_eq_false (by omega)
  have dh : decide ((256 : Int) < ((T : Nat) : Int)) = false := decide_eq_false (by omega)
  have dn : decide (((T : Nat) : Int) < ((file.length : Nat) : Int)) = true := decide_eq_true (by omega)
  have Hq := hide hsame
  clear hsame
  have hbl : (headBytes T N).length = 64 := headBytes_length T N
  go_enter Tryz.func90, Tryz.ntmps90
  go_wp2_with fail
  refine (unhide Hh _).mono ?_
  rintro e w1 ⟨rfl, hb1⟩
  have HB1 := hide (hb1.alloc hb1.size (.cells (hv T N).toArray 128))
  have HX := hide (heap_alloc_new w1 (.cells (hv T N).toArray 128))
  clear hb1 l1 l2 Hh
  go_wp2_with fail
  generalize hW2 : w1.alloc (.cells (hv T N).toArray 128) = w2 at *
  clear hW2
  have hx0 : ∀ d os, (Go.Sort.grow (redrawn w2 d) os).heap[w1.heap.size]? = some (.cells (hv T N).toArray 128 (0, 0)) := fun d os => ((below_regrown w2 d os).block _ (blk_lt (unhide HX))).trans (unhide HX)
  have k1 : ∀ d os, HasAt (Go.Sort.grow (redrawn w2 d) os) w1.heap.size 0 2 := fun d os => blk_has (hx0 d os) (hv_length _ _)
  have k2 : ∀ d os, cellsAt (Go.Sort.grow (redrawn w2 d) os) w1.heap.size 0 2 = hv T N := fun d os => blk_cells (hx0 d os) (hv_length _ _)
  have k3 : ∀ d os, (Go.Sort.grow (redrawn w2 d) os).cell? ⟨w1.heap.size, 0, none⟩ = some (.int .i64 (T : Nat)) := fun d os => by rw [cell_blk (hx0 d os)]; rfl
  have l1 : ∀ d os, HasAt (Go.Sort.grow (redrawn w2 d) os) g 0 64 := fun d os => (unhide HL _ ((unhide HB1).trans ((below_regrown w2 d os).mono (unhide HB1).size))).1
  have l2 : ∀ d os, cellsAt (Go.Sort.grow (redrawn w2 d) os) g 0 64 = cv c := fun d os => (unhide HL _ ((unhide HB1).trans ((below_regrown w2 d os).mono (unhide HB1).size))).2
  have Hn := hide (fun d os => headCluster_any (Go.Sort.grow (redrawn w2 d) os) T N hx4 hx6)
  have he : ∀ w, (eqClus (.agg (cv (headBytes T N)).toArray) (.agg (cv c).toArray)).run Tryz.prog w = .ok true w := fun w => by rw [run_eqClus hbl hlen0, decide_eq_true (unhide Hq)]
  clear hx0
  generalize headBytes T N = hb at *
  refine wp_region_quiet_below (by kernel_rfl) (by kernel_rfl) ?_
  repeat (go_big_quiet_step (exact Calls.regrown_of (unhide Hn _ _)))
  refine wpQuiet_nil ?_
  intro _ hw'
  obtain ⟨⟨dq, osq⟩, hw''⟩ := hw'
  subst hw''
  have HBq := hide ((unhide HB1).trans ((below_regrown w2 dq osq).mono (unhide HB1).size))
  have k4 := k3 dq osq
  obtain ⟨t0, v0, g0⟩ := ((unhide HG).below (unhide HBq)).err 0 (by omega)
  obtain ⟨t1, v1, g1⟩ := ((unhide HG).below (unhide HBq)).err 1 (by omega)
  clear l1 l2 k1 k2 k3 Hn he
  go_wp2
  go_ret
  exact ⟨⟨_, ⟨_, _, rfl⟩, rfl⟩, unhide HBq⟩
set_option maxHeartbeats 2000000 in
set_option maxRecDepth 100000 in
theorem checkHead_ok (w : World) (fv : Value) (file : List Clus) (hf : FRow w fv file) (hG : Glob w) (h6 : 6 ≤ file.length) (hm : file.length ≤ 1000000)
    (hsame : headBytes (num (cl file 0) 4) (num (cl file 0) 6) = cl file 0) (hlow : 7 ≤ num (cl file 0) 4) (hhi : num (cl file 0) 4 ≤ 256) (hle : file.length ≤ num (cl file 0) 4) :
    Calls Tryz.prog 90 #[fv] w fun e w' => e = .returned .nilIface ∧ Below w.heap.size w w' := by
  have d6 : ¬ ((file.length : Nat) : Int) ≤ 5 := by omega
  have hlen0 := cl_length hf.lens (k := 0) (by omega)
  have Hh : Hid (∀ W, _) := fun W => headOf_any W (cl file 0) hlen0
  have hx4 := num_lt (cl file 0) 4
  have hx6 := num_lt (cl file 0) 6
  obtain ⟨g, cap, rfl, hcap⟩ := row_some hf.row (by omega)
  have l1 := row_has hf.row hf.lens 0 (by omega)
  have l2 := row_cells hf.row hf.lens 0 (by omega)
  simp only [Nat.zero_mul] at l1 l2
  have hli : (0 : Int) < (file.length : Int) := by omega
  have HF := hide hf
  have HL := hide (fun W (hb : Below w.heap.size w W) => (⟨row_has (hf.kept (S := fun _ => False) (Kept.of_below hb) (fun _ _ => id)).row hf.lens 0 (by omega), row_cells (hf.kept (S := fun _ => False) (Kept.of_below hb) (fun _ _ => id)).row hf.lens 0 (by omega)⟩ : _ ∧ _))
  simp only [Nat.zero_mul] at HL
  have HG := hide hG
  clear hf hG
  generalize cl file 0 = c at *
  generalize num c 4 = T at *
  generalize num c 6 = N at *
  have dl : decide (((T : Nat) : Int) ≤ 6) = false := decide_eq_false (by omega)
  have dh : decide ((256 : Int) < ((T : Nat) : Int)) = false := decide_eq_false (by omega)
  have dn : decide (((T : Nat) : Int) < ((file.length : Nat) : Int)) = false := decide_eq_false (by omega)
  have Hq := hide hsame
  clear hsame
  have hbl : (headBytes T N).length = 64 := headBytes_length T N
  go_enter Tryz.func90, Tryz.ntmps90
  go_wp2_with fail
  refine (unhide Hh _).mono ?_
  rintro e w1 ⟨rfl, hb1⟩
  have HB1 := hide (hb1.alloc hb1.size (.cells (hv T N).toArray 128))
  have HX := hide (heap_alloc_new w1 (.cells (hv T N).toArray 128))
  clear hb1 l1 l2 Hh
  go_wp2_with fail
  generalize hW2 : w1.alloc (.cells (hv T N).toArray 128) = w2 at *
  clear hW2
  have hx0 : ∀ d os, (Go.Sort.grow (redrawn w2 d) os).heap[w1.heap.size]? = some (.cells (hv T N).toArray 128 (0, 0)) := fun d os => ((below_regrown w2 d os).block _ (blk_lt (unhide HX))).trans (unhide HX)
  have k1 : ∀ d os, HasAt (Go.Sort.grow (redrawn w2 d) os) w1.heap.size 0 2 := fun d os => blk_has (hx0 d os) (hv_length _ _)
  have k2 : ∀ d os, cellsAt (Go.Sort.grow (redrawn w2 d) os) w1.heap.size 0 2 = hv T N := fun d os => blk_cells (hx0 d os) (hv_length _ _)
  have k3 : ∀ d os, (Go.Sort.grow (redrawn w2 d) os).cell? ⟨w1.heap.size, 0, none⟩ = some (.int .i64 (T : Nat)) := fun d os => by rw [cell_blk (hx0 d os)]; rfl
  have l1 : ∀ d os, HasAt (Go.Sort.grow (redrawn w2 d) os) g 0 64 := fun d os => (unhide HL _ ((unhide HB1).trans ((below_regrown w2 d os).mono (unhide HB1).size))).1
  have l2 : ∀ d os, cellsAt (Go.Sort.grow (redrawn w2 d) os) g 0 64 = cv c := fun d os => (unhide HL _ ((unhide HB1).trans ((below_regrown w2 d os).mono (unhide HB1).size))).2
  have Hn := hide (fun d os => headCluster_any (Go.Sort.grow (redrawn w2 d) os) T N hx4 hx6)
  have he : ∀ w, (eqClus (.agg (cv (headBytes T N)).toArray) (.agg (cv c).toArray)).run Tryz.prog w = .ok true w := fun w => by rw [run_eqClus hbl hlen0, decide_eq_true (unhide Hq)]
  clear hx0
  generalize headBytes T N = hb at *
  refine wp_region_quiet_below (by kernel_rfl) (by kernel_rfl) ?_
  repeat (go_big_quiet_step (exact Calls.regrown_of (unhide Hn _ _)))
  refine wpQuiet_nil ?_
  intro _ hw'
  obtain ⟨⟨dq, osq⟩, hw''⟩ := hw'
  subst hw''
  have HBq := hide ((unhide HB1).trans ((below_regrown w2 dq osq).mono (unhide HB1).size))
  have k4 := k3 dq osq
  obtain ⟨t0, v0, g0⟩ := ((unhide HG).below (unhide HBq)).err 0 (by omega)
  obtain ⟨t1, v1, g1⟩ := ((unhide HG).below (unhide HBq)).err 1 (by omega)
  clear l1 l2 k1 k2 k3 Hn he
  go_wp2
  go_ret
  exact ⟨rfl, unhide HBq⟩
theorem checkHead_bad (w : World) (fv : Value) (file : List Clus) (hf : FRow w fv file) (hG : Glob w) (hm : file.length ≤ 1000000) (hbad : ¬ HeadP file) :
    Calls Tryz.prog 90 #[fv] w fun e w' => (∃ x, isIface x ∧ e = .returned (faultV 0 x)) ∧ Below w.heap.size w w' := by
  by_cases h6 : file.length ≤ 5
  · exact checkHead_short w fv file hf hG h6
  · by_cases h1 : headBytes (num (cl file 0) 4) (num (cl file 0) 6) = cl file 0
    · by_cases h2 : num (cl file 0) 4 ≤ 6
      · exact checkHead_low w fv file hf hG (by omega) hm h1 h2
      · by_cases h3 : 256 < num (cl file 0) 4
        · exact checkHead_high w fv file hf hG (by omega) hm h1 h3
        · by_cases h4 : num (cl file 0) 4 < file.length
          · exact checkHead_long w fv file hf hG (by omega) hm h1 (by omega) (by omega) h4
          · exact absurd ⟨by omega, h1, by omega, by omega, by omega⟩ hbad
    · exact checkHead_form w fv file hf hG (by omega) hm h1
theorem checkHead_good (w : World) (fv : Value) (file : List Clus) (hf : FRow w fv file) (hG : Glob w) (h : HeadP file) :
    Calls Tryz.prog 90 #[fv] w fun e w' => e = .returned .nilIface ∧ Below w.heap.size w w' :=
  checkHead_ok w fv file hf hG h.six (by have := h.le; have := h.most; omega) h.same h.seven h.most h.le
end Go.Proofs.YtknjjjenklfeoaaGreatDoor

/-
  The program's isName.
-/
namespace Go.Proofs.YtknjjjenklfeoaaGreatDoor
open Go.RowKit

set_option maxHeartbeats 1000000 in
set_option maxRecDepth 100000 in
theorem pIsName_any (s : ByteArray) (w : World) (hs : s.size ≤ maxLen) :
    Calls Tryz.prog 82 #[.string s] w fun e w' => e = .returned (.bool (isNameB s.data.toList)) ∧ Below w.heap.size w w' := by
  unfold maxLen at hs
  have hlen : s.data.toList.length = s.size := by rw [Array.length_toList]; rfl
  have Hr : Hid (isNameB s.data.toList = (s.data.toList.all letter && (decide (1 ≤ s.data.toList.length) && decide (s.data.toList.length ≤ 12)))) := rfl
  rw [hlen] at Hr
  have Hlen := hide hlen
  clear hlen
  by_cases h1 : s.size < 1
  · have d1 : decide ((s.size : Int) < 1) = true := decide_eq_true (by omega)
    rw [show decide (1 ≤ s.size) = false from decide_eq_false (by omega), Bool.false_and, Bool.and_false] at Hr
    go_enter Tryz.func82, Tryz.ntmps82
    go_wp2
    go_ret
    exact ⟨by rw [unhide Hr]; rfl, Below.refl _ _⟩
  have d1 : decide ((s.size : Int) < 1) = false := decide_eq_false (by omega)
  rw [show decide (1 ≤ s.size) = true from decide_eq_true (by omega), Bool.true_and] at Hr
  by_cases h12 : 12 < s.size
  · have d2 : decide ((12 : Int) < (s.size : Int)) = true := decide_eq_true (by omega)
    rw [show decide (s.size ≤ 12) = false from decide_eq_false (by omega), Bool.and_false] at Hr
    go_enter Tryz.func82, Tryz.ntmps82
    go_wp2
    go_ret
    exact ⟨by rw [unhide Hr]; rfl, Below.refl _ _⟩
  have d2 : decide ((12 : Int) < (s.size : Int)) = false := decide_eq_false (by omega)
  rw [show decide (s.size ≤ 12) = true from decide_eq_true (by omega), Bool.and_true] at Hr
  have hconv := Lib.run_convert_string_bytes (P := Tryz.prog) w 9 73 5 s Tryz.underlying9 Tryz.underlying73 Tryz.underlying5
  have hB : Hid (Below w.heap.size w (Lib.bytesWorld w 5 s)) := ⟨rfl, rfl, rfl, by rw [Lib.bytesWorld_size]; omega, fun k hk => Lib.bytesWorld_at_old w _ s k hk⟩
  have hC : Hid (∀ j, j < s.size → (Lib.bytesWorld w 5 s).cell? ⟨w.heap.size, j, none⟩ = some (.int .u8 (s.data.toList.getD j 0).toNat)) := fun j hj => Lib.bytesWorld_cell w _ s j hj
  generalize Lib.bytesWorld w 5 s = w1 at hconv hB hC
  generalize grownCap w s.size 0 5 = cap at hconv
  go_enter Tryz.func82, Tryz.ntmps82
  go_wp2
  go_loop [16] (fun i => ∃ k : Nat, k ≤ s.size ∧ i = .int .i64 k ∧ (s.data.toList.take k).all letter = true) (fun i => s.size - (intOf i).toNat)
  case atStart => exact ⟨0, Nat.zero_le _, rfl, by simp⟩
  case round =>
    obtain ⟨k, hk, rfl, ha⟩ := hrel
    have Ha := hide ha
    clear ha
    by_cases hlt : k < s.size
    · have hget : s.data.toList.getD k 0 = s[k] := by
        rw [List.getD_eq_getElem?_getD, List.getElem?_eq_getElem (by rw [unhide Hlen]; exact hlt)]; rfl
      have hcell := unhide hC k hlt
      rw [hget] at hcell
      have hts : s.data.toList.take (k + 1) = s.data.toList.take k ++ [s[k]] := by
        rw [List.take_succ_eq_append_getElem (by rw [unhide Hlen]; exact hlt)]; rfl
      have hb := s[k].toNat_lt
      have hl : letter s[k] = (decide (97 ≤ s[k].toNat) && decide (s[k].toNat ≤ 122)) := rfl
      have hall : letter s[k] = false → isNameB s.data.toList = false := fun hf => by
        have : s.data.toList.all letter = false := by
          rw [List.all_eq_false]
          exact ⟨s[k], by rw [← List.take_append_drop (k + 1) s.data.toList, hts]; simp, by rw [hf]; simp⟩
        rw [unhide Hr, this]
      have hnext : letter s[k] = true → (s.data.toList.take (k + 1)).all letter = true := fun ht => by rw [hts, List.all_append, unhide Ha]; simp [ht]
      have HA := hide hall
      have HN := hide hnext
      have HL := hide hl
      clear hall hnext hl hts hget
      by_cases h97 : s[k].toNat < 97
      · have d3 : decide ((s[k].toNat : Int) < 97) = true := decide_eq_true (by omega)
        have e := hide (unhide HA (by rw [unhide HL, show decide (97 ≤ s[k].toNat) = false from decide_eq_false (by omega)]; rfl))
        go_wp2
        go_ret
        exact ⟨by rw [unhide e]; rfl, unhide hB⟩
      · have d3 : decide ((s[k].toNat : Int) < 97) = false := decide_eq_false (by omega)
        by_cases h122 : 122 < s[k].toNat
        · have d4 : decide ((122 : Int) < (s[k].toNat : Int)) = true := decide_eq_true (by omega)
          have e := hide (unhide HA (by rw [unhide HL, show decide (s[k].toNat ≤ 122) = false from decide_eq_false (by omega)]; simp))
          go_wp2
          go_ret
          exact ⟨by rw [unhide e]; rfl, unhide hB⟩
        · have d4 : decide ((122 : Int) < (s[k].toNat : Int)) = false := decide_eq_false (by omega)
          have e := hide (unhide HN (by rw [unhide HL, show decide (97 ≤ s[k].toNat) = true from decide_eq_true (by omega), show decide (s[k].toNat ≤ 122) = true from decide_eq_true (by omega)]; rfl))
          go_wp2
          go_round
          case rel => exact ⟨k + 1, by omega, by go_num, unhide e⟩
          case measure => simp [intOf]; omega
    · have hks : k = s.size := by omega
      have hall : s.data.toList.all letter = true := by
        have := unhide Ha
        rwa [hks, ← unhide Hlen, List.take_length] at this
      rw [hall] at Hr
      clear hall
      go_wp2
      go_ret
      exact ⟨by rw [unhide Hr]; rfl, unhide hB⟩
end Go.Proofs.YtknjjjenklfeoaaGreatDoor
