import Derived.Test.YtknjjjenklfeoaaGreatDoorP14
import Derived.Test.YtknjjjenklfeoaaGreatDoorP16
import Derived.RangeFuncNested
import Derived.RangeFuncBound
import Derived.RangeFuncCalls
import Derived.RangeFuncLeaves
import Derived.Shelf.Abstract
import Derived.Shelf.RegionOpen
import Derived.WalkKit
import Derived.OwnWalkIn
import Derived.TacticsInMore
import Derived.LoopNIn
import Derived.LoopIn
import Derived.Test.YtknjjjenklfeoaaGreatDoorP15
/-
  The program's iterator over the first tables.
-/
namespace Go.Proofs.YtknjjjenklfeoaaGreatDoor
open Go.RowKit Go.Shelf
attribute [local go_sem ↓] loadVar_clus storeVar_clus zeroValue_clus loadVar_tab storeVar_tab zeroValue_tab loadVar_cnt storeVar_cnt zeroValue_cnt loadVar_head storeVar_head zeroValue_head build_head buildSlice_clus loadVar_wr storeVar_wr zeroValue_wr build_wr buildSlice_wr equalIn_clus loadVar_place storeVar_place zeroValue_place build_place loadVar_lst storeVar_lst zeroValue_lst storeVar_ent build_ent
attribute [local go_sem] run_loadClus run_storeClus run_zeroClus run_storeClus_new run_loadClus_new zc_length run_loadTab run_storeTab run_zeroTab run_storeTab_new run_loadTab_new zt_length run_loadCnt run_storeCnt run_zeroCnt run_storeCnt_new run_loadCnt_new zk_length run_loadHead run_storeHead run_zeroHead run_storeHead_new run_bHead HasAt_drew cellsAt_drew HasAt_drewN cellsAt_drewN run_bsClus run_loadWr run_zeroWr run_storeWr run_storeWr_new run_bWr0 run_bsWr run_loadPlace run_storePlace run_zeroPlace run_storePlace_new run_bPlace run_loadLst run_storeLst run_zeroLst run_storeLst_new run_storeEnt run_bEnt
attribute [local go_sem] field_head1 field_head0 Oper.semAt_some

def loadEnt (a : Addr) : Sem Value := loadVar 142 a
theorem loadVar_ent (a : Addr) : loadVar 142 a = loadEnt a := rfl
theorem run_loadEnt {w : World} {b o : Nat} (h : HasAt w b o 2) : (loadEnt ⟨b, o, none⟩).run Tryz.prog w = .ok (.agg (cellsAt w b o 2).toArray) w :=
  run_loadVar_has h 142 _ Tryz.underlying142 rfl (by kernel_rfl)
def zeroEnt : Sem Value := zeroValue 142
theorem zeroValue_ent : zeroValue 142 = zeroEnt := rfl
theorem run_zeroEnt (w : World) : zeroEnt.run Tryz.prog w = .ok (.agg (ev ze).toArray) w :=
  (zero_of_info (P := Tryz.prog) (t := 142) (v := .agg (ev ze).toArray) (n := 2) (by kernel_rfl)).1 w
theorem run_storeEnt_new {w : World} {z p : EntR} :
    (storeEnt ⟨w.heap.size, 0, none⟩ (.agg (ev p).toArray)).run Tryz.prog (w.alloc (.cells (ev z).toArray 142)) = .ok () (w.alloc (.cells (ev p).toArray 142)) :=
  run_storeVar_new w 142 (ev z).toArray (ev p).toArray (by simp only [ev]; kernel_rfl) (by simp [ev]) (all_oneCell_toArray (ev_one p))
attribute [local go_sem ↓] loadVar_ent zeroValue_ent
attribute [local go_sem] run_loadEnt run_zeroEnt run_storeEnt_new

theorem ent_range {w : World} {b : Nat} {E : List EntR} {t : TypeId} {fr : Nat × Nat} (h : w.heap[b]? = some (.cells (lv E).toArray t fr)) (k : Nat) (hk : k < E.length) : w.rangeAt b (k * 2) (ev (E.getD k ze)) := fun j x hx => by
  have hj : j < 2 := by have := (List.getElem?_eq_some_iff.1 hx).1; simpa [ev] using this
  rw [cell_blk h, List.getElem?_toArray, ← hx]
  clear h hx
  induction E generalizing k with
  | nil => simp at hk
  | cons a r ih =>
    rw [show lv (a :: r) = ev a ++ lv r from rfl]
    cases k with
    | zero => rw [Nat.zero_mul, Nat.zero_add, List.getElem?_append_left (by simp [ev]; omega)]; rfl
    | succ k =>
      rw [List.getElem?_append_right (by simp [ev]; omega), show (k + 1) * 2 + j - (ev a).length = k * 2 + j by simp [ev]; omega, ih k (by simpa using hk)]
      simp

/-- The first tables: the disk's, then the pictures'. -/
def picFirsts (C : List Clus) : List Nat := ((entsOf (cl C 5)).take (lenOf (entsOf (cl C 5)))).map (·.first)
def firstsOf (V : VolR) : List Nat := num (cl V.C 0) 6 :: picFirsts V.C
theorem picFirsts_get (C : List Clus) (k : Nat) (hk : k < lenOf (entsOf (cl C 5))) : ((entsOf (cl C 5)).getD k ze).first ∈ picFirsts C := by
  have h4 := lenOf_le (entsOf (cl C 5))
  have hl := entsOf_length (cl C 5)
  unfold picFirsts
  refine List.mem_map.2 ⟨(entsOf (cl C 5)).getD k ze, ?_, rfl⟩
  rw [List.getD_eq_getElem?_getD, List.getElem?_eq_getElem (by omega)]
  rw [List.mem_take_iff_getElem]
  exact ⟨k, by omega, rfl⟩

set_option maxHeartbeats 4000000 in
set_option maxRecDepth 100000 in
theorem firsts_all {Pc : Nat → Prop} (n : Nat) (hn : 10 ≤ n) (X : Nat → Prop) (v bv B : Nat) (V : VolR) (Cv Lv : Value) (w : World) (hV : VolAt w v Cv Lv V)
    (hbv : w.heap[bv]? = some (.cells #[.pointer (some ⟨v, 0, none⟩)] 82 (0, 0))) (hXv : ¬ X bv) (hfv : ¬ foot v Cv Lv bv)
    (hXB : ∀ k, X k → k < w.heap.size) (h5 : 5 < V.C.length) (hP : ∀ t ∈ firstsOf V, Pc t) :
    SeqAll n 173 #[.pointer (some ⟨bv, 0, none⟩)] (fun x : UM Pc => #[Value.int .i64 ((x.1 : Nat) : Int)]) (KeepV X (fun k => B ≤ k) v SameNum) (fun ys => ys.map (·.1) = firstsOf V) 5 B w := by
  intro l J W hW hBW hJ hY h0
  have B0 : Besides X v [(bv, .cells #[.pointer (some ⟨v, 0, none⟩)] 82 (0, 0))] (SameNum V) W := by
    refine ⟨⟨Cv, Lv, V, hV.below hW, SameNum.refl V, ?_⟩, ?_, ?_, ?_⟩
    · intro x hx; simp only [List.mem_cons, List.not_mem_nil, or_false] at hx; subst hx; exact hfv
    · intro x hx; simp only [List.mem_cons, List.not_mem_nil, or_false] at hx; subst hx; exact (hW.block _ (blk_lt hbv)).trans hbv
    · intro x hx; simp only [List.mem_cons, List.not_mem_nil, or_false] at hx; subst hx; rfl
    · intro x hx; simp only [List.mem_cons, List.not_mem_nil, or_false] at hx; subst hx; exact hXv
  have hXW : ∀ k, W.heap.size ≤ k → ¬ X k := fun k hk hx => by have := hXB _ hx; have := hW.size; omega
  have c1 : W.cell? ⟨bv, 0, none⟩ = some (.pointer (some ⟨v, 0, none⟩)) := (cell_blk B0.b0 0).trans rfl
  have Hh := hide (head_vol W v Cv Lv V (hV.below hW) (by omega))
  have hP0 : Pc (num (cl V.C 0) 6) := hP _ (by simp [firstsOf])
  have B0 := hide B0
  refine callsIn_of_wp Tryz.func173 rfl trivial ?_ rfl
  simp only [Tryz.ntmps173, List.size_toArray, List.length_cons, List.length_nil, Nat.reduceAdd, Nat.reduceSub, Array.replicate_succ, Array.replicate_zero, List.push_toArray, List.append_toArray, List.nil_append, List.cons_append]
  gi_wp2_with fail
  refine ⟨trivial, fun _ => by omega, (callsIn_wide.2 (unhide Hh)).mono ?_⟩
  rintro e W1 ⟨rfl, hb1⟩
  have B1 := (unhide B0).below hb1
  have hJ1 : J [] W1 := hJ [] W W1 none h0 ⟨hb1.os, hb1.tape, hb1.output, hb1.size, fun k hk _ => hb1.block k hk⟩ (fun r e => by cases e)
  obtain ⟨fn, tmps, assign, body, hy, hR⟩ := hY [] ⟨num (cl V.C 0) 6, hP0⟩ W1 hJ1 (by simp)
  dsimp only at hy
  have B1 := hide B1
  have hw1 := hb1.size
  clear Hh B0 hb1 h0 c1 hbv
  gi_wp2_with fail
  refine ⟨fun _ => by omega, hR.mono ?_⟩
  rintro e W3 ⟨rfl, hJ3, hK3⟩
  have B3 := (unhide B1).keep (fun _ _ a b => SameNum.trans a b) hK3
  obtain ⟨C3, L3, V3, hV3, hS3, hf3⟩ := B3.vol
  have c3 : W3.cell? ⟨bv, 0, none⟩ = some (.pointer (some ⟨v, 0, none⟩)) := (cell_blk B3.b0 0).trans rfl
  have hs3 : W.heap.size ≤ W3.heap.size := by have := hK3.1; omega
  have Hl := hide (list_vol W3 v C3 L3 V3 hV3 (by rw [hS3.len]; exact h5))
  rw [hS3.low 5 (by omega)] at Hl
  have hel := entsOf_length (cl V.C 5)
  have B3 := hide B3
  have HJ3 := hide hJ3
  clear hR hy hJ1 B1 hK3 hJ3 hV3 hf3
  gi_wp2_with fail
  refine ⟨trivial, fun _ => by omega, (callsIn_wide.2 (unhide Hl)).mono ?_⟩
  rintro e W4 ⟨rfl, hb4⟩
  have hs4 : W.heap.size ≤ W4.heap.size := by have := hb4.size; omega
  have B4 := ((unhide B3).below hb4).lay (.cells (lv (entsOf (cl V.C 5))).toArray 144) rfl (hXW _ hs4)
  have hJ4 : J [⟨num (cl V.C 0) 6, hP0⟩] (W4.alloc (.cells (lv (entsOf (cl V.C 5))).toArray 144)) := hJ.alloc _ (hJ _ W3 W4 none (unhide HJ3) ⟨hb4.os, hb4.tape, hb4.output, hb4.size, fun k hk _ => hb4.block k hk⟩ (fun r e => by cases e))
  have B4 := hide (B4.sub (cs := [(W4.heap.size, .cells (lv (entsOf (cl V.C 5))).toArray 144 (0, 0))]) (by simp))
  have l1 := blk_has (unhide B4).b0 (n := 8) (by rw [lv_length, hel])
  have l2 := blk_cells (unhide B4).b0 (n := 8) (by rw [lv_length, hel])
  have Hn := hide (len_any (W4.alloc (.cells (lv (entsOf (cl V.C 5))).toArray 144)) (entsOf (cl V.C 5)) hel)
  have hl4 := lenOf_le (entsOf (cl V.C 5))
  have HJ4 := hide hJ4
  have zll : zl.length = 4 := rfl
  have hPk : ∀ k, k < lenOf (entsOf (cl V.C 5)) → Pc ((entsOf (cl V.C 5)).getD k ze).first := fun k hk => hP _ (List.mem_cons_of_mem _ (picFirsts_get V.C k hk))
  have hfo : firstsOf V = num (cl V.C 0) 6 :: ((entsOf (cl V.C 5)).take (lenOf (entsOf (cl V.C 5)))).map (·.first) := rfl
  have Hfo := hide hfo
  clear Hl HJ3 B3 hb4 c3 hJ4 hP hfo
  generalize entsOf (cl V.C 5) = E at *
  gi_wp2_with fail
  refine ⟨trivial, fun _ => by omega, (callsIn_wide.2 (unhide Hn)).mono ?_⟩
  rintro e W5 ⟨rfl, hb5⟩
  have B5 := hide ((unhide B4).below hb5)
  have HJ5 : Hid (J [⟨num (cl V.C 0) 6, hP0⟩] W5) := hJ _ _ W5 none (unhide HJ4) ⟨hb5.os, hb5.tape, hb5.output, hb5.size, fun k hk _ => hb5.block k hk⟩ (fun r e => by cases e)
  clear Hn HJ4 B4 l1 l2 hb5
  generalize hL0 : lenOf E = L0 at *
  have hli : (L0 : Int) ≤ 4 := by omega
  gi_wp2
  gi_loopw [5, 18] (fun _ i wr => ∃ (k : Nat) (ys : List (UM Pc)), k ≤ L0 ∧ i = .int .i64 k ∧ Besides X v [(W4.heap.size, .cells (lv E).toArray 144 (0, 0))] (SameNum V) wr ∧ ys.map (·.1) = (E.take k).map (·.first) ∧ ys.length = k ∧ J (⟨num (cl V.C 0) 6, hP0⟩ :: ys) wr) (fun _ i _ => L0 - (intOf i).toNat)
  case atStart => exact ⟨0, [], by omega, rfl, unhide B5, rfl, rfl, unhide HJ5⟩
  case round =>
    obtain ⟨k, ys, hk, rfl, hB, hys, hyl, hJk⟩ := hrel
    clear B5 HJ5
    by_cases hlt : k < L0
    · have hki : (k : Int) < (L0 : Int) := by omega
      have hkE : k < E.length := by omega
      have l1 := hasAt_of_range (n := 2) (ent_range hB.b0 k hkE) rfl
      have l2 := cellsAt_of_range (n := 2) (ent_range hB.b0 k hkE) rfl
      have hpk := hPk k (by omega)
      have htk : (E.take (k + 1)).map (·.first) = (E.take k).map (·.first) ++ [(E.getD k ze).first] := by
        rw [List.take_succ_eq_append_getElem hkE, List.map_append, List.getD_eq_getElem?_getD, List.getElem?_eq_getElem hkE]; rfl
      have Htk := hide htk
      generalize E.getD k ze = p at *
      have hJa : J (⟨num (cl V.C 0) 6, hP0⟩ :: ys) (wr.alloc (.cells (ev p).toArray 142)) := hJ.alloc _ hJk
      have hBa := hide (hB.below ((Below.refl _ _).alloc (Nat.le_refl _) (.cells (ev p).toArray 142)))
      have c5 : (wr.alloc (.cells (ev p).toArray 142)).cell? ⟨wr.heap.size, 1, none⟩ = some (.int .i64 (p.first : Nat)) := (cell_new wr _ _ _ 1).trans rfl
      obtain ⟨fn2, tmps2, assign2, body2, hy2, hR2⟩ := hY _ ⟨p.first, hpk⟩ _ hJa (by simp; omega)
      dsimp only at hy2
      clear htk hJk hJa hB
      generalize p.first = pf at *
      gi_wp2
      refine ⟨fun _ => by omega, hR2.mono ?_⟩
      rintro e W6 ⟨rfl, hJ6, hK6⟩
      have B6 := hide ((unhide hBa).keep (fun _ _ a b => SameNum.trans a b) hK6)
      clear hK6 hBa hR2 hy2
      gi_wp2
      go_roundw
      case rel => exact ⟨k + 1, ys ++ [⟨pf, hpk⟩], by omega, by go_num, unhide B6, by rw [unhide Htk, List.map_append, hys]; rfl, by simp; omega, by rw [List.cons_append] at hJ6; exact hJ6⟩
      case measure => simp [intOf]; omega
    · have hkL : k = L0 := by omega
      subst hkL
      gi_wp2
      go_end0
      exact ⟨⟨_, rfl⟩, _, by rw [unhide Hfo, List.map_cons, hys], hJk⟩
end Go.Proofs.YtknjjjenklfeoaaGreatDoor

/-
  The program's markLone.
-/
namespace Go.Proofs.YtknjjjenklfeoaaGreatDoor
open Go.RowKit Go.Shelf
attribute [local go_sem ↓] loadVar_clus storeVar_clus zeroValue_clus loadVar_tab storeVar_tab zeroValue_tab loadVar_cnt storeVar_cnt zeroValue_cnt loadVar_head storeVar_head zeroValue_head build_head buildSlice_clus loadVar_wr storeVar_wr zeroValue_wr build_wr buildSlice_wr equalIn_clus loadVar_place storeVar_place zeroValue_place build_place loadVar_lst storeVar_lst zeroValue_lst storeVar_ent build_ent
attribute [local go_sem] run_loadClus run_storeClus run_zeroClus run_storeClus_new run_loadClus_new zc_length run_loadTab run_storeTab run_zeroTab run_storeTab_new run_loadTab_new zt_length run_loadCnt run_storeCnt run_zeroCnt run_storeCnt_new run_loadCnt_new zk_length run_loadHead run_storeHead run_zeroHead run_storeHead_new run_bHead HasAt_drew cellsAt_drew HasAt_drewN cellsAt_drewN run_bsClus run_loadWr run_zeroWr run_storeWr run_storeWr_new run_bWr0 run_bsWr run_loadPlace run_storePlace run_zeroPlace run_storePlace_new run_bPlace run_loadLst run_storeLst run_zeroLst run_storeLst_new run_storeEnt run_bEnt
attribute [local go_sem] field_head1 field_head0 Oper.semAt_some

/-- A number that tells a cluster whose count is 1 gets its mark. -/
def loneOf (k : List UInt8) (n : Nat) : Nat := if byteAt k (n % 32768) = 1 then n % 32768 + 32768 else n
theorem loneOf_marks (k : List UInt8) : Marks (loneOf k) := by
  intro n hn h0 h6
  unfold loneOf
  split <;> omega

set_option maxHeartbeats 1000000 in
set_option maxRecDepth 100000 in
theorem lone_changes (k : List UInt8) (hk : k.length = 256) (bk M : Nat) (hM : M ≤ 256) : Changes 167 #[.pointer (some ⟨bk, 0, none⟩)] [(bk, .cells (cv k).toArray 123 (0, 0))] (loneOf k) M := by
  intro W n hcb hn h0 hc
  have hb := hcb (bk, .cells (cv k).toArray 123 (0, 0)) (by simp)
  have Hc := hide (cluster_of n hn W)
  have HL : Hid (loneOf k n = if byteAt k (n % 32768) = 1 then n % 32768 + 32768 else n) := rfl
  have c1 : W.cell? ⟨bk, n % 32768, none⟩ = some (.int .u8 (byteAt k (n % 32768) : Nat)) := by rw [cell_blk hb, List.getElem?_toArray, cv_get _ _ (by omega)]
  have Ho := hide (own_of (n % 32768) (by omega) W)
  have hbl := byteAt_lt k (n % 32768)
  have hci : ((n % 32768 : Nat) : Int) < 256 := by omega
  clear hcb hb
  generalize byteAt k (n % 32768) = bb at *
  generalize n % 32768 = cc at *
  by_cases h1 : bb = 1
  · rw [if_pos h1] at HL
    subst h1
    go_enter Tryz.func167, Tryz.ntmps167
    go_wp2_with fail
    refine (unhide Hc).mono ?_
    rintro e w1 ⟨rfl, rfl⟩
    go_wp2_with fail
    refine (unhide Ho).mono ?_
    rintro e w1 ⟨rfl, rfl⟩
    go_wp2
    go_ret
    exact ⟨by rw [unhide HL]; rfl, rfl⟩
  · rw [if_neg h1] at HL
    have d1 : (((bb : Nat) : Int) == 1) = false := by rw [beq_eq_false_iff_ne]; omega
    go_enter Tryz.func167, Tryz.ntmps167
    go_wp2_with fail
    refine (unhide Hc).mono ?_
    rintro e w1 ⟨rfl, rfl⟩
    go_wp2
    go_ret
    exact ⟨by rw [unhide HL]; rfl, rfl⟩

def FirstOK (V : VolR) (t : Nat) : Prop := TabOK V t ∧ NumsOK (TabOK V) V.C t
theorem SameNum.tabOKs {A B : VolR} (h : SameNum A B) (k : SameNum B A) : TabOK B = TabOK A := by
  funext t
  exact propext ⟨fun x => k.tabOK x, fun x => h.tabOK x⟩
theorem SameNum.symm {A B : VolR} (h : SameNum A B) : SameNum B A := ⟨h.len.symm, fun t ht => (h.low t ht).symm, fun t i hi => (h.zero t i hi).symm, fun t i hi => (h.same t i hi).symm⟩
theorem SameNum.firstOK {A B : VolR} (h : SameNum A B) {t : Nat} (ht : FirstOK A t) : FirstOK B t := by
  unfold FirstOK
  rw [h.tabOKs h.symm]
  exact ⟨ht.1, h.ok ht.2⟩
theorem tabs_ok {V : VolR} {f : Nat} (hf : FirstOK V f) : ∀ t ∈ tabsOf V f, TabOK V t := by
  intro t ht
  unfold tabsOf at ht
  rcases List.mem_cons.1 ht with rfl | ht
  · exact hf.1
  · unfold toldBy at ht
    obtain ⟨n, hn, rfl⟩ := List.mem_map.1 ht
    obtain ⟨hn1, hn2⟩ := List.mem_filter.1 hn
    obtain ⟨i, hi, rfl⟩ := List.mem_iff_getElem.1 hn1
    have := (hf.2 i).2
    rw [List.getD_eq_getElem?_getD, List.getElem?_eq_getElem hi] at this
    exact this (by simpa using hn2)
def loneV (k : List UInt8) (V : VolR) (fs : List Nat) : VolR := fs.foldl (fun V f => renumV (loneOf k) V (tabsOf V f)) V
theorem loneV_snoc (k : List UInt8) (V : VolR) (fs : List Nat) (f : Nat) : loneV k V (fs ++ [f]) = renumV (loneOf k) (loneV k V fs) (tabsOf (loneV k V fs) f) := by simp [loneV]
theorem loneV_same (k : List UInt8) : ∀ (fs : List Nat) (V : VolR), (∀ f ∈ fs, FirstOK V f) → SameNum V (loneV k V fs)
  | [], V, _ => SameNum.refl V
  | f :: fs, V, h => by
    have h1 := renumV_same (loneOf_marks k) (tabsOf V f) V (tabs_ok (h f (by simp)))
    exact h1.trans (loneV_same k fs _ (fun x hx => h1.firstOK (h x (by simp [hx]))))
theorem loneV_lenL (k : List UInt8) : ∀ (fs : List Nat) (V : VolR), (loneV k V fs).L.length ≤ V.L.length + 66 * fs.length
  | [], _ => by simp [loneV]
  | f :: fs, V => by
    have h1 := renumV_lenL (loneOf k) (tabsOf V f) V
    have h2 := loneV_lenL k fs (renumV (loneOf k) V (tabsOf V f))
    have h3 := tabsOf_len V f
    show (loneV k (renumV (loneOf k) V (tabsOf V f)) fs).L.length ≤ _
    simp only [List.length_cons]
    omega
def markLoneV (V : VolR) : VolR := loneV (cntsOf V.C) V (firstsOf V)

set_option maxHeartbeats 4000000 in
set_option maxRecDepth 100000 in
theorem markLone_in (w : World) (v : Nat) (Cv Lv : Value) (V : VolR) (h : VolAt w v Cv Lv V) (h5 : 5 < V.C.length) (hC : V.C.length ≤ 256) (hL : V.L.length ≤ 700000000) (hF : ∀ f ∈ firstsOf V, FirstOK V f) :
    CallsIn Fence.wide 100 Tryz.prog 114 #[.pointer (some ⟨v, 0, none⟩)] w fun e w' => e = .returned (.tuple #[]) ∧ ∃ C1 L1, VStep w w' v Cv Lv C1 L1 (markLoneV V) := by
  have E0 := (Env.start h).lay (.cells #[.pointer (some ⟨v, 0, none⟩)] 82)
  have c0 : (w.alloc (.cells #[.pointer (some ⟨v, 0, none⟩)] 82)).cell? ⟨w.heap.size, 0, none⟩ = some (.pointer (some ⟨v, 0, none⟩)) := (cell_blk E0.o0 0).trans rfl
  have Hc := hide (counts_vol _ v Cv Lv V E0.at' (by omega))
  have hkl := cntsOf_length V.C h.lenC (by omega)
  have HV : Hid (markLoneV V = loneV (cntsOf V.C) V (firstsOf V)) := rfl
  have E0 := hide E0
  clear h
  generalize cntsOf V.C = k at *
  refine callsIn_of_wp_marks Tryz.func114 rfl trivial ?_ rfl
  simp only [Tryz.ntmps114, List.size_toArray, List.length_cons, List.length_nil, Nat.reduceAdd, Nat.reduceSub, Array.replicate_succ, Array.replicate_zero, List.push_toArray, List.append_toArray, List.nil_append, List.cons_append]
  gi_wp2_with fail
  refine ⟨trivial, (callsIn_wide.2 (unhide Hc)).mono ?_⟩
  rintro e W1 ⟨rfl, hb1⟩
  have E1 := ((unhide E0).later hb1).lay (.cells (cv k).toArray 123)
  have E1' := E1.lay (.cells #[.nilFunc] 206)
  simp only [World.size_alloc] at E1'
  have c189 : ((W1.alloc (.cells (cv k).toArray 123)).alloc (.cells #[.nilFunc] 206)).cell? ⟨W1.heap.size + 1, 0, none⟩ = some .nilFunc := (cell_blk E1'.o0 0).trans rfl
  have f189 := frozen_blk E1'.o0
  have E2 := E1'.put (o' := .cells #[.func (.func 167) #[] #[.pointer (some ⟨W1.heap.size, 0, none⟩)]] 206 (0, 0)) (by
    intro y hy
    simp only [List.mem_cons, List.not_mem_nil, or_false] at hy
    have h1 := blk_lt (unhide E0).o0
    have h2 := hb1.size
    rcases hy with rfl | rfl
    · dsimp only; omega
    · dsimp only; omega) (Kept.only _ (W1.heap.size + 1) 0 (.func (.func 167) #[] #[.pointer (some ⟨W1.heap.size, 0, none⟩)])) (heap_setCell_same _ _ _ _ _ _ _ E1'.o0)
  generalize hW2 : World.setCell _ ⟨W1.heap.size + 1, 0, none⟩ (.func (.func 167) #[] #[.pointer (some ⟨W1.heap.size, 0, none⟩)]) = W2 at E2
  have hst : (store ⟨W1.heap.size + 1, 0, none⟩ (.func (.func 167) #[] #[.pointer (some ⟨W1.heap.size, 0, none⟩)])).run Tryz.prog ((W1.alloc (.cells (cv k).toArray 123)).alloc (.cells #[.nilFunc] 206)) = .ok () W2 := by
    rw [run_store Tryz.prog _ _ _ _ rfl, c189]
    simp [f189, hW2]
  have c2 : W2.cell? ⟨w.heap.size, 0, none⟩ = some (.pointer (some ⟨v, 0, none⟩)) := (cell_blk E2.o2 0).trans rfl
  have Hm := hide (firsts_make W2 v)
  have E3 := hide (E2.lay (.cells #[.pointer (some ⟨v, 0, none⟩)] 82))
  clear E2 E1'
  clear E1 Hc E0 c0 hb1
  gi_wp2_with fail
  refine ⟨trivial, (callsIn_wide.2 (unhide Hm)).mono ?_⟩
  rintro e W2' ⟨rfl, rfl⟩
  gi_wp2_with fail
  clear c2 Hm hW2 c189 f189 hst
  generalize W2.alloc (.cells #[.pointer (some ⟨v, 0, none⟩)] 82) = W3 at *
  have hs3 : w.heap.size ≤ W3.heap.size := (unhide E3).step.kept.size
  have hFA := firsts_all (Pc := FirstOK V) 99 (by omega) (fun _ => False) v (W2.heap.size) (W3.heap.size + 2) V Cv Lv W3 (unhide E3).at' (unhide E3).o0 id (unhide E3).n0 (fun _ h => False.elim h) h5 hF
  have E4 := hide ((unhide E3).sub (cs := [(W1.heap.size + 1, .cells #[.func (.func 167) #[] #[.pointer (some ⟨W1.heap.size, 0, none⟩)]] 206 (0, 0)), (W1.heap.size, .cells (cv k).toArray 123 (0, 0)), (w.heap.size, .cells #[.pointer (some ⟨v, 0, none⟩)] 82 (0, 0))]) (by simp))
  clear E3
  refine range_all (by omega) (gf := 173) (lb := #[.pointer (some ⟨W2.heap.size, 0, none⟩)]) rfl (enters_of Tryz.func173 (by kernel_rfl) rfl) hFA
    (fun A B C h k => KeepV.trans (R := SameNum) (fun _ _ _ a b => a.trans b) h k) (fun W o o' hl hc => KeepV.turn SameNum.refl W _ o o' hl hc (by omega)) (Below.refl _ _) (fun _ => rfl)
    (fun pre W' => ∃ C1 L1, Env w W' v Cv Lv C1 L1 (loneV k V (pre.map (·.1))) [(W1.heap.size + 1, .cells #[.func (.func 167) #[] #[.pointer (some ⟨W1.heap.size, 0, none⟩)]] 206 (0, 0)), (W1.heap.size, .cells (cv k).toArray 123 (0, 0)), (w.heap.size, .cells #[.pointer (some ⟨v, 0, none⟩)] 82 (0, 0))])
    (fun _ _ _ _ hs hg hr => by obtain ⟨C1, L1, hE⟩ := hs; exact ⟨C1, L1, Env.turned hE hs3 (by simp [Obj.isCells]) hg hr⟩)
    ⟨Cv, Lv, unhide E4⟩
    (fun x a' _ => a' = { tmps := #[.pointer (some ⟨v, 0, none⟩), .pointer (some ⟨w.heap.size, 0, none⟩), .pointer (some ⟨W1.heap.size, 0, none⟩), .pointer (some ⟨W1.heap.size + 1, 0, none⟩), .int .i64 ((x.1 : Nat) : Int), .pointer (some ⟨v, 0, none⟩), .agg (cv k).toArray, .func (.func 167) #[] #[.pointer (some ⟨W1.heap.size, 0, none⟩)], .pointer (some ⟨v, 0, none⟩), .func (.func 173) #[] #[.pointer (some ⟨W2.heap.size, 0, none⟩)], .int .i64 ((x.1 : Nat) : Int), undef, undef, undef, undef], defers := [] })
    (fun _ _ _ _ _ _ hs _ _ => hs)
    ?assign ?body ?done
  case assign =>
    rintro l pre x W' K hi hK
    gi_wp2
    exact hK _ _ (KeepsFrom.refl _ _) (KeepV.below SameNum.refl (Below.refl _ _)) hi rfl
  case done =>
    rintro D ys W' hD hS ⟨C1, L1, hE⟩ hK
    gi_wp2
    refine ⟨by simp, .inl ⟨_, _, rfl, run_takeDeferred hK, ?_⟩⟩
    have hg := grownBy_putObj' W' D (.deferred none)
    have hk : Kept (fun k => k = D) W' (W'.putObj D (.deferred none)) := ⟨hg.os, hg.tape, hg.output, hg.size, fun k hk hs => hg.block k hk (fun e => hs (by injection e))⟩
    refine ⟨_, results_none rfl _ _ _, rfl, C1, L1, ?_⟩
    rw [unhide HV, ← hS]
    exact hE.step.own hk (by rintro k rfl; exact ⟨by omega, hE.at'.notCells hK rfl⟩)
  case body =>
    rintro l pre x a' W hl ⟨r, hr⟩ ⟨C1, L1, hE⟩ rfl hlen
    have hall : ∀ t ∈ pre.map (·.1), FirstOK V t := by
      intro t ht
      obtain ⟨y, _, rfl⟩ := List.mem_map.1 ht
      exact y.2
    have hS1 := loneV_same k (pre.map (·.1)) V hall
    have hlL := loneV_lenL k (pre.map (·.1)) V
    rw [List.length_map] at hlL
    have hx1 := hS1.firstOK x.2
    have hsn2 : loneV k V (pre.unattach ++ [x.1]) = renumV (loneOf k) (loneV k V (pre.map (·.1))) (tabsOf (loneV k V (pre.map (·.1))) x.1) := loneV_snoc k V (pre.map fun y : UM (FirstOK V) => y.1) x.1
    have hS2 := renumV_same (loneOf_marks k) (tabsOf (loneV k V (pre.map (·.1))) x.1) _ (tabs_ok hx1)
    have hlen1 : (loneV k V (pre.map (·.1))).C.length = V.C.length := hS1.len
    generalize loneV k V (pre.map (·.1)) = V1 at *
    obtain ⟨x, hxo⟩ := x
    dsimp only at *
    have c0 : W.cell? ⟨w.heap.size, 0, none⟩ = some (.pointer (some ⟨v, 0, none⟩)) := (cell_blk hE.o2 0).trans rfl
    have c1 : W.cell? ⟨W1.heap.size + 1, 0, none⟩ = some (.func (.func 167) #[] #[.pointer (some ⟨W1.heap.size, 0, none⟩)]) := (cell_blk hE.o0 0).trans rfl
    have Hr := hide (callsIn_wide.1 (renumber_in W v C1 L1 V1 hE.at' x hx1.1 hx1.2 (by omega) (by omega) 167 #[.pointer (some ⟨W1.heap.size, 0, none⟩)] [(W1.heap.size, .cells (cv k).toArray 123 (0, 0))] (loneOf k) (loneOf_marks k) (lone_changes k hkl W1.heap.size _ (by omega)) (enters_of Tryz.func167 (by kernel_rfl) rfl) (by
      intro y hy
      simp only [List.mem_cons, List.not_mem_nil, or_false] at hy
      subst hy
      exact ⟨hE.o1, hE.n1⟩)))
    have HE := hide hE
    clear hE hFA E4
    gi_wp2_with fail
    refine ⟨trivial, (CallsIn.inRound l (callsIn_wide.2 (unhide Hr))).mono ?_⟩
    rintro e W5 ⟨rfl, C5, L5, hS5⟩
    gi_wp2
    refine ⟨VStep.from (unhide HE).at' hS5 _, KeepV.step (unhide HE).at' hS5 hS2, C5, L5, ?_⟩
    first
      | exact (unhide HE).does hS5
      | (rw [hsn2]; exact (unhide HE).does hS5)
end Go.Proofs.YtknjjjenklfeoaaGreatDoor

/-
  The program's letGo.
-/
namespace Go.Proofs.YtknjjjenklfeoaaGreatDoor
open Go.RowKit Go.Shelf
attribute [local go_sem ↓] loadVar_clus storeVar_clus zeroValue_clus loadVar_tab storeVar_tab zeroValue_tab loadVar_cnt storeVar_cnt zeroValue_cnt loadVar_head storeVar_head zeroValue_head build_head buildSlice_clus loadVar_wr storeVar_wr zeroValue_wr build_wr buildSlice_wr equalIn_clus loadVar_place storeVar_place zeroValue_place build_place loadVar_lst storeVar_lst zeroValue_lst storeVar_ent build_ent
attribute [local go_sem] run_loadClus run_storeClus run_zeroClus run_storeClus_new run_loadClus_new zc_length run_loadTab run_storeTab run_zeroTab run_storeTab_new run_loadTab_new zt_length run_loadCnt run_storeCnt run_zeroCnt run_storeCnt_new run_loadCnt_new zk_length run_loadHead run_storeHead run_zeroHead run_storeHead_new run_bHead HasAt_drew cellsAt_drew HasAt_drewN cellsAt_drewN run_bsClus run_loadWr run_zeroWr run_storeWr run_storeWr_new run_bWr0 run_bsWr run_loadPlace run_storePlace run_zeroPlace run_storePlace_new run_bPlace run_loadLst run_storeLst run_zeroLst run_storeLst_new run_storeEnt run_bEnt
attribute [local go_sem] field_head1 field_head0 Oper.semAt_some

def minus1 (k : List UInt8) (n : Nat) : List UInt8 := k.set n (UInt8.ofNat ((byteAt k n + 255) % 256))
def minus (k : List UInt8) (us : List Nat) : List UInt8 := us.foldl minus1 k
theorem minus_snoc (k : List UInt8) (us : List Nat) (u : Nat) : minus k (us ++ [u]) = minus1 (minus k us) u := by simp [minus]
theorem minus_length (k : List UInt8) (us : List Nat) : (minus k us).length = k.length := by
  unfold minus
  induction us generalizing k with
  | nil => rfl
  | cons a r ih => simp only [List.foldl_cons]; rw [ih]; simp [minus1]
def letGoV1 (V : VolR) (us : List Nat) : VolR := flushV (putCnt V (minus (cntsOf V.C) us) 4)
def letGoV (V : VolR) (us : List Nat) : VolR := flushV (markLoneV (letGoV1 V us))
theorem putCnt_lenC' (V : VolR) (k : List UInt8) (h5 : 5 ≤ V.C.length) : (putCnt V k 4).C.length = V.C.length := by
  simp only [putCnt, putV_lenC]; omega
theorem SeqStopsK.all {α : Type} {n gf : Nat} {lb : Array Value} {encs : α → Array Value} {Kp : World → World → Prop} {S Sp : List α → Prop} {N B : Nat} {w : World} (h : SeqStopsK Fence.wide n Tryz.prog gf lb encs Kp S Sp N w) : SeqAll n gf lb encs Kp S N B w :=
  fun l J W hW _ hJ hY h0 => (h l J (fun _ _ => False) W hW (fun s A B row hs hg hr => hJ s A B row hs hg (fun r e => ⟨(hr r e).1, by obtain ⟨_, o, ho, hw⟩ := hr r e; exact ⟨o, ho, Obj.not_cells_of_walk hw⟩⟩)) (fun _ _ _ _ hs _ _ => hs)
    (fun pre x W1 hJ1 hl => yield_mono (hY pre x W1 hJ1 hl) (fun e W' hx => Or.inl hx)) h0).mono (by
    rintro e W' ⟨h1, h2 | ⟨pre, _, h3⟩⟩
    · exact ⟨h1, h2⟩
    · exact h3.elim)
def valsU (pre : List U256) : List Nat := pre.map fun y => y.1
theorem valsU_snoc (pre : List U256) (x : U256) : valsU (pre ++ [x]) = valsU pre ++ [x.1] := by simp [valsU]
/-- One more block beside a volume: one that is no cells. -/
theorem Env.beside {w W : World} {v D : Nat} {o : Obj} {Cv Lv C1 L1 : Value} {V : VolR} {bs : List (Nat × Obj)} (h : Env w W v Cv Lv C1 L1 V bs) (hD : W.heap[D]? = some o) (hw : w.heap.size ≤ D) (ho : o.isCells = false) : Env w W v Cv Lv C1 L1 V ((D, o) :: bs) :=
  ⟨h.step, fun x hx => by
    rcases List.mem_cons.1 hx with rfl | hx
    · exact ⟨hD, hw, h.at'.notCells hD ho⟩
    · exact h.objs x hx⟩

/-- The volume is the same. -/
def EqV (a b : VolR) : Prop := a = b

set_option maxHeartbeats 1000000 in
set_option maxRecDepth 100000 in
theorem letGo_in (w : World) (v : Nat) (Cv Lv : Value) (V : VolR) (h : VolAt w v Cv Lv V) (h5 : 5 < V.C.length) (hC : V.C.length ≤ 256) (hL : V.L.length ≤ 600000000)
    (gf : Nat) (lb : Array Value) (us : List Nat) (N : Nat) (eg : ∀ args w, (callFunc gf args).run Tryz.prog w = .ok (.enter gf args) w)
    (hseq : ∀ (X : Nat → Prop) (B : Nat), (∀ k, X k → w.heap.size ≤ k ∧ k < B) → SeqAll 99 gf lb (fun u : U256 => #[Value.int .i64 ((u.1 : Nat) : Int)]) (KeepV X (fun k => B ≤ k) v EqV) (fun ys => ys.map (·.1) = us) N B w)
    (hF : ∀ f ∈ firstsOf (letGoV1 V us), FirstOK (letGoV1 V us) f) :
    CallsIn Fence.wide 100 Tryz.prog 110 #[.pointer (some ⟨v, 0, none⟩), .func (.func gf) #[] lb] w fun e w' => e = .returned (.tuple #[]) ∧ ∃ C1 L1, VStep w w' v Cv Lv C1 L1 (letGoV V us) := by
  have Hc := hide (counts_vol w v Cv Lv V h (by omega))
  have hcl := cntsOf_length V.C h.lenC (by omega)
  have HV : Hid (letGoV1 V us = flushV (putCnt V (minus (cntsOf V.C) us) 4)) := rfl
  have HV2 : Hid (letGoV V us = flushV (markLoneV (letGoV1 V us))) := rfl
  have H := hide h
  clear h
  generalize cntsOf V.C = k at *
  refine callsIn_of_wp_marks Tryz.func110 rfl trivial ?_ rfl
  simp only [Tryz.ntmps110, List.size_toArray, List.length_cons, List.length_nil, Nat.reduceAdd, Nat.reduceSub, Array.replicate_succ, Array.replicate_zero, List.push_toArray, List.append_toArray, List.nil_append, List.cons_append]
  gi_wp2_with fail
  refine ⟨trivial, (callsIn_wide.2 (unhide Hc)).mono ?_⟩
  rintro e w1 ⟨rfl, hb1⟩
  have E1 := ((Env.start (unhide H)).later hb1).lay (.cells (cv k).toArray 123)
  have HB0 : Hid (Below w.heap.size w (w1.alloc (.cells (cv k).toArray 123))) := hb1.alloc hb1.size _
  have hw1 := hb1.size
  have E1 := hide E1
  clear Hc hb1
  gi_wp2_with fail
  have hsz : (w1.alloc (.cells (cv k).toArray 123)).heap.size = w1.heap.size + 1 := by simp
  generalize w1.alloc (.cells (cv k).toArray 123) = W1 at *
  refine range_all (by omega) (gf := gf) (lb := lb) rfl eg (hseq (fun k => k = w1.heap.size) (W1.heap.size + 2) (by rintro k rfl; exact ⟨hw1, by omega⟩))
    (fun A B C h k => KeepV.trans (R := EqV) (fun _ _ _ a b => Eq.trans a b) h k) (fun W o o' hl hc => KeepV.turn (R := EqV) (fun _ => rfl) W _ o o' hl hc (by omega)) (unhide HB0) (fun _ => rfl)
    (fun pre W => Env w W v Cv Lv Cv Lv V [(w1.heap.size, .cells (cv (minus k (valsU pre))).toArray 123 (0, 0))])
    (fun _ _ _ _ hs hg hr => Env.turned hs (by omega) (by simp [Obj.isCells]) hg hr)
    (unhide E1)
    (fun x a' _ => a' = { tmps := #[.pointer (some ⟨v, 0, none⟩), .func (.func gf) #[] lb, undef, undef, .pointer (some ⟨w1.heap.size, 0, none⟩), .int .i64 ((x.1 : Nat) : Int), .pointer (some ⟨v, 0, none⟩), .agg (cv k).toArray, .func (.func gf) #[] lb, .int .i64 ((x.1 : Nat) : Int), undef, undef, undef, undef, undef, undef, undef, undef, undef, undef, undef, undef, undef, undef, undef, undef, undef, undef], defers := [] })
    (fun _ _ _ _ _ _ hs _ _ => hs) ?assign ?body ?done
  case assign =>
    rintro l pre x W' K hi hK
    gi_wp2
    exact hK _ _ (KeepsFrom.refl _ _) (KeepV.below (R := EqV) (fun _ => rfl) (Below.refl _ _)) hi rfl
  case body =>
    rintro l pre ⟨x, hx⟩ a' W hl _ hE rfl hpl
    have hml : (minus k (valsU pre)).length = 256 := by rw [minus_length]; exact hcl
    have hxi : (x : Int) < 256 := by omega
    have hms : minus k (valsU (pre ++ [⟨x, hx⟩])) = minus1 (minus k (valsU pre)) x := by rw [valsU_snoc, minus_snoc]
    generalize minus k (valsU pre) = kk at *
    have c1 : W.cell? ⟨w1.heap.size, x, none⟩ = some (.int .u8 (byteAt kk x : Nat)) := by
      rw [cell_blk hE.o0, List.getElem?_toArray, cv_get _ _ (by omega)]
    have f1 := frozen_blk hE.o0
    have hbl := byteAt_lt kk x
    have hwr : IntKind.u8.wrap (((byteAt kk x : Nat) : Int) - 1) = (((byteAt kk x + 255) % 256 : Nat) : Int) := by
      rw [IntKind.wrap_u8]; omega
    have E3 := hE.put (by simp) (Kept.only _ w1.heap.size x (.int .u8 (((byteAt kk x + 255) % 256 : Nat) : Int))) (heap_setCell_same _ _ _ _ _ _ _ hE.o0)
    have hset : (cv kk).toArray.setIfInBounds x (.int .u8 (((byteAt kk x + 255) % 256 : Nat) : Int)) = (cv (minus1 kk x)).toArray := by
      rw [List.setIfInBounds_toArray, minus1, cv_setB kk x _ (Nat.mod_lt _ (by omega))]
    rw [hset, ← hms] at E3
    have K3 : KeepV (fun k => k = w1.heap.size) (fun k => W1.heap.size + 2 ≤ k) v EqV W (W.setCell ⟨w1.heap.size, x, none⟩ (.int .u8 (((byteAt kk x + 255) % 256 : Nat) : Int))) :=
      KeepV.own hE.at' (Kept.only _ _ _ _) (by rintro k rfl; exact ⟨rfl, hE.n0, _, hE.o0, rfl⟩) rfl
    have HE := hide E3
    have K3 := hide K3
    clear E3 hE hset hms
    generalize byteAt kk x = bb at *
    generalize (bb + 255) % 256 = b2 at *
    clear hsz
    gi_wp2
    first
      | exact ⟨(KeepsOthers.setCell _ _ _).from _, unhide K3, unhide HE⟩
      | exact ⟨(KeepsOthers.setCell _ _ _).from _, unhide HE⟩
  case done =>
    rintro D ys W hD hS hE hK
    have hS' : valsU ys = us := hS
    rw [hS'] at hE
    have hml : (minus k us).length = 256 := by rw [minus_length]; exact hcl
    have l1 := blk_has hE.o0 (n := 256) (by rw [cv_length, hml])
    have l2 := blk_cells hE.o0 (n := 256) (by rw [cv_length, hml])
    have hDw : w.heap.size ≤ D := by omega
    have F1 := hide ((hE.sub (cs := []) (by simp)).beside hK hDw rfl)
    have Hp := hide (putCounts_any W v Cv Lv V hE.at' (minus k us) hml (by omega) (by omega))
    have hlC := putCnt_lenC' V (minus k us) (by omega)
    have hlL := putCnt_lenL V (minus k us) 4
    have hlL2 := flushV_lenL (putCnt V (minus k us) 4)
    have hfc : (flushV (putCnt V (minus k us) 4)).C.length = V.C.length := by rw [flushV_C]; exact hlC
    rw [← unhide HV] at hlL2 hfc
    have HV1 := HV
    clear hE hK hseq E1
    generalize putCnt V (minus k us) 4 = V2 at *
    generalize minus k us = k2 at *
    gi_wp2_with fail
    refine ⟨trivial, (callsIn_wide.2 (unhide Hp)).mono ?_⟩
    rintro e W2 ⟨rfl, C2, L2, hS2⟩
    have F2 := hide ((unhide F1).does hS2)
    clear hS2 F1 Hp l1 l2
    gi_wp2_with fail
    refine ⟨trivial, (callsIn_wide.2 (flush_any W2 v C2 L2 V2 (unhide F2).at' (by omega))).mono ?_⟩
    rintro e W3 ⟨rfl, C3, L3, hS3⟩
    rw [← unhide HV1] at hS3
    have F3 := hide ((unhide F2).does hS3)
    clear hS3 F2
    have hlm := loneV_lenL (cntsOf (letGoV1 V us).C) (firstsOf (letGoV1 V us)) (letGoV1 V us)
    have hfl : (firstsOf (letGoV1 V us)).length ≤ 5 := by
      unfold firstsOf picFirsts
      have := lenOf_le (entsOf (cl (letGoV1 V us).C 5))
      simp only [List.length_cons, List.length_map, List.length_take]
      omega
    have hml2 : (markLoneV (letGoV1 V us)).L.length ≤ 700000000 := by unfold markLoneV; omega
    generalize letGoV1 V us = V3 at *
    gi_wp2_with fail
    refine ⟨trivial, (callsIn_wide.2 (callsIn_wide.1 (markLone_in W3 v C3 L3 V3 (unhide F3).at' (by omega) (by omega) (by omega) hF))).mono ?_⟩
    rintro e W4 ⟨rfl, C4, L4, hS4⟩
    have F4 := hide ((unhide F3).does hS4)
    clear hS4 F3
    gi_wp2_with fail
    refine ⟨trivial, (callsIn_wide.2 (flush_any W4 v C4 L4 (markLoneV V3) (unhide F4).at' (by omega))).mono ?_⟩
    rintro e W5 ⟨rfl, C5, L5, hS5⟩
    have F5 := (unhide F4).does hS5
    have hK5 := F5.o0
    gi_wp2
    refine ⟨by simp, .inl ⟨_, _, rfl, run_takeDeferred hK5, ?_⟩⟩
    have hg := grownBy_putObj' W5 D (.deferred none)
    have hk : Kept (fun k => k = D) W5 (W5.putObj D (.deferred none)) := ⟨hg.os, hg.tape, hg.output, hg.size, fun k hk hs => hg.block k hk (fun e => hs (by injection e))⟩
    refine ⟨_, results_none rfl _ _ _, rfl, C5, L5, ?_⟩
    rw [unhide HV2]
    exact F5.step.own hk (by rintro k rfl; exact ⟨hDw, F5.n0⟩)

theorem letsGo_any (v : Nat) (V : VolR) (h5 : 5 < V.C.length) (hC : V.C.length ≤ 256) (hL : V.L.length ≤ 600000000) (ns : List Nat) (hns : ∀ m ∈ ns, m < 65536 ∧ m % 32768 < 256) (hnl : ns.length ≤ 100) (hF : ∀ f ∈ firstsOf (letGoV1 V (toldBy ns)), FirstOK (letGoV1 V (toldBy ns)) f) (W : World) (C1 L1 : Value) (bx bs : Nat)
    (hV : VolAt W v C1 L1 V) (hbx : W.heap[bx]? = some (.cells #[.slice (some ⟨bs, 0, none⟩) ns.length ns.length] 260 (0, 0))) (hbs : W.heap[bs]? = some (.cells (tv ns).toArray 167 (0, 0))) (hf : ¬ foot v C1 L1 bs) :
    Calls Tryz.prog 110 #[.pointer (some ⟨v, 0, none⟩), .func (.func 179) #[] #[.pointer (some ⟨bx, 0, none⟩)]] W fun e w' => e = .returned (.tuple #[]) ∧ ∃ C2 L2, VStep W w' v C1 L1 C2 L2 (letGoV V (toldBy ns)) :=
  callsIn_wide.1 (letGo_in W v C1 L1 V hV h5 hC hL 179 #[.pointer (some ⟨bx, 0, none⟩)] (toldBy ns) ns.length (enters_of Tryz.func179 (by kernel_rfl) rfl)
    (fun X B hX => SeqStopsK.all (clusters_stops 99 (by omega) X (fun k => B ≤ k) EqV v bx bs ns.length ns hns hnl V C1 L1 W hV hbx hbs (fun hx => by have := (hX _ hx).1; have := blk_lt hbs; omega) hf)) hF)
end Go.Proofs.YtknjjjenklfeoaaGreatDoor
