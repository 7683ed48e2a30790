import Derived.Test.YtknjjjenklfeoaaGreatDoorP38
import Derived.RangeFuncNested
import Derived.RangeFuncBound
import Derived.RangeFuncCalls
import Derived.RangeFuncLeaves
import Derived.Shelf.Abstract
import Derived.Shelf.RegionOpen
import Derived.WalkKit
import Derived.OwnWalkIn
import Derived.TacticsInMore
import Derived.LoopNIn
import Derived.LoopIn
import Derived.Test.YtknjjjenklfeoaaGreatDoorP30
/-
  The program's iterator over the first tables, where a round may end the loop.
-/
namespace Go.Proofs.YtknjjjenklfeoaaGreatDoor
open Go.RowKit Go.Shelf
attribute [local go_sem ↓] loadVar_clus storeVar_clus zeroValue_clus loadVar_tab storeVar_tab zeroValue_tab loadVar_cnt storeVar_cnt zeroValue_cnt loadVar_head storeVar_head zeroValue_head build_head buildSlice_clus loadVar_wr storeVar_wr zeroValue_wr build_wr buildSlice_wr equalIn_clus loadVar_place storeVar_place zeroValue_place build_place loadVar_lst storeVar_lst zeroValue_lst storeVar_ent build_ent
attribute [local go_sem] run_loadClus run_storeClus run_zeroClus run_storeClus_new run_loadClus_new zc_length run_loadTab run_storeTab run_zeroTab run_storeTab_new run_loadTab_new zt_length run_loadCnt run_storeCnt run_zeroCnt run_storeCnt_new run_loadCnt_new zk_length run_loadHead run_storeHead run_zeroHead run_storeHead_new run_bHead HasAt_drew cellsAt_drew HasAt_drewN cellsAt_drewN run_bsClus run_loadWr run_zeroWr run_storeWr run_storeWr_new run_bWr0 run_bsWr run_loadPlace run_storePlace run_zeroPlace run_storePlace_new run_bPlace run_loadLst run_storeLst run_zeroLst run_storeLst_new run_storeEnt run_bEnt
attribute [local go_sem] field_head1 field_head0 Oper.semAt_some
attribute [local go_sem ↓] loadVar_ent zeroValue_ent
attribute [local go_sem] run_loadEnt run_zeroEnt run_storeEnt_new
set_option maxHeartbeats 4000000 in
set_option maxRecDepth 100000 in
theorem firsts_any {Pc : Nat → Prop} (n : Nat) (hn : 10 ≤ n) (X : Nat → Prop) (v bv B : Nat) (V : VolR) (Cv Lv : Value) (w : World) (hV : VolAt w v Cv Lv V)
    (hbv : w.heap[bv]? = some (.cells #[.pointer (some ⟨v, 0, none⟩)] 82 (0, 0))) (hXv : ¬ X bv) (hfv : ¬ foot v Cv Lv bv)
    (hXB : ∀ k, X k → k < w.heap.size) (h5 : 5 < V.C.length) (hP : ∀ t ∈ firstsOf V, Pc t) :
    SeqAny n 173 #[.pointer (some ⟨bv, 0, none⟩)] (fun x : UM Pc => #[Value.int .i64 ((x.1 : Nat) : Int)]) (KeepV X (fun k => B ≤ k) v SameNum) (fun ys => ys.map (·.1) = firstsOf V) (fun pre => pre.map (·.1) <+: firstsOf V) 5 B w := by
  intro l J Jx W hW hBW hJ hJx hY h0
  have B0 : Besides X v [(bv, .cells #[.pointer (some ⟨v, 0, none⟩)] 82 (0, 0))] (SameNum V) W := by
    refine ⟨⟨Cv, Lv, V, hV.below hW, SameNum.refl V, ?_⟩, ?_, ?_, ?_⟩
    · intro x hx; simp only [List.mem_cons, List.not_mem_nil, or_false] at hx; subst hx; exact hfv
    · intro x hx; simp only [List.mem_cons, List.not_mem_nil, or_false] at hx; subst hx; exact (hW.block _ (blk_lt hbv)).trans hbv
    · intro x hx; simp only [List.mem_cons, List.not_mem_nil, or_false] at hx; subst hx; rfl
    · intro x hx; simp only [List.mem_cons, List.not_mem_nil, or_false] at hx; subst hx; exact hXv
  have hXW : ∀ k, W.heap.size ≤ k → ¬ X k := fun k hk hx => by have := hXB _ hx; have := hW.size; omega
  have c1 : W.cell? ⟨bv, 0, none⟩ = some (.pointer (some ⟨v, 0, none⟩)) := (cell_blk B0.b0 0).trans rfl
  have Hh := hide (head_vol W v Cv Lv V (hV.below hW) (by omega))
  have hP0 : Pc (num (cl V.C 0) 6) := hP _ (by simp [firstsOf])
  have B0 := hide B0
  refine callsIn_of_wp Tryz.func173 rfl trivial ?_ rfl
  simp only [Tryz.ntmps173, List.size_toArray, List.length_cons, List.length_nil, Nat.reduceAdd, Nat.reduceSub, Array.replicate_succ, Array.replicate_zero, List.push_toArray, List.append_toArray, List.nil_append, List.cons_append]
  gi_wp2_with fail
  refine ⟨trivial, fun _ => by omega, (callsIn_wide.2 (unhide Hh)).mono ?_⟩
  rintro e W1 ⟨rfl, hb1⟩
  have B1 := (unhide B0).below hb1
  have hJ1 : J [] W1 := hJ [] W W1 none h0 ⟨hb1.os, hb1.tape, hb1.output, hb1.size, fun k hk _ => hb1.block k hk⟩ (fun r e => by cases e)
  obtain ⟨fn, tmps, assign, body, hy, hR⟩ := hY [] ⟨num (cl V.C 0) 6, hP0⟩ W1 hJ1 (by simp)
  dsimp only at hy
  have B1 := hide B1
  have hw1 := hb1.size
  clear Hh B0 hb1 h0 c1 hbv
  gi_wp2_with fail
  refine ⟨fun _ => by omega, hR.mono ?_⟩
  rintro e W3 ⟨hK3, (⟨rfl, hJ3⟩ | ⟨rfl, hJx3⟩)⟩
  rotate_left
  · gi_wp2
    refine bodyPost_ret (results_none rfl _ _ _) rfl ?_
    exact ⟨⟨_, rfl⟩, .inr ⟨_, ⟨picFirsts V.C, rfl⟩, hJx3⟩⟩
  have B3 := (unhide B1).keep (fun _ _ a b => SameNum.trans a b) hK3
  obtain ⟨C3, L3, V3, hV3, hS3, hf3⟩ := B3.vol
  have c3 : W3.cell? ⟨bv, 0, none⟩ = some (.pointer (some ⟨v, 0, none⟩)) := (cell_blk B3.b0 0).trans rfl
  have hs3 : W.heap.size ≤ W3.heap.size := by have := hK3.1; omega
  have Hl := hide (list_vol W3 v C3 L3 V3 hV3 (by rw [hS3.len]; exact h5))
  rw [hS3.low 5 (by omega)] at Hl
  have hel := entsOf_length (cl V.C 5)
  have B3 := hide B3
  have HJ3 := hide hJ3
  clear hR hy hJ1 B1 hK3 hJ3 hV3 hf3
  gi_wp2_with fail
  refine ⟨trivial, fun _ => by omega, (callsIn_wide.2 (unhide Hl)).mono ?_⟩
  rintro e W4 ⟨rfl, hb4⟩
  have hs4 : W.heap.size ≤ W4.heap.size := by have := hb4.size; omega
  have B4 := ((unhide B3).below hb4).lay (.cells (lv (entsOf (cl V.C 5))).toArray 144) rfl (hXW _ hs4)
  have hJ4 : J [⟨num (cl V.C 0) 6, hP0⟩] (W4.alloc (.cells (lv (entsOf (cl V.C 5))).toArray 144)) := hJ.alloc _ (hJ _ W3 W4 none (unhide HJ3) ⟨hb4.os, hb4.tape, hb4.output, hb4.size, fun k hk _ => hb4.block k hk⟩ (fun r e => by cases e))
  have B4 := hide (B4.sub (cs := [(W4.heap.size, .cells (lv (entsOf (cl V.C 5))).toArray 144 (0, 0))]) (by simp))
  have l1 := blk_has (unhide B4).b0 (n := 8) (by rw [lv_length, hel])
  have l2 := blk_cells (unhide B4).b0 (n := 8) (by rw [lv_length, hel])
  have Hn := hide (len_any (W4.alloc (.cells (lv (entsOf (cl V.C 5))).toArray 144)) (entsOf (cl V.C 5)) hel)
  have hl4 := lenOf_le (entsOf (cl V.C 5))
  have HJ4 := hide hJ4
  have zll : zl.length = 4 := rfl
  have hPk : ∀ k, k < lenOf (entsOf (cl V.C 5)) → Pc ((entsOf (cl V.C 5)).getD k ze).first := fun k hk => hP _ (List.mem_cons_of_mem _ (picFirsts_get V.C k hk))
  have hfo : firstsOf V = num (cl V.C 0) 6 :: ((entsOf (cl V.C 5)).take (lenOf (entsOf (cl V.C 5)))).map (·.first) := rfl
  have Hfo := hide hfo
  clear Hl HJ3 B3 hb4 c3 hJ4 hP hfo
  generalize entsOf (cl V.C 5) = E at *
  gi_wp2_with fail
  refine ⟨trivial, fun _ => by omega, (callsIn_wide.2 (unhide Hn)).mono ?_⟩
  rintro e W5 ⟨rfl, hb5⟩
  have B5 := hide ((unhide B4).below hb5)
  have HJ5 : Hid (J [⟨num (cl V.C 0) 6, hP0⟩] W5) := hJ _ _ W5 none (unhide HJ4) ⟨hb5.os, hb5.tape, hb5.output, hb5.size, fun k hk _ => hb5.block k hk⟩ (fun r e => by cases e)
  clear Hn HJ4 B4 l1 l2 hb5
  generalize hL0 : lenOf E = L0 at *
  have hli : (L0 : Int) ≤ 4 := by omega
  gi_wp2
  gi_loopw [5, 18] (fun _ i wr => ∃ (k : Nat) (ys : List (UM Pc)), k ≤ L0 ∧ i = .int .i64 k ∧ Besides X v [(W4.heap.size, .cells (lv E).toArray 144 (0, 0))] (SameNum V) wr ∧ ys.map (·.1) = (E.take k).map (·.first) ∧ ys.length = k ∧ J (⟨num (cl V.C 0) 6, hP0⟩ :: ys) wr) (fun _ i _ => L0 - (intOf i).toNat)
  case atStart => exact ⟨0, [], by omega, rfl, unhide B5, rfl, rfl, unhide HJ5⟩
  case round =>
    obtain ⟨k, ys, hk, rfl, hB, hys, hyl, hJk⟩ := hrel
    clear B5 HJ5
    by_cases hlt : k < L0
    · have hki : (k : Int) < (L0 : Int) := by omega
      have hkE : k < E.length := by omega
      have l1 := hasAt_of_range (n := 2) (ent_range hB.b0 k hkE) rfl
      have l2 := cellsAt_of_range (n := 2) (ent_range hB.b0 k hkE) rfl
      have hpk := hPk k (by omega)
      have htk : (E.take (k + 1)).map (·.first) = (E.take k).map (·.first) ++ [(E.getD k ze).first] := by
        rw [List.take_succ_eq_append_getElem hkE, List.map_append, List.getD_eq_getElem?_getD, List.getElem?_eq_getElem hkE]; rfl
      have Htk := hide htk
      generalize E.getD k ze = p at *
      have hJa : J (⟨num (cl V.C 0) 6, hP0⟩ :: ys) (wr.alloc (.cells (ev p).toArray 142)) := hJ.alloc _ hJk
      have hBa := hide (hB.below ((Below.refl _ _).alloc (Nat.le_refl _) (.cells (ev p).toArray 142)))
      have c5 : (wr.alloc (.cells (ev p).toArray 142)).cell? ⟨wr.heap.size, 1, none⟩ = some (.int .i64 (p.first : Nat)) := (cell_new wr _ _ _ 1).trans rfl
      obtain ⟨fn2, tmps2, assign2, body2, hy2, hR2⟩ := hY _ ⟨p.first, hpk⟩ _ hJa (by simp; omega)
      dsimp only at hy2
      clear htk hJk hJa hB
      generalize p.first = pf at *
      gi_wp2
      refine ⟨fun _ => by omega, hR2.mono ?_⟩
      rintro e W6 ⟨hK6, (⟨rfl, hJ6⟩ | ⟨rfl, hJx6⟩)⟩
      rotate_left
      · gi_wp2
        refine bodyPost_ret (results_none rfl _ _ _) rfl ?_
        refine ⟨⟨_, rfl⟩, .inr ⟨_, ?_, hJx6⟩⟩
        rw [unhide Hfo]
        refine ⟨((E.take L0).drop (k + 1)).map (·.first), ?_⟩
        have hsplit : (E.take L0).map (·.first) = (E.take (k + 1)).map (·.first) ++ ((E.take L0).drop (k + 1)).map (·.first) := by
          rw [← List.map_append, show E.take (k + 1) = (E.take L0).take (k + 1) by rw [List.take_take]; congr 1; omega, List.take_append_drop]
        rw [hsplit, unhide Htk, List.cons_append, List.map_cons, List.map_append, hys]
        simp
      have B6 := hide ((unhide hBa).keep (fun _ _ a b => SameNum.trans a b) hK6)
      clear hK6 hBa hR2 hy2
      gi_wp2
      go_roundw
      case rel => exact ⟨k + 1, ys ++ [⟨pf, hpk⟩], by omega, by go_num, unhide B6, by rw [unhide Htk, List.map_append, hys]; rfl, by simp; omega, by rw [List.cons_append] at hJ6; exact hJ6⟩
      case measure => simp [intOf]; omega
    · have hkL : k = L0 := by omega
      subst hkL
      gi_wp2
      go_end0
      exact ⟨⟨_, rfl⟩, .inl ⟨_, by rw [unhide Hfo, List.map_cons, hys], hJk⟩⟩
end Go.Proofs.YtknjjjenklfeoaaGreatDoor

/-
  checkMarks: does no mark stand where it may not?
-/
namespace Go.Proofs.YtknjjjenklfeoaaGreatDoor
open Go.RowKit Go.Shelf
attribute [local go_sem ↓] loadVar_clus storeVar_clus zeroValue_clus loadVar_tab storeVar_tab zeroValue_tab loadVar_cnt storeVar_cnt zeroValue_cnt loadVar_head storeVar_head zeroValue_head build_head buildSlice_clus loadVar_wr storeVar_wr zeroValue_wr build_wr buildSlice_wr equalIn_clus loadVar_place storeVar_place zeroValue_place build_place
attribute [local go_sem] run_loadClus run_storeClus run_zeroClus run_storeClus_new run_loadClus_new zc_length run_loadTab run_storeTab run_zeroTab run_storeTab_new run_loadTab_new zt_length run_loadCnt run_storeCnt run_zeroCnt run_storeCnt_new run_loadCnt_new zk_length run_loadHead run_storeHead run_zeroHead run_storeHead_new run_bHead HasAt_drew cellsAt_drew HasAt_drewN cellsAt_drewN run_bsClus run_loadWr run_zeroWr run_storeWr run_storeWr_new run_bWr0 run_bsWr run_loadPlace run_storePlace run_zeroPlace run_storePlace_new run_bPlace
attribute [local go_sem] field_head1 field_head0 Oper.semAt_some
attribute [local go_sem ↓] build_cnt
attribute [local go_sem] run_bCnt0
def toNs {Pc : Nat → Prop} (s : SpotR Pc) : SpotN := ⟨s.table, s.index, s.number⟩
theorem spFrom_snoc (C : List Clus) (t : Nat) : ∀ m k, spFrom C t (m + 1) k = spFrom C t m k ++ (if nm C t (k + m) = 0 then [] else [⟨t, k + m, nm C t (k + m)⟩])
  | 0, k => by rw [spFrom, spFrom, spFrom, List.append_nil, List.nil_append, Nat.add_zero]
  | m + 1, k => by
    rw [spFrom, spFrom_snoc C t m (k + 1), spFrom, List.append_assoc, show k + 1 + m = k + (m + 1) by omega]
theorem spots_toNTo {Pc : Nat → Prop} (C : List Clus) (t : Nat) (hT : ∀ i, OKN Pc ((numsOf (cl C t)).getD i 0)) : ∀ k hk, (spotsTo t (numsOf (cl C t)) hT k hk).map toNs = spFrom C t k 0
  | 0, _ => rfl
  | k + 1, hk => by
    have ih := spots_toNTo C t hT k (by omega)
    have hg := numsOf_get (cl C t) k (by omega)
    rw [spFrom_snoc, Nat.zero_add]
    by_cases h0 : nm C t k = 0
    · rw [spotsTo_zero t _ hT k hk (by rw [hg]; exact h0), ih, if_pos h0, List.append_nil]
    · rw [spotsTo_some t _ hT k hk (by rw [hg]; exact h0), List.map_append, ih, if_neg h0]
      congr 1
      show [(⟨t, k, (numsOf (cl C t)).getD k 0⟩ : SpotN)] = _
      rw [hg]
theorem spots_toN {Pc : Nat → Prop} (V : VolR) (t : Nat) (hT : NumsOK Pc V.C t) : (spots V t hT).map toNs = spFrom V.C t 32 0 := spots_toNTo V.C t hT 32 (Nat.le_refl _)
def under (C : List Clus) (s : SpotN) : List SpotN := s :: spFrom C (s.number % 32768) 32 0
theorem toldFrom_flat (C : List Clus) (t : Nat) : ∀ m i, toldFrom C t m i = (spFrom C t m i).flatMap (under C)
  | 0, _ => rfl
  | m + 1, i => by
    have e1 : toldFrom C t (m + 1) i = (if nm C t i = 0 then [] else under C ⟨t, i, nm C t i⟩) ++ toldFrom C t m (i + 1) := rfl
    have e2 : spFrom C t (m + 1) i = (if nm C t i = 0 then [] else [⟨t, i, nm C t i⟩]) ++ spFrom C t m (i + 1) := rfl
    rw [e1, e2, toldFrom_flat C t m (i + 1), List.flatMap_append]
    by_cases h0 : nm C t i = 0
    · rw [if_pos h0, if_pos h0, List.flatMap_nil]
    · rw [if_neg h0, if_neg h0, List.flatMap_cons, List.flatMap_nil, List.append_nil]
theorem told_toN (V : VolR) (first : Nat) (h : FirstOK V first) : (toldSpots V first h).map toNs = toldFrom V.C first 32 0 := by
  have hf : (fun s : SpotR (TabOK V) => (downS s :: spots V (s.number % 32768) s.hc.2).map toNs) = fun s => under V.C (toNs s) := by
    funext s
    rw [List.map_cons, spots_toN V _ s.hc.2]
    rfl
  rw [toldFrom_flat, ← spots_toN V first h.2]
  unfold toldSpots flatS
  rw [List.map_flatMap, List.flatMap_map, hf]
theorem free_toN (V : VolR) (first : Nat) : (toldFree V first).map toNs = toldFrom V.C first 32 0 := by
  have hf : (fun s : SpotF => (s :: spots V (s.number % 32768) (freeNums V.C (s.number % 32768))).map toNs) = fun s => under V.C (toNs s) := by
    funext s
    rw [List.map_cons, spots_toN V _ (freeNums V.C _)]
    rfl
  rw [toldFrom_flat, ← spots_toN V first (freeNums V.C first)]
  unfold toldFree flatF
  rw [List.map_flatMap, List.flatMap_map, hf]
def spotsN {Pc : Nat → Prop} (ss : List (SpotR Pc)) : List SpotN := ss.map toNs
theorem spotsN_snoc {Pc : Nat → Prop} (ss : List (SpotR Pc)) (s : SpotR Pc) : spotsN (ss ++ [s]) = spotsN ss ++ [toNs s] := by simp [spotsN]
def toldF (C : List Clus) (fs : List Nat) : List SpotN := fs.flatMap fun f => toldFrom C f 32 0
theorem toldF_snoc (C : List Clus) (fs : List Nat) (f : Nat) : toldF C (fs ++ [f]) = toldF C fs ++ toldFrom C f 32 0 := by simp [toldF]
theorem toldF_pre {C : List Clus} {a b : List Nat} (h : a <+: b) : toldF C a <+: toldF C b := by
  obtain ⟨r, rfl⟩ := h
  exact ⟨toldF C r, by simp [toldF]⟩
theorem find_pre {p : SpotN → Bool} {a b : List SpotN} {s : SpotN} (h : a <+: b) (hf : a.find? p = some s) : b.find? p = some s := by
  obtain ⟨r, rfl⟩ := h
  rw [List.find?_append, hf]; rfl

/-- Where checkMarks stands: its boxes. -/
structure MkAt (w W : World) (v bc : Nat) (k : List UInt8) (r : Value) : Prop where
  below : Below w.heap.size w W
  bv : W.heap[w.heap.size]? = some (.cells #[.pointer (some ⟨v, 0, none⟩)] 82 (0, 0))
  br : W.heap[w.heap.size + 1]? = some (.cells #[r] 98 (0, 0))
  bk : W.heap[bc]? = some (.cells (cv k).toArray 123 (0, 0))
  lo : w.heap.size + 2 ≤ bc
theorem MkAt.later {w W W' : World} {v bc : Nat} {k : List UInt8} {r : Value} (h : MkAt w W v bc k r) (hb : Below W.heap.size W W') : MkAt w W' v bc k r :=
  ⟨h.below.trans (hb.mono h.below.size), (hb.block _ (blk_lt h.bv)).trans h.bv, (hb.block _ (blk_lt h.br)).trans h.br, (hb.block _ (blk_lt h.bk)).trans h.bk, h.lo⟩
theorem MkAt.turned {w W W' : World} {v bc B : Nat} {k : List UInt8} {r : Value} {row : Option Nat} (h : MkAt w W v bc k r) (hB : bc < B) (hg : W.grownBy W' row) (hr : ∀ r, row = some r → B ≤ r ∧ ∃ o : Obj, W.heap[r]? = some o ∧ o.isCells = false) : MkAt w W' v bc k r := by
  have := h.lo
  exact ⟨below_turned h.below hg (fun r e => by have := (hr r e).1; omega), blk_turn hg hr h.bv (by omega), blk_turn hg hr h.br (by omega), blk_turn hg hr h.bk (by omega), h.lo⟩
theorem MkAt.put {w W : World} {v bc : Nat} {k : List UInt8} {r : Value} (h : MkAt w W v bc k r) (x : Value) : MkAt w (W.setCell ⟨w.heap.size + 1, 0, none⟩ x) v bc k x := by
  have hk := Kept.only W (w.heap.size + 1) 0 x
  have := h.lo
  refine ⟨?_, hk.blk (by omega) h.bv, ?_, hk.blk (by omega) h.bk, h.lo⟩
  · exact ⟨hk.os.trans h.below.os, hk.tape.trans h.below.tape, hk.output.trans h.below.output, Nat.le_trans h.below.size hk.size, fun i hi => by
      rw [hk.block i (Nat.lt_of_lt_of_le hi h.below.size) (by omega)]; exact h.below.block i hi⟩
  · rw [heap_setCell_same _ _ _ _ _ _ _ h.br]
    rfl
theorem load_err {w : World} {b : Nat} {x : Value} {t : TypeId} {fr : Nat × Nat} (h : w.heap[b]? = some (.cells #[x] t fr)) : (loadVar 98 ⟨b, 0, none⟩).run Tryz.prog w = .ok x w := by
  have c : w.cell? ⟨b, 0, none⟩ = some x := (cell_blk h 0).trans rfl
  simp [go_sem, c]
end Go.Proofs.YtknjjjenklfeoaaGreatDoor

/-
  checkMarks: does no mark stand where it may not?
-/
namespace Go.Proofs.YtknjjjenklfeoaaGreatDoor
open Go.RowKit Go.Shelf
attribute [local go_sem ↓] loadVar_clus storeVar_clus zeroValue_clus loadVar_tab storeVar_tab zeroValue_tab loadVar_cnt storeVar_cnt zeroValue_cnt loadVar_head storeVar_head zeroValue_head build_head buildSlice_clus loadVar_wr storeVar_wr zeroValue_wr build_wr buildSlice_wr equalIn_clus loadVar_place storeVar_place zeroValue_place build_place
attribute [local go_sem] run_loadClus run_storeClus run_zeroClus run_storeClus_new run_loadClus_new zc_length run_loadTab run_storeTab run_zeroTab run_storeTab_new run_loadTab_new zt_length run_loadCnt run_storeCnt run_zeroCnt run_storeCnt_new run_loadCnt_new zk_length run_loadHead run_storeHead run_zeroHead run_storeHead_new run_bHead HasAt_drew cellsAt_drew HasAt_drewN cellsAt_drewN run_bsClus run_loadWr run_zeroWr run_storeWr run_storeWr_new run_bWr0 run_bsWr run_loadPlace run_storePlace run_zeroPlace run_storePlace_new run_bPlace
attribute [local go_sem] field_head1 field_head0 Oper.semAt_some
attribute [local go_sem ↓] build_cnt
attribute [local go_sem] run_bCnt0
set_option maxHeartbeats 4000000 in
set_option maxRecDepth 100000 in
theorem checkMarks_in (w : World) (v : Nat) (Cv Lv : Value) (V : VolR) (h : VolAt w v Cv Lv V) (hG : Glob w) (h5 : 5 < V.C.length) (hC : V.C.length ≤ 256) (hF : ∀ f ∈ firstsOf V, FirstOK V f) :
    CallsIn Fence.wide 100 Tryz.prog 96 #[.pointer (some ⟨v, 0, none⟩)] w fun e w' => ((marksP V.C (cntsOf V.C) (firstsOf V) = -1 ∧ e = .returned .nilIface) ∨ ∃ (n : Nat) (x : Value), marksP V.C (cntsOf V.C) (firstsOf V) = (n : Int) ∧ isIface x ∧ e = .returned (faultV n x)) ∧ Below w.heap.size w w' := by
  have hcl := cntsOf_length V.C h.lenC (by omega)
  have H := hide h
  have HG := hide hG
  have hvl : v < w.heap.size := h.lt
  have hfl : ∀ j, foot v Cv Lv j → j < w.heap.size := h.foot_lt
  clear h hG
  refine callsIn_of_wp_marks Tryz.func96 rfl trivial ?_ rfl
  simp only [Tryz.ntmps96, List.size_toArray, List.length_cons, List.length_nil, Nat.reduceAdd, Nat.reduceSub, Array.replicate_succ, Array.replicate_zero, List.push_toArray, List.append_toArray, List.nil_append, List.cons_append]
  have U0 : Below w.heap.size w ((w.alloc (.cells #[.pointer (some ⟨v, 0, none⟩)] 82)).alloc (.cells #[.nilIface] 98)) := ((Below.refl _ w).alloc (Nat.le_refl _) _).alloc (by simp) _
  have L0 := hide (Locs.two w (.cells #[.pointer (some ⟨v, 0, none⟩)] 82) (.cells #[.nilIface] 98))
  have Hc := hide (counts_vol _ v Cv Lv V ((unhide H).below U0) (by omega))
  have Hm0 := hide (fun W => firsts_make W v)
  clear U0
  generalize hk : cntsOf V.C = k at *
  gi_wp2_with fail
  refine ⟨trivial, (callsIn_wide.2 (unhide Hc)).mono ?_⟩
  rintro e w1 ⟨rfl, hb1⟩
  have L1 := (unhide L0).later hb1
  have hw1 : w.heap.size + 1 < w1.heap.size := blk_lt L1.o1
  have M2 : MkAt w (w1.alloc (.cells (cv k).toArray 123)) v w1.heap.size k .nilIface :=
    ⟨(L1.alloc _).below, (L1.alloc _).o0, (L1.alloc _).o1, heap_alloc_new _ _, by omega⟩
  have cv0 : (w1.alloc (.cells (cv k).toArray 123)).cell? ⟨w.heap.size, 0, none⟩ = some (.pointer (some ⟨v, 0, none⟩)) := (cell_blk M2.bv 0).trans rfl
  have M2 := hide M2
  have hs2 : w1.heap.size < (w1.alloc (.cells (cv k).toArray 123)).heap.size := by simp
  clear Hc hb1 L1 L0
  gi_wp2_with fail
  generalize w1.alloc (.cells (cv k).toArray 123) = wr at *
  generalize w1.heap.size = bc at *
  refine ⟨trivial, (callsIn_wide.2 (unhide Hm0 wr)).mono ?_⟩
  rintro e W3 ⟨rfl, hW3⟩
  have hs3 : wr.heap.size + 1 ≤ W3.heap.size := by rw [hW3]; simp
  have hb3 : Below wr.heap.size wr W3 := by rw [hW3]; exact (Below.refl _ _).alloc (Nat.le_refl _) _
  have hbx : W3.heap[wr.heap.size]? = some (.cells #[.pointer (some ⟨v, 0, none⟩)] 82 (0, 0)) := by rw [hW3]; exact heap_alloc_new _ _
  have M3 := (unhide M2).later hb3
  have hV3 := (unhide H).below M3.below
  have hFA := firsts_any (Pc := FirstOK V) 99 (by omega) (fun j => j = w.heap.size + 1) v wr.heap.size (W3.heap.size + 2) V Cv Lv W3 hV3 hbx (by omega) (fun hf => by have := hfl _ hf; omega) (fun j hj => by rw [hj]; omega) h5 hF
  have M3 := hide M3
  clear M2 hV3 hbx hb3 hW3 Hm0 cv0
  gi_wp2_with fail
  refine range_any (by omega) (gf := 173) (lb := #[.pointer (some ⟨wr.heap.size, 0, none⟩)]) rfl (enters_of Tryz.func173 (by kernel_rfl) rfl) hFA
    (fun A B C h k => KeepV.trans (R := SameNum) (fun _ _ _ a b => a.trans b) h k) (fun W o o' hl hc => KeepV.turn SameNum.refl W _ o o' hl hc (by omega)) (Below.refl _ _) (fun _ => rfl)
    (fun pre W' => MkAt w W' v bc k .nilIface ∧ (toldF V.C (valsM pre)).find? (markP k) = none)
    (fun pre W' => ∃ sp x, (toldF V.C (valsM pre)).find? (markP k) = some sp ∧ isIface x ∧ MkAt w W' v bc k (faultV sp.table x))
    (fun _ _ _ _ hs hg hr => ⟨MkAt.turned hs.1 (by omega) hg hr, hs.2⟩)
    (fun _ _ _ _ hs hg hr => by obtain ⟨sp, x, h1, h2, h3⟩ := hs; exact ⟨sp, x, h1, h2, MkAt.turned h3 (by omega) hg hr⟩)
    ⟨unhide M3, rfl⟩
    (fun x a' _ => a' = { tmps := #[.pointer (some ⟨v, 0, none⟩), .pointer (some ⟨w.heap.size, 0, none⟩), .pointer (some ⟨w.heap.size + 1, 0, none⟩), .pointer (some ⟨bc, 0, none⟩), .int .i64 ((x.1 : Nat) : Int), undef, .pointer (some ⟨v, 0, none⟩), .agg (cv k).toArray, .pointer (some ⟨v, 0, none⟩), .func (.func 173) #[] #[.pointer (some ⟨wr.heap.size, 0, none⟩)], .int .i64 ((x.1 : Nat) : Int), undef, undef, undef, undef, undef, undef, undef, undef, undef, undef, undef, undef, undef, undef, undef, undef, undef, undef, undef, undef], defers := [] })
    (fun _ _ _ _ _ _ hs _ _ => hs)
    ?assign ?body ?done ?stop
  case assign =>
    rintro l pre x W' K hi hK
    gi_wp2
    exact hK _ _ (KeepsFrom.refl _ _) (KeepV.below SameNum.refl (Below.refl _ _)) hi rfl
  case done =>
    rintro D ys W' hD hS ⟨hM, hf⟩ hK
    have hS' : valsM ys = firstsOf V := hS
    rw [hS'] at hf
    have hmk : marksP V.C k (firstsOf V) = -1 := by unfold marksP; show badTab ((toldF V.C (firstsOf V)).find? (markP k)) = -1; rw [hf]; rfl
    have Hmk := hide hmk
    have r1 : W'.cell? ⟨w.heap.size + 1, 0, none⟩ = some .nilIface := (cell_blk hM.br 0).trans rfl
    have f2 := frozen_blk hM.br
    have M5 := hM.put .nilIface
    have hK5 : (W'.setCell ⟨w.heap.size + 1, 0, none⟩ .nilIface).heap[D]? = some (.deferred (some [])) := (Kept.only W' (w.heap.size + 1) 0 .nilIface).blk (by omega) hK
    have br5 := M5.br
    have HB := hide (below_shut (D := D) M5.below (by omega))
    have Hbr := hide br5
    clear hM hS hS' hf hFA M3 hmk M5 br5
    gi_wp2
    refine ⟨by simp, .inl ⟨_, _, rfl, run_takeDeferred hK5, ?_⟩⟩
    have hbr6 : ((W'.setCell ⟨w.heap.size + 1, 0, none⟩ .nilIface).putObj D (.deferred none)).heap[w.heap.size + 1]? = some (.cells #[.nilIface] 98 (0, 0)) := (World.putObj_heap_other (by omega)).trans (unhide Hbr)
    refine ⟨_, results_cell rfl ⟨w.heap.size + 1, 0, none⟩ rfl (load_err hbr6), Or.inl ⟨?_, rfl⟩, unhide HB⟩
    exact unhide Hmk
  case stop =>
    rintro D pre W' hD hSp ⟨sp, x, h1, h2, hM⟩ hK
    have hf := find_pre (toldF_pre (C := V.C) (show valsM pre <+: firstsOf V from hSp)) h1
    have hmk : marksP V.C k (firstsOf V) = (sp.table : Int) := by unfold marksP; show badTab ((toldF V.C (firstsOf V)).find? (markP k)) = _; rw [hf]; rfl
    have Hmk := hide hmk
    have HB := hide (below_shut (D := D) hM.below (by omega))
    have hbr := hM.br
    clear hFA M3 hf h1 hmk hM
    gi_wp2
    refine ⟨by simp, .inl ⟨_, _, rfl, run_takeDeferred hK, ?_⟩⟩
    have hbr6 : (W'.putObj D (.deferred none)).heap[w.heap.size + 1]? = some (.cells #[faultV sp.table x] 98 (0, 0)) := (World.putObj_heap_other (by omega)).trans hbr
    refine ⟨_, results_cell rfl ⟨w.heap.size + 1, 0, none⟩ rfl (load_err hbr6), Or.inr ⟨sp.table, x, ?_, h2, rfl⟩, unhide HB⟩
    exact unhide Hmk
  case body =>
    rintro l pre x a' W hl ⟨r, hr⟩ ⟨hM, hf0⟩ rfl hlen
    obtain ⟨x, hx⟩ := x
    have cv0 : W.cell? ⟨w.heap.size, 0, none⟩ = some (.pointer (some ⟨v, 0, none⟩)) := (cell_blk hM.bv 0).trans rfl
    have Hm := hide (told_make W v x)
    have M1 := hide hM
    have hbr2 := blk_lt hM.bk
    have hlo := hM.lo
    clear hM hFA
    dsimp only
    gi_wp2_with fail
    refine ⟨trivial, (CallsIn.inRound l (callsIn_wide.2 (unhide Hm))).mono ?_⟩
    rintro e wc ⟨rfl, hwc⟩
    have hs5 : W.heap.size + 2 ≤ wc.heap.size := by rw [hwc]; simp
    have hb5 : Below W.heap.size W wc := by rw [hwc]; exact ((Below.refl _ _).alloc (Nat.le_refl _) _).alloc (by simp) _
    have hb1 : wc.heap[W.heap.size]? = some (.cells #[.pointer (some ⟨v, 0, none⟩)] 82 (0, 0)) := by rw [hwc]; exact (Below.heap_alloc _ _ _ (by simp)).trans (heap_alloc_new _ _)
    have hb2 : wc.heap[W.heap.size + 1]? = some (.cells #[.int .i64 (x : Nat)] 3 (0, 0)) := by rw [hwc]; have := heap_alloc_new (W.alloc (.cells #[.pointer (some ⟨v, 0, none⟩)] 82)) (.cells #[.int .i64 (x : Nat)] 3); rwa [World.size_alloc] at this
    have M5 := (unhide M1).later hb5
    have hV5 := (unhide H).below M5.below
    have hVW := (unhide H).below (unhide M1).below
    have hr5 : wc.heap[l]? = some (.loop r) := (hb5.block _ (blk_lt hr)).trans hr
    have hHA := told_any 97 (by omega) (fun j => j = w.heap.size + 1) v W.heap.size (W.heap.size + 1) x (wc.heap.size + 1) V Cv Lv wc hV5 hb1 hb2 (by omega) (by omega) (fun hf => by have := hVW.foot_lt _ hf; omega) (fun hf => by have := hVW.foot_lt _ hf; omega) (fun k hk => by rw [hk]; omega) hx
    have hKF5 : KeepsFrom W3.heap.size W wc := ⟨hb5.size, fun k o _ hk _ => (hb5.block k (blk_lt hk)).trans hk⟩
    have hK5 : KeepV (fun j => j = w.heap.size + 1) (fun k => W3.heap.size + 2 ≤ k) v SameNum W wc := KeepV.below SameNum.refl hb5
    have hsn : toldF V.C (valsM (pre ++ [⟨x, hx⟩])) = toldF V.C (valsM pre) ++ toldFrom V.C x 32 0 := by rw [valsM_snoc, toldF_snoc]
    have M5 := hide M5
    clear M1 hV5 hb1 hb2 hwc Hm cv0 hr hVW
    gi_wp2_with fail
    refine range_in (l₀ := l) (r₀ := r) hr5 (by omega) (gf := 174) (lb := #[.pointer (some ⟨W.heap.size, 0, none⟩), .pointer (some ⟨W.heap.size + 1, 0, none⟩)]) rfl (enters_of Tryz.func174 (by kernel_rfl) rfl) hHA
      (fun A B C h k => KeepV.trans (R := EqV) (fun _ _ _ a b => Eq.trans a b) h k) (fun W o o' hl hc => KeepV.turn (R := EqV) (fun _ => rfl) W _ o o' hl hc (by omega)) (Below.refl _ _) (fun _ => rfl)
      (fun ip W' => (MkAt w W' v bc k .nilIface ∧ (spotsN ip).find? (markP k) = none) ∧ KeepsFrom W3.heap.size W W' ∧ KeepV (fun j => j = w.heap.size + 1) (fun k => W3.heap.size + 2 ≤ k) v SameNum W W')
      (fun ip W' => (∃ sp x, (spotsN ip).find? (markP k) = some sp ∧ isIface x ∧ MkAt w W' v bc k (faultV sp.table x)) ∧ KeepsFrom W3.heap.size W W' ∧ KeepV (fun j => j = w.heap.size + 1) (fun k => W3.heap.size + 2 ≤ k) v SameNum W W')
      (fun s A B row hs hg hr => ⟨⟨MkAt.turned hs.1.1 (by omega) hg hr, hs.1.2⟩, ownFrom_keepsFrom (β := Unit) hb5.size () A B row hs.2.1 hg hr, ownFrom_keepVY (R := SameNum) SameNum.refl (fun _ _ _ a b => a.trans b) (β := Unit) hb5.size () A B row hs.2.2 hg hr⟩)
      (fun s A B row hs hg hr => ⟨by obtain ⟨sp, x, h1, h2, h3⟩ := hs.1; exact ⟨sp, x, h1, h2, MkAt.turned h3 (by omega) hg hr⟩, ownFrom_keepsFrom (β := Unit) hb5.size () A B row hs.2.1 hg hr, ownFrom_keepVY (R := SameNum) SameNum.refl (fun _ _ _ a b => a.trans b) (β := Unit) hb5.size () A B row hs.2.2 hg hr⟩)
      ⟨⟨unhide M5, rfl⟩, hKF5, hK5⟩
      (fun y a' W' => ∃ bx, W'.heap[bx]? = some (.cells #[.int .i64 ((y.table : Nat) : Int), .int .i64 ((y.index : Nat) : Int), .int .u16 ((y.number : Nat) : Int)] 219 (0, 0)) ∧ a' = { tmps := #[.pointer (some ⟨v, 0, none⟩), .pointer (some ⟨w.heap.size, 0, none⟩), .pointer (some ⟨w.heap.size + 1, 0, none⟩), .pointer (some ⟨bc, 0, none⟩), .int .i64 ((x : Nat) : Int), .pointer (some ⟨bx, 0, none⟩), .pointer (some ⟨v, 0, none⟩), .agg (cv k).toArray, .pointer (some ⟨v, 0, none⟩), .func (.func 173) #[] #[.pointer (some ⟨wr.heap.size, 0, none⟩)], .int .i64 ((x : Nat) : Int), .pointer (some ⟨v, 0, none⟩), .int .i64 ((x : Nat) : Int), .func (.func 174) #[] #[.pointer (some ⟨W.heap.size, 0, none⟩), .pointer (some ⟨W.heap.size + 1, 0, none⟩)], spotVal y, undef, undef, undef, undef, undef, undef, undef, undef, undef, undef, undef, undef, undef, undef, undef, undef], defers := [] })
      (fun y a'' _ A' B' row hs hg hr => by
        obtain ⟨bx2, h2, h3⟩ := hs
        refine ⟨bx2, ?_, h3⟩
        rw [hg.block bx2 (blk_lt h2) (fun e => by
          obtain ⟨_, o, ho, hc⟩ := hr bx2 e.symm
          rw [h2] at ho
          injection ho with ho
          subst ho
          cases hc)]
        exact h2) ?assign2 ?body2 ?done2 ?stop2
    case assign2 =>
      rintro l2 ip y W' K ⟨⟨g1, g4⟩, g2, g3⟩ hK
      have hb : Below W'.heap.size W' (W'.alloc (.cells #[.int .i64 ((y.table : Nat) : Int), .int .i64 ((y.index : Nat) : Int), .int .u16 ((y.number : Nat) : Int)] 219)) := (Below.refl _ _).alloc (Nat.le_refl _) _
      have G1 := hide (g1.later hb)
      have G2 := hide (g2.trans ((KeepsOthers.alloc W' (.cells #[.int .i64 ((y.table : Nat) : Int), .int .i64 ((y.index : Nat) : Int), .int .u16 ((y.number : Nat) : Int)] 219)).from _))
      have G3 := hide (g3.trans (fun _ _ _ a b => a.trans b) (KeepV.below SameNum.refl hb))
      have G4 := hide g4
      clear g1 g2 g3 g4
      unfold spotVal
      gi_wp2
      exact hK _ _ ((KeepsOthers.alloc _ _).from _) (KeepV.below (R := EqV) (fun _ => rfl) hb) ⟨⟨unhide G1, unhide G4⟩, unhide G2, unhide G3⟩ ⟨_, heap_alloc_new _ _, rfl⟩
    case done2 =>
      rintro ip W' hS ⟨⟨g1, g4⟩, g2, g3⟩
      have hS' : spotsN ip = toldFrom V.C x 32 0 := by rw [hS]; exact told_toN V x hx
      rw [hS'] at g4
      have hall : (toldF V.C (valsM (pre ++ [⟨x, hx⟩]))).find? (markP k) = none := by rw [hsn, List.find?_append, hf0, g4]; rfl
      have G1 := hide g1
      have G2 := hide g2
      have G3 := hide g3
      have G4 := hide hall
      clear g1 g2 g3 g4 hall hsn hf0 hS hS'
      gi_wp2
      repeat (first | exact unhide G1 | exact unhide G2 | exact unhide G3 | exact unhide G4 | refine ⟨?_, ?_⟩)
    case stop2 =>
      rintro ip W' hSp ⟨⟨sp, e, g1, g5, g4⟩, g2, g3⟩
      have hpre : spotsN ip <+: toldFrom V.C x 32 0 := by
        rw [← told_toN V x hx]
        obtain ⟨rr, hrr⟩ := hSp
        exact ⟨spotsN rr, by rw [← hrr]; simp [spotsN]⟩
      have hall : (toldF V.C (valsM (pre ++ [⟨x, hx⟩]))).find? (markP k) = some sp := by rw [hsn, List.find?_append, hf0, find_pre hpre g1]; rfl
      have G2 := hide g2
      have G3 := hide g3
      have G4 : Hid (∃ sp x_1, (toldF V.C (valsM (pre ++ [⟨x, hx⟩]))).find? (markP k) = some sp ∧ isIface x_1 ∧ MkAt w W' v bc k (faultV sp.table x_1)) := ⟨sp, e, hall, g5, g4⟩
      clear g1 g2 g3 g4 g5 hall hsn hf0 hSp hpre
      gi_wp2
      repeat (first | exact unhide G2 | exact unhide G3 | exact unhide G4 | refine ⟨?_, ?_⟩)
    case body2 =>
      rintro l2 ip y a' W' hl2 _ ⟨⟨g1, g4⟩, g2, g3⟩ ⟨bx, hbx, rfl⟩ hip
      have hsb : (spotsN (ip ++ [y])).find? (markP k) = if markP k (toNs y) then some (toNs y) else none := by
        rw [spotsN_snoc, List.find?_append, g4, Option.none_or, List.find?_cons]
        cases markP k (toNs y) <;> rfl
      have hmk : markP k (toNs y) = (decide (32768 ≤ y.number) && decide (byteAt k (y.number % 32768) ≠ 1)) := rfl
      have hV' := (unhide H).below g1.below
      have hn := y.hn
      have hc := y.hc.2
      have hci : ((y.number % 32768 : Nat) : Int) < 256 := by omega
      have c0 : W'.cell? ⟨bx, 0, none⟩ = some (.int .i64 ((y.table : Nat) : Int)) := (cell_blk hbx 0).trans rfl
      have c1 : W'.cell? ⟨bx, 2, none⟩ = some (.int .u16 ((y.number : Nat) : Int)) := (cell_blk hbx 2).trans rfl
      have c2 : W'.cell? ⟨bc, y.number % 32768, none⟩ = some (.int .u8 ((byteAt k (y.number % 32768) : Nat) : Int)) := by
        rw [cell_blk g1.bk, List.getElem?_toArray, cv_get _ _ (by omega)]
      have Hcl := hide (fun W => cluster_of y.number y.hn W)
      have Hmk := hide (fun W => marked_of y.number y.hn W)
      have htab : (toNs y).table = y.table := rfl
      have c3 : W'.cell? ⟨w.heap.size + 1, 0, none⟩ = some .nilIface := (cell_blk g1.br 0).trans rfl
      have f3 := frozen_blk g1.br
      obtain ⟨t4, v4, g44⟩ := ((unhide HG).below g1.below).err 4 (by omega)
      have hown : ∀ j, j = w.heap.size + 1 → j = w.heap.size + 1 ∧ ¬ foot v Cv Lv j ∧ ∃ o, W'.heap[j]? = some o ∧ o.isCells = true := fun j e => by
        subst e
        exact ⟨rfl, fun hf => by have := (unhide H).foot_lt _ hf; omega, _, g1.br, rfl⟩
      rw [hmk] at hsb
      have G1 := hide g1
      have G2 := hide g2
      have G3 := hide g3
      have GK := hide (KeepsFrom.refl (B := wc.heap.size) W')
      clear hmk g1 g2 g3 g4
      generalize toNs y = ty at *
      generalize spotVal y = sv at *
      generalize byteAt k (y.number % 32768) = m at *
      generalize y.number % 32768 = cc at *
      generalize y.number = nn at *
      by_cases hk2 : 32768 ≤ nn
      · have dk : decide (32768 ≤ nn) = true := decide_eq_true hk2
        rw [dk] at Hmk hsb
        by_cases hm1 : m = 1
        · rw [decide_eq_false (by simpa using hm1), Bool.true_and, if_neg (by decide)] at hsb
          have Hsb := hide hsb
          have dm : (((m : Nat) : Int) != 1) = false := by rw [hm1]; rfl
          clear hsb hown c3 f3 c0 g44
          gi_wp2_with fail
          refine ⟨trivial, (CallsIn.inRound l2 (callsIn_wide.2 (unhide Hmk _))).mono ?_⟩
          rintro e w5 ⟨rfl, rfl⟩
          gi_wp2_with fail
          refine ⟨trivial, (CallsIn.inRound l2 (callsIn_wide.2 (unhide Hcl _))).mono ?_⟩
          rintro e w5 ⟨rfl, rfl⟩
          gi_wp2
          repeat (first | exact unhide G1 | exact unhide G2 | exact unhide G3 | exact unhide Hsb | exact KeepsFrom.refl _ _ | exact KeepV.below (R := EqV) (fun _ => rfl) (Below.refl _ _) | refine ⟨?_, ?_⟩)
        · rw [decide_eq_true (by simpa using hm1), Bool.true_and, if_pos rfl] at hsb
          have dm : (((m : Nat) : Int) != 1) = true := by rw [bne_iff_ne]; omega
          have M6 := (unhide G1).put (faultV y.table (.iface t4 v4))
          rw [← htab] at M6
          have hex : ∃ sp x, (spotsN (ip ++ [y])).find? (markP k) = some sp ∧ isIface x ∧ MkAt w (W'.setCell ⟨w.heap.size + 1, 0, none⟩ (faultV y.table (.iface t4 v4))) v bc k (faultV sp.table x) := ⟨ty, _, hsb, ⟨_, _, rfl⟩, by rw [← htab]; exact M6⟩
          have Hex := hide hex
          have K3 : KeepV (fun j => j = w.heap.size + 1) (fun k => wc.heap.size + 1 ≤ k) v EqV W' (W'.setCell ⟨w.heap.size + 1, 0, none⟩ (faultV y.table (.iface t4 v4))) := KeepV.own hV' (Kept.only _ _ _ _) hown rfl
          have K4 : KeepV (fun j => j = w.heap.size + 1) (fun k => W3.heap.size + 2 ≤ k) v SameNum W' (W'.setCell ⟨w.heap.size + 1, 0, none⟩ (faultV y.table (.iface t4 v4))) := KeepV.own hV' (Kept.only _ _ _ _) hown (SameNum.refl _)
          have K5 := hide ((unhide G3).trans (fun _ _ _ a b => a.trans b) K4)
          have hf := hide ((KeepsOthers.setCell W' ⟨w.heap.size + 1, 0, none⟩ (faultV y.table (.iface t4 v4))).from wc.heap.size)
          have hf2 := hide ((unhide G2).trans ((KeepsOthers.setCell W' ⟨w.heap.size + 1, 0, none⟩ (faultV y.table (.iface t4 v4))).from W3.heap.size))
          have K3 := hide K3
          clear hsb hown hex K4 M6
          gi_wp2_with fail
          refine ⟨trivial, (CallsIn.inRound l2 (callsIn_wide.2 (unhide Hmk _))).mono ?_⟩
          rintro e w5 ⟨rfl, rfl⟩
          gi_wp2_with fail
          refine ⟨trivial, (CallsIn.inRound l2 (callsIn_wide.2 (unhide Hcl _))).mono ?_⟩
          rintro e w5 ⟨rfl, rfl⟩
          gi_wp2
          repeat (first | exact unhide Hex | exact unhide hf | exact unhide hf2 | exact unhide K3 | exact unhide K5 | refine ⟨?_, ?_⟩)
      · have dk : decide (32768 ≤ nn) = false := decide_eq_false hk2
        rw [dk] at Hmk hsb
        rw [Bool.false_and, if_neg (by decide)] at hsb
        have Hsb := hide hsb
        clear hsb hown c3 f3 c0 g44
        gi_wp2_with fail
        refine ⟨trivial, (CallsIn.inRound l2 (callsIn_wide.2 (unhide Hmk _))).mono ?_⟩
        rintro e w5 ⟨rfl, rfl⟩
        gi_wp2
        refine ⟨trivial, ?_⟩
        gi_wp2
        repeat (first | exact unhide G1 | exact unhide G2 | exact unhide G3 | exact unhide Hsb | exact KeepsFrom.refl _ _ | exact KeepV.below (R := EqV) (fun _ => rfl) (Below.refl _ _) | refine ⟨?_, ?_⟩)
end Go.Proofs.YtknjjjenklfeoaaGreatDoor
