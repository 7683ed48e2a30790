import Derived.Test.YtknjjjenklfeoaaGreatDoorP10
import Derived.Test.YtknjjjenklfeoaaGreatDoorP13
import Derived.RangeFuncNested
import Derived.RangeFuncBound
import Derived.RangeFuncCalls
import Derived.RangeFuncLeaves
import Derived.Shelf.Abstract
import Derived.Shelf.RegionOpen
import Derived.WalkKit
import Derived.OwnWalkIn
import Derived.TacticsInMore
import Derived.LoopNIn
import Derived.LoopIn
import Derived.Test.YtknjjjenklfeoaaGreatDoorP12
import Derived.Test.YtknjjjenklfeoaaGreatDoorP09
/-
  The program's iterator over the first tables.
-/
namespace Go.Proofs.YtknjjjenklfeoaaGreatDoor
open Go.RowKit Go.Shelf
attribute [local go_sem ↓] loadVar_clus storeVar_clus zeroValue_clus loadVar_tab storeVar_tab zeroValue_tab loadVar_cnt storeVar_cnt zeroValue_cnt loadVar_head storeVar_head zeroValue_head build_head buildSlice_clus loadVar_wr storeVar_wr zeroValue_wr build_wr buildSlice_wr equalIn_clus loadVar_place storeVar_place zeroValue_place build_place loadVar_lst storeVar_lst zeroValue_lst storeVar_ent build_ent
attribute [local go_sem] run_loadClus run_storeClus run_zeroClus run_storeClus_new run_loadClus_new zc_length run_loadTab run_storeTab run_zeroTab run_storeTab_new run_loadTab_new zt_length run_loadCnt run_storeCnt run_zeroCnt run_storeCnt_new run_loadCnt_new zk_length run_loadHead run_storeHead run_zeroHead run_storeHead_new run_bHead HasAt_drew cellsAt_drew HasAt_drewN cellsAt_drewN run_bsClus run_loadWr run_zeroWr run_storeWr run_storeWr_new run_bWr0 run_bsWr run_loadPlace run_storePlace run_zeroPlace run_storePlace_new run_bPlace run_loadLst run_storeLst run_zeroLst run_storeLst_new run_storeEnt run_bEnt
attribute [local go_sem] field_head1 field_head0 Oper.semAt_some
def loadEnt (a : Addr) : Sem Value := loadVar 142 a
theorem loadVar_ent (a : Addr) : loadVar 142 a = loadEnt a := rfl
theorem run_loadEnt {w : World} {b o : Nat} (h : HasAt w b o 2) : (loadEnt ⟨b, o, none⟩).run Tryz.prog w = .ok (.agg (cellsAt w b o 2).toArray) w :=
  run_loadVar_has h 142 _ Tryz.underlying142 rfl (by kernel_rfl)
def zeroEnt : Sem Value := zeroValue 142
theorem zeroValue_ent : zeroValue 142 = zeroEnt := rfl
theorem run_zeroEnt (w : World) : zeroEnt.run Tryz.prog w = .ok (.agg (ev ze).toArray) w :=
  (zero_of_info (P := Tryz.prog) (t := 142) (v := .agg (ev ze).toArray) (n := 2) (by kernel_rfl)).1 w
theorem run_storeEnt_new {w : World} {z p : EntR} :
    (storeEnt ⟨w.heap.size, 0, none⟩ (.agg (ev p).toArray)).run Tryz.prog (w.alloc (.cells (ev z).toArray 142)) = .ok () (w.alloc (.cells (ev p).toArray 142)) :=
  run_storeVar_new w 142 (ev z).toArray (ev p).toArray (by simp only [ev]; kernel_rfl) (by simp [ev]) (all_oneCell_toArray (ev_one p))
attribute [local go_sem ↓] loadVar_ent zeroValue_ent
attribute [local go_sem] run_loadEnt run_zeroEnt run_storeEnt_new
theorem ent_range {w : World} {b : Nat} {E : List EntR} {t : TypeId} {fr : Nat × Nat} (h : w.heap[b]? = some (.cells (lv E).toArray t fr)) (k : Nat) (hk : k < E.length) : w.rangeAt b (k * 2) (ev (E.getD k ze)) := fun j x hx => by
  have hj : j < 2 := by have := (List.getElem?_eq_some_iff.1 hx).1; simpa [ev] using this
  rw [cell_blk h, List.getElem?_toArray, ← hx]
  clear h hx
  induction E generalizing k with
  | nil => simp at hk
  | cons a r ih =>
    rw [show lv (a :: r) = ev a ++ lv r from rfl]
    cases k with
    | zero => rw [Nat.zero_mul, Nat.zero_add, List.getElem?_append_left (by simp [ev]; omega)]; rfl
    | succ k =>
      rw [List.getElem?_append_right (by simp [ev]; omega), show (k + 1) * 2 + j - (ev a).length = k * 2 + j by simp [ev]; omega, ih k (by simpa using hk)]
      simp

/-- The first tables: the disk's, then the pictures'. -/
def picFirsts (C : List Clus) : List Nat := ((entsOf (cl C 5)).take (lenOf (entsOf (cl C 5)))).map (·.first)
def firstsOf (V : VolR) : List Nat := num (cl V.C 0) 6 :: picFirsts V.C
theorem picFirsts_get (C : List Clus) (k : Nat) (hk : k < lenOf (entsOf (cl C 5))) : ((entsOf (cl C 5)).getD k ze).first ∈ picFirsts C := by
  have h4 := lenOf_le (entsOf (cl C 5))
  have hl := entsOf_length (cl C 5)
  unfold picFirsts
  refine List.mem_map.2 ⟨(entsOf (cl C 5)).getD k ze, ?_, rfl⟩
  rw [List.getD_eq_getElem?_getD, List.getElem?_eq_getElem (by omega)]
  rw [List.mem_take_iff_getElem]
  exact ⟨k, by omega, rfl⟩

set_option maxHeartbeats 4000000 in
set_option maxRecDepth 100000 in
theorem firsts_all {Pc : Nat → Prop} (n : Nat) (hn : 10 ≤ n) (X : Nat → Prop) (v bv B : Nat) (V : VolR) (Cv Lv : Value) (w : World) (hV : VolAt w v Cv Lv V)
    (hbv : w.heap[bv]? = some (.cells #[.pointer (some ⟨v, 0, none⟩)] 82 (0, 0))) (hXv : ¬ X bv) (hfv : ¬ foot v Cv Lv bv)
    (hXB : ∀ k, X k → k < w.heap.size) (h5 : 5 < V.C.length) (hP : ∀ t ∈ firstsOf V, Pc t) :
    SeqAll n 173 #[.pointer (some ⟨bv, 0, none⟩)] (fun x : UM Pc => #[Value.int .i64 ((x.1 : Nat) : Int)]) (KeepV X (fun k => B ≤ k) v SameNum) (fun ys => ys.map (·.1) = firstsOf V) 5 B w := by
  intro l J W hW hBW hJ hY h0
  have B0 : Besides X v [(bv, .cells #[.pointer (some ⟨v, 0, none⟩)] 82 (0, 0))] (SameNum V) W := by
    refine ⟨⟨Cv, Lv, V, hV.below hW, SameNum.refl V, ?_⟩, ?_, ?_, ?_⟩
    · intro x hx; simp only [List.mem_cons, List.not_mem_nil, or_false] at hx; subst hx; exact hfv
    · intro x hx; simp only [List.mem_cons, List.not_mem_nil, or_false] at hx; subst hx; exact (hW.block _ (blk_lt hbv)).trans hbv
    · intro x hx; simp only [List.mem_cons, List.not_mem_nil, or_false] at hx; subst hx; rfl
    · intro x hx; simp only [List.mem_cons, List.not_mem_nil, or_false] at hx; subst hx; exact hXv
  have hXW : ∀ k, W.heap.size ≤ k → ¬ X k := fun k hk hx => by have := hXB _ hx; have := hW.size; omega
  have c1 : W.cell? ⟨bv, 0, none⟩ = some (.pointer (some ⟨v, 0, none⟩)) := (cell_blk B0.b0 0).trans rfl
  have Hh := hide (head_vol W v Cv Lv V (hV.below hW) (by omega))
  have hP0 : Pc (num (cl V.C 0) 6) := hP _ (by simp [firstsOf])
  have B0 := hide B0
  refine callsIn_of_wp Tryz.func173 rfl trivial ?_ rfl
  simp only [Tryz.ntmps173, List.size_toArray, List.length_cons, List.length_nil, Nat.reduceAdd, Nat.reduceSub, Array.replicate_succ, Array.replicate_zero, List.push_toArray, List.append_toArray, List.nil_append, List.cons_append]
  gi_wp2_with fail
  refine ⟨trivial, fun _ => by omega, (callsIn_wide.2 (unhide Hh)).mono ?_⟩
  rintro e W1 ⟨rfl, hb1⟩
  have B1 := (unhide B0).below hb1
  have hJ1 : J [] W1 := hJ [] W W1 none h0 ⟨hb1.os, hb1.tape, hb1.output, hb1.size, fun k hk _ => hb1.block k hk⟩ (fun r e => by cases e)
  obtain ⟨fn, tmps, assign, body, hy, hR⟩ := hY [] ⟨num (cl V.C 0) 6, hP0⟩ W1 hJ1 (by simp)
  dsimp only at hy
  have B1 := hide B1
  have hw1 := hb1.size
  clear Hh B0 hb1 h0 c1 hbv
  gi_wp2_with fail
  refine ⟨fun _ => by omega, hR.mono ?_⟩
  rintro e W3 ⟨rfl, hJ3, hK3⟩
  have B3 := (unhide B1).keep (fun _ _ a b => SameNum.trans a b) hK3
  obtain ⟨C3, L3, V3, hV3, hS3, hf3⟩ := B3.vol
  have c3 : W3.cell? ⟨bv, 0, none⟩ = some (.pointer (some ⟨v, 0, none⟩)) := (cell_blk B3.b0 0).trans rfl
  have hs3 : W.heap.size ≤ W3.heap.size := by have := hK3.1; omega
  have Hl := hide (list_vol W3 v C3 L3 V3 hV3 (by rw [hS3.len]; exact h5))
  rw [hS3.low 5 (by omega)] at Hl
  have hel := entsOf_length (cl V.C 5)
  have B3 := hide B3
  have HJ3 := hide hJ3
  clear hR hy hJ1 B1 hK3 hJ3 hV3 hf3
  gi_wp2_with fail
  refine ⟨trivial, fun _ => by omega, (callsIn_wide.2 (unhide Hl)).mono ?_⟩
  rintro e W4 ⟨rfl, hb4⟩
  have hs4 : W.heap.size ≤ W4.heap.size := by have := hb4.size; omega
  have B4 := ((unhide B3).below hb4).lay (.cells (lv (entsOf (cl V.C 5))).toArray 144) rfl (hXW _ hs4)
  have hJ4 : J [⟨num (cl V.C 0) 6, hP0⟩] (W4.alloc (.cells (lv (entsOf (cl V.C 5))).toArray 144)) := hJ.alloc _ (hJ _ W3 W4 none (unhide HJ3) ⟨hb4.os, hb4.tape, hb4.output, hb4.size, fun k hk _ => hb4.block k hk⟩ (fun r e => by cases e))
  have B4 := hide (B4.sub (cs := [(W4.heap.size, .cells (lv (entsOf (cl V.C 5))).toArray 144 (0, 0))]) (by simp))
  have l1 := blk_has (unhide B4).b0 (n := 8) (by rw [lv_length, hel])
  have l2 := blk_cells (unhide B4).b0 (n := 8) (by rw [lv_length, hel])
  have Hn := hide (len_any (W4.alloc (.cells (lv (entsOf (cl V.C 5))).toArray 144)) (entsOf (cl V.C 5)) hel)
  have hl4 := lenOf_le (entsOf (cl V.C 5))
  have HJ4 := hide hJ4
  have zll : zl.length = 4 := rfl
  have hPk : ∀ k, k < lenOf (entsOf (cl V.C 5)) → Pc ((entsOf (cl V.C 5)).getD k ze).first := fun k hk => hP _ (List.mem_cons_of_mem _ (picFirsts_get V.C k hk))
  have hfo : firstsOf V = num (cl V.C 0) 6 :: ((entsOf (cl V.C 5)).take (lenOf (entsOf (cl V.C 5)))).map (·.first) := rfl
  have Hfo := hide hfo
  clear Hl HJ3 B3 hb4 c3 hJ4 hP hfo
  generalize entsOf (cl V.C 5) = E at *
  gi_wp2_with fail
  refine ⟨trivial, fun _ => by omega, (callsIn_wide.2 (unhide Hn)).mono ?_⟩
  rintro e W5 ⟨rfl, hb5⟩
  have B5 := hide ((unhide B4).below hb5)
  have HJ5 : Hid (J [⟨num (cl V.C 0) 6, hP0⟩] W5) := hJ _ _ W5 none (unhide HJ4) ⟨hb5.os, hb5.tape, hb5.output, hb5.size, fun k hk _ => hb5.block k hk⟩ (fun r e => by cases e)
  clear Hn HJ4 B4 l1 l2 hb5
  generalize hL0 : lenOf E = L0 at *
  have hli : (L0 : Int) ≤ 4 := by omega
  gi_wp2
  gi_loopw [5, 18] (fun _ i wr => ∃ (k : Nat) (ys : List (UM Pc)), k ≤ L0 ∧ i = .int .i64 k ∧ Besides X v [(W4.heap.size, .cells (lv E).toArray 144 (0, 0))] (SameNum V) wr ∧ ys.map (·.1) = (E.take k).map (·.first) ∧ ys.length = k ∧ J (⟨num (cl V.C 0) 6, hP0⟩ :: ys) wr) (fun _ i _ => L0 - (intOf i).toNat)
  case atStart => exact ⟨0, [], by omega, rfl, unhide B5, rfl, rfl, unhide HJ5⟩
  case round =>
    obtain ⟨k, ys, hk, rfl, hB, hys, hyl, hJk⟩ := hrel
    clear B5 HJ5
    by_cases hlt : k < L0
    · have hki : (k : Int) < (L0 : Int) := by omega
      have hkE : k < E.length := by omega
      have l1 := hasAt_of_range (n := 2) (ent_range hB.b0 k hkE) rfl
      have l2 := cellsAt_of_range (n := 2) (ent_range hB.b0 k hkE) rfl
      have hpk := hPk k (by omega)
      have htk : (E.take (k + 1)).map (·.first) = (E.take k).map (·.first) ++ [(E.getD k ze).first] := by
        rw [List.take_succ_eq_append_getElem hkE, List.map_append, List.getD_eq_getElem?_getD, List.getElem?_eq_getElem hkE]; rfl
      have Htk := hide htk
      generalize E.getD k ze = p at *
      have hJa : J (⟨num (cl V.C 0) 6, hP0⟩ :: ys) (wr.alloc (.cells (ev p).toArray 142)) := hJ.alloc _ hJk
      have hBa := hide (hB.below ((Below.refl _ _).alloc (Nat.le_refl _) (.cells (ev p).toArray 142)))
      have c5 : (wr.alloc (.cells (ev p).toArray 142)).cell? ⟨wr.heap.size, 1, none⟩ = some (.int .i64 (p.first : Nat)) := (cell_new wr _ _ _ 1).trans rfl
      obtain ⟨fn2, tmps2, assign2, body2, hy2, hR2⟩ := hY _ ⟨p.first, hpk⟩ _ hJa (by simp; omega)
      dsimp only at hy2
      clear htk hJk hJa hB
      generalize p.first = pf at *
      gi_wp2
      refine ⟨fun _ => by omega, hR2.mono ?_⟩
      rintro e W6 ⟨rfl, hJ6, hK6⟩
      have B6 := hide ((unhide hBa).keep (fun _ _ a b => SameNum.trans a b) hK6)
      clear hK6 hBa hR2 hy2
      gi_wp2
      go_roundw
      case rel => exact ⟨k + 1, ys ++ [⟨pf, hpk⟩], by omega, by go_num, unhide B6, by rw [unhide Htk, List.map_append, hys]; rfl, by simp; omega, by rw [List.cons_append] at hJ6; exact hJ6⟩
      case measure => simp [intOf]; omega
    · have hkL : k = L0 := by omega
      subst hkL
      gi_wp2
      go_end0
      exact ⟨⟨_, rfl⟩, _, by rw [unhide Hfo, List.map_cons, hys], hJk⟩
end Go.Proofs.YtknjjjenklfeoaaGreatDoor

/-
  The program's markLone.
-/
namespace Go.Proofs.YtknjjjenklfeoaaGreatDoor
open Go.RowKit Go.Shelf
attribute [local go_sem ↓] loadVar_clus storeVar_clus zeroValue_clus loadVar_tab storeVar_tab zeroValue_tab loadVar_cnt storeVar_cnt zeroValue_cnt loadVar_head storeVar_head zeroValue_head build_head buildSlice_clus loadVar_wr storeVar_wr zeroValue_wr build_wr buildSlice_wr equalIn_clus loadVar_place storeVar_place zeroValue_place build_place loadVar_lst storeVar_lst zeroValue_lst storeVar_ent build_ent
attribute [local go_sem] run_loadClus run_storeClus run_zeroClus run_storeClus_new run_loadClus_new zc_length run_loadTab run_storeTab run_zeroTab run_storeTab_new run_loadTab_new zt_length run_loadCnt run_storeCnt run_zeroCnt run_storeCnt_new run_loadCnt_new zk_length run_loadHead run_storeHead run_zeroHead run_storeHead_new run_bHead HasAt_drew cellsAt_drew HasAt_drewN cellsAt_drewN run_bsClus run_loadWr run_zeroWr run_storeWr run_storeWr_new run_bWr0 run_bsWr run_loadPlace run_storePlace run_zeroPlace run_storePlace_new run_bPlace run_loadLst run_storeLst run_zeroLst run_storeLst_new run_storeEnt run_bEnt
attribute [local go_sem] field_head1 field_head0 Oper.semAt_some
/-- A number that tells a cluster whose count is 1 gets its mark. -/
def loneOf (k : List UInt8) (n : Nat) : Nat := if byteAt k (n % 32768) = 1 then n % 32768 + 32768 else n
def FirstOK (V : VolR) (t : Nat) : Prop := TabOK V t ∧ NumsOK (TabOK V) V.C t
theorem SameNum.tabOKs {A B : VolR} (h : SameNum A B) (k : SameNum B A) : TabOK B = TabOK A := by
  funext t
  exact propext ⟨fun x => k.tabOK x, fun x => h.tabOK x⟩
theorem SameNum.symm {A B : VolR} (h : SameNum A B) : SameNum B A := ⟨h.len.symm, fun t ht => (h.low t ht).symm, fun t i hi => (h.zero t i hi).symm, fun t i hi => (h.same t i hi).symm⟩
theorem SameNum.firstOK {A B : VolR} (h : SameNum A B) {t : Nat} (ht : FirstOK A t) : FirstOK B t := by
  unfold FirstOK
  rw [h.tabOKs h.symm]
  exact ⟨ht.1, h.ok ht.2⟩
def loneV (k : List UInt8) (V : VolR) (fs : List Nat) : VolR := fs.foldl (fun V f => renumV (loneOf k) V (tabsOf V f)) V
def markLoneV (V : VolR) : VolR := loneV (cntsOf V.C) V (firstsOf V)

end Go.Proofs.YtknjjjenklfeoaaGreatDoor

/-
  The program's letGo.
-/
namespace Go.Proofs.YtknjjjenklfeoaaGreatDoor
open Go.RowKit Go.Shelf
attribute [local go_sem ↓] loadVar_clus storeVar_clus zeroValue_clus loadVar_tab storeVar_tab zeroValue_tab loadVar_cnt storeVar_cnt zeroValue_cnt loadVar_head storeVar_head zeroValue_head build_head buildSlice_clus loadVar_wr storeVar_wr zeroValue_wr build_wr buildSlice_wr equalIn_clus loadVar_place storeVar_place zeroValue_place build_place loadVar_lst storeVar_lst zeroValue_lst storeVar_ent build_ent
attribute [local go_sem] run_loadClus run_storeClus run_zeroClus run_storeClus_new run_loadClus_new zc_length run_loadTab run_storeTab run_zeroTab run_storeTab_new run_loadTab_new zt_length run_loadCnt run_storeCnt run_zeroCnt run_storeCnt_new run_loadCnt_new zk_length run_loadHead run_storeHead run_zeroHead run_storeHead_new run_bHead HasAt_drew cellsAt_drew HasAt_drewN cellsAt_drewN run_bsClus run_loadWr run_zeroWr run_storeWr run_storeWr_new run_bWr0 run_bsWr run_loadPlace run_storePlace run_zeroPlace run_storePlace_new run_bPlace run_loadLst run_storeLst run_zeroLst run_storeLst_new run_storeEnt run_bEnt
attribute [local go_sem] field_head1 field_head0 Oper.semAt_some
def minus1 (k : List UInt8) (n : Nat) : List UInt8 := k.set n (UInt8.ofNat ((byteAt k n + 255) % 256))
def minus (k : List UInt8) (us : List Nat) : List UInt8 := us.foldl minus1 k
theorem minus_length (k : List UInt8) (us : List Nat) : (minus k us).length = k.length := by
  unfold minus
  induction us generalizing k with
  | nil => rfl
  | cons a r ih => simp only [List.foldl_cons]; rw [ih]; simp [minus1]
def letGoV1 (V : VolR) (us : List Nat) : VolR := flushV (putCnt V (minus (cntsOf V.C) us) 4)
def letGoV (V : VolR) (us : List Nat) : VolR := flushV (markLoneV (letGoV1 V us))
theorem SeqStopsK.all {α : Type} {n gf : Nat} {lb : Array Value} {encs : α → Array Value} {Kp : World → World → Prop} {S Sp : List α → Prop} {N B : Nat} {w : World} (h : SeqStopsK Fence.wide n Tryz.prog gf lb encs Kp S Sp N w) : SeqAll n gf lb encs Kp S N B w :=
  fun l J W hW _ hJ hY h0 => (h l J (fun _ _ => False) W hW (fun s A B row hs hg hr => hJ s A B row hs hg (fun r e => ⟨(hr r e).1, by obtain ⟨_, o, ho, hw⟩ := hr r e; exact ⟨o, ho, Obj.not_cells_of_walk hw⟩⟩)) (fun _ _ _ _ hs _ _ => hs)
    (fun pre x W1 hJ1 hl => yield_mono (hY pre x W1 hJ1 hl) (fun e W' hx => Or.inl hx)) h0).mono (by
    rintro e W' ⟨h1, h2 | ⟨pre, _, h3⟩⟩
    · exact ⟨h1, h2⟩
    · exact h3.elim)
def valsU (pre : List U256) : List Nat := pre.map fun y => y.1
theorem valsU_snoc (pre : List U256) (x : U256) : valsU (pre ++ [x]) = valsU pre ++ [x.1] := by simp [valsU]
/-- The volume is the same. -/
def EqV (a b : VolR) : Prop := a = b

end Go.Proofs.YtknjjjenklfeoaaGreatDoor

/-
  The program's writeNewBlock.
-/
namespace Go.Proofs.YtknjjjenklfeoaaGreatDoor
open Go.RowKit
attribute [local go_sem ↓] loadVar_clus storeVar_clus zeroValue_clus loadVar_tab storeVar_tab zeroValue_tab loadVar_cnt storeVar_cnt zeroValue_cnt loadVar_head storeVar_head zeroValue_head build_head buildSlice_clus loadVar_wr storeVar_wr zeroValue_wr build_wr buildSlice_wr equalIn_clus loadVar_place storeVar_place zeroValue_place build_place
attribute [local go_sem] run_loadClus run_storeClus run_zeroClus run_storeClus_new run_loadClus_new zc_length run_loadTab run_storeTab run_zeroTab run_storeTab_new run_loadTab_new zt_length run_loadCnt run_storeCnt run_zeroCnt run_storeCnt_new run_loadCnt_new zk_length run_loadHead run_storeHead run_zeroHead run_storeHead_new run_bHead HasAt_drew cellsAt_drew HasAt_drewN cellsAt_drewN run_bsClus run_loadWr run_zeroWr run_storeWr run_storeWr_new run_bWr0 run_bsWr run_loadPlace run_storePlace run_zeroPlace run_storePlace_new run_bPlace
attribute [local go_sem] field_head1 field_head0
theorem lowTo_lt (c : List UInt8) (want : Nat) : ∀ k, ∀ n ∈ lowTo c want k, n < k
  | 0, n, hn => by simp [lowTo] at hn
  | k + 1, n, hn => by
    rw [lowTo] at hn
    split at hn
    · have := lowTo_lt c want k n hn; omega
    · split at hn
      · rcases List.mem_append.1 hn with h | h
        · have := lowTo_lt c want k n h; omega
        · rw [List.mem_singleton.1 h]; omega
      · have := lowTo_lt c want k n hn; omega
theorem lowFree_lt (c : List UInt8) (want : Nat) : ∀ n ∈ lowFree c want, n < 256 := lowTo_lt c want 256
theorem row_base {w : World} {b1 b2 : Nat} {e : TypeId} {size : Nat} {v : Value} {n : Nat} {xs : List Value} (h : w.ownsRow b1 e size v n xs) (hb : b2 ≤ b1) : w.ownsRow b2 e size v n xs := by
  obtain ⟨h1, h2⟩ := h
  refine ⟨h1, ?_⟩
  rcases h2 with h2 | ⟨g, cap, cur, rfl, hg, r⟩
  · exact Or.inl h2
  · exact Or.inr ⟨g, cap, cur, rfl, Nat.le_trans hb hg, r⟩
def bsNum (parts : Array (Nat × Value)) : Sem Value := Instr.buildSlice 260 1 parts
theorem buildSlice_num (parts : Array (Nat × Value)) : Instr.buildSlice 260 1 parts = bsNum parts := rfl
theorem run_bsNum {w : World} {n : Nat} : (bsNum #[(0, .int .u16 (n : Nat))]).run Tryz.prog w = .ok (.slice (some ⟨w.heap.size, 0, none⟩) 1 1) (w.alloc (.cells (tv [n]).toArray 167)) :=
  run_buildSlice_one w 260 167 1 (.int .u16 0) (.int .u16 (n : Nat)) Tryz.underlying260 (by kernel_rfl) (by omega) (by omega) (by rfl)
attribute [local go_sem ↓] buildSlice_num
attribute [local go_sem] run_bsNum
end Go.Proofs.YtknjjjenklfeoaaGreatDoor
