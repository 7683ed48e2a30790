import Derived.Test.YtknjjjenklfeoaaGreatDoorP40
import Derived.Test.YtknjjjenklfeoaaGreatDoorP24
import Derived.Test.YtknjjjenklfeoaaGreatDoorP11
import Derived.Test.YtknjjjenklfeoaaGreatDoorP06
import Derived.Test.YtknjjjenklfeoaaGreatDoorP03
import Derived.Test.YtknjjjenklfeoaaGreatDoorP39
import Derived.Test.YtknjjjenklfeoaaGreatDoorP09
import Derived.Test.YtknjjjenklfeoaaGreatDoorP12
/-
  The program's Return and Drop, of a volume.
-/
namespace Go.Proofs.YtknjjjenklfeoaaGreatDoor
open Go.RowKit

attribute [local go_sem ↓] loadVar_clus storeVar_clus zeroValue_clus loadVar_tab storeVar_tab zeroValue_tab loadVar_cnt storeVar_cnt zeroValue_cnt loadVar_head storeVar_head zeroValue_head build_head buildSlice_clus loadVar_wr storeVar_wr zeroValue_wr build_wr buildSlice_wr equalIn_clus loadVar_place storeVar_place zeroValue_place build_place loadVar_lst storeVar_lst zeroValue_lst storeVar_ent build_ent
attribute [local go_sem] run_loadClus run_storeClus run_zeroClus run_storeClus_new run_loadClus_new zc_length run_loadTab run_storeTab run_zeroTab run_storeTab_new run_loadTab_new zt_length run_loadCnt run_storeCnt run_zeroCnt run_storeCnt_new run_loadCnt_new zk_length run_loadHead run_storeHead run_zeroHead run_storeHead_new run_bHead HasAt_drew cellsAt_drew HasAt_drewN cellsAt_drewN run_bsClus run_loadWr run_zeroWr run_storeWr run_storeWr_new run_bWr0 run_bsWr run_loadPlace run_storePlace run_zeroPlace run_storePlace_new run_bPlace run_loadLst run_storeLst run_zeroLst run_storeLst_new run_storeEnt run_bEnt
attribute [local go_sem] field_head1 field_head0 Oper.semAt_some
attribute [local go_sem ↓] loadVar_ent zeroValue_ent
attribute [local go_sem] run_loadEnt run_zeroEnt run_storeEnt_new

attribute [local go_sem] field_ent0 field_ent1

/-- letGo of all that a first table holds. -/
theorem heldGo_any (v : Nat) (V : VolR) (h5 : 5 < V.C.length) (hC : V.C.length ≤ 256) (hL : V.L.length ≤ 600000000) (f : Nat) (hFk : FirstOK V f) (hF : ∀ g ∈ firstsOf (letGoV1 V (heldAll V.C f)), FirstOK (letGoV1 V (heldAll V.C f)) g) (W : World) (C1 L1 : Value) (bv bt : Nat)
    (hV : VolAt W v C1 L1 V) (hbv : W.heap[bv]? = some (.cells #[.pointer (some ⟨v, 0, none⟩)] 82 (0, 0))) (hbt : W.heap[bt]? = some (.cells #[.int .i64 (f : Nat)] 3 (0, 0))) (hft : ¬ foot v C1 L1 bt) (hfv : ¬ foot v C1 L1 bv) :
    Calls Tryz.prog 110 #[.pointer (some ⟨v, 0, none⟩), .func (.func 166) #[] #[.pointer (some ⟨bt, 0, none⟩), .pointer (some ⟨bv, 0, none⟩)]] W fun e w' => e = .returned (.tuple #[]) ∧ ∃ C2 L2, VStep W w' v C1 L1 C2 L2 (letGoV V (heldAll V.C f)) :=
  callsIn_wide.1 (letGo_in W v C1 L1 V hV h5 hC hL 166 #[.pointer (some ⟨bt, 0, none⟩), .pointer (some ⟨bv, 0, none⟩)] (heldAll V.C f) 1057 (enters_of Tryz.func166 (by kernel_rfl) rfl)
    (fun X B hX => held_all 99 (by omega) X v bv bt f B V C1 L1 W hV hC hbv hbt (fun hx => by have := (hX _ hx).1; have := blk_lt hbt; omega) (fun hx => by have := (hX _ hx).1; have := blk_lt hbv; omega) hft hfv (fun k hk => (hX k hk).2) hFk) hF)

def dropW (V : VolR) (i : Nat) : VolR := flushV (putV V 5 (listTo (lessE (entsOf (cl V.C 5)) i) 4))
def firstE (V : VolR) (s : ByteArray) : Nat := ((entsOf (cl V.C 5)).getD (entR V s).1.toNat ze).first
/-- What letGo asks of a volume and a first table. -/
structure Goes (V : VolR) (f : Nat) : Prop where
  len : V.C.length ≤ 256
  own : FirstOK V f
  all : ∀ g ∈ firstsOf (letGoV1 V (heldAll V.C f)), FirstOK (letGoV1 V (heldAll V.C f)) g
def dropR (V : VolR) (s : ByteArray) : VolR × Nat :=
  if (entR V s).2 = 0 then (letGoV (dropW V (entR V s).1.toNat) (heldAll (dropW V (entR V s).1.toNat).C (firstE V s)), 0) else (V, (entR V s).2)

set_option maxHeartbeats 2000000 in
set_option maxRecDepth 100000 in
theorem volDrop_any (w : World) (v : Nat) (Cv Lv : Value) (V : VolR) (h : VolAt w v Cv Lv V) (h5 : 5 < V.C.length) (hC : V.C.length ≤ 256) (hL : V.L.length ≤ 400000000) (s : ByteArray) (hs : s.size ≤ maxLen)
    (hG : (entR V s).2 = 0 → Goes (dropW V (entR V s).1.toNat) (firstE V s)) :
    Calls Tryz.prog 56 #[.pointer (some ⟨v, 0, none⟩), .string s] w fun e w' => e = .returned (.int .i64 ((dropR V s).2 : Nat)) ∧ ∃ C1 L1, VStep w w' v Cv Lv C1 L1 (dropR V s).1 := by
  have He := hide (entry_any w v Cv Lv V h h5 s hs)
  have H := hide h
  clear h
  rcases (show (∃ m, m ≠ 0 ∧ entR V s = (0, m)) ∨ ∃ i, i < lenOf (entsOf (cl V.C 5)) ∧ entR V s = (((i : Nat) : Int), 0) by
    rcases entR_cases V s with (e | e) | ⟨i, hi, e, _⟩
    · exact Or.inl ⟨2, by decide, e⟩
    · exact Or.inl ⟨4, by decide, e⟩
    · exact Or.inr ⟨i, hi, e⟩) with ⟨m, hm, e⟩ | ⟨i, hi, e⟩
  · have hR : dropR V s = (V, m) := by unfold dropR; rw [e, if_neg hm]
    rw [hR]
    rw [e] at He
    dsimp only at He ⊢
    have d0 : (((m : Nat) : Int) != 0) = true := by rw [bne_iff_ne]; omega
    clear hG hR e
    go_enter Tryz.func56, Tryz.ntmps56
    go_wp2_with fail
    refine (unhide He).mono ?_
    rintro e w1 ⟨rfl, hb1⟩
    have B1 := hide ((VStep.refl (unhide H)).later hb1)
    clear hb1 He
    go_wp2
    go_ret
    exact ⟨rfl, _, _, unhide B1⟩
  · have hG := hG (by rw [e])
    have hR : dropR V s = (letGoV (dropW V i) (heldAll (dropW V i).C (firstE V s)), 0) := by unfold dropR; rw [e]; rfl
    have hfe : firstE V s = ((entsOf (cl V.C 5)).getD i ze).first := by unfold firstE; rw [e]; rfl
    rw [hR]
    rw [e] at He hG
    dsimp only at He hG ⊢
    have hG : Goes (dropW V i) (firstE V s) := hG
    have Hl : Hid (∀ W, VolAt W v Cv Lv V → _) := fun W hW => list_vol W v Cv Lv V hW h5
    have hel := entsOf_length (cl V.C 5)
    have hle := lenOf_le (entsOf (cl V.C 5))
    have Hwo : Hid (∀ W, _) := fun W => without_any W (entsOf (cl V.C 5)) hel i (by omega)
    have hsh := (short_ents (cl V.C 5)).less i
    have hll : (lessE (entsOf (cl V.C 5)) i).length = 4 := by unfold lessE; rw [List.length_append, List.length_eraseIdx, hel, if_pos (by omega)]; rfl
    have HPl : Hid (∀ W C1 L1, VolAt W v C1 L1 V → _) := fun W C1 L1 hW => putList_any W v C1 L1 V hW (lessE (entsOf (cl V.C 5)) i) hll hsh (by omega) (by omega)
    have HD : Hid (dropW V i = flushV (putV V 5 (listTo (lessE (entsOf (cl V.C 5)) i) 4))) := rfl
    have hpL := putV_lenL V 5 (listTo (lessE (entsOf (cl V.C 5)) i) 4)
    have hpC := putV_lenC V 5 (listTo (lessE (entsOf (cl V.C 5)) i) 4)
    generalize listTo (lessE (entsOf (cl V.C 5)) i) 4 = lb at *
    generalize lessE (entsOf (cl V.C 5)) i = E' at *
    have HFl : Hid (∀ W C1 L1, VolAt W v C1 L1 (putV V 5 lb) → _) := fun W C1 L1 hW => flush_any W v C1 L1 (putV V 5 lb) hW (by omega)
    have hfL := flushV_lenL (putV V 5 lb)
    have hfC : (flushV (putV V 5 lb)).C.length = (putV V 5 lb).C.length := by rw [flushV_C]
    rw [← unhide HD] at HFl hfL hfC
    generalize putV V 5 lb = V1 at *
    generalize dropW V i = V2 at *
    have HLg : Hid (∀ W C1 L1 bv bt, VolAt W v C1 L1 V2 → _ → _ → _ → _ → _) := fun W C1 L1 bv bt hW => heldGo_any v V2 (by omega) hG.len (by omega) (firstE V s) hG.own hG.all W C1 L1 bv bt hW
    generalize letGoV V2 (heldAll V2.C (firstE V s)) = V3 at *
    rw [hfe] at HLg
    clear hG hfe hR e HD
    generalize entsOf (cl V.C 5) = E at *
    go_enter Tryz.func56, Tryz.ntmps56
    go_wp2_with fail
    refine (unhide He).mono ?_
    rintro e w1 ⟨rfl, hb1⟩
    have E1 := hide ((Env.start (unhide H)).later hb1)
    clear hb1 He
    go_wp2_with fail
    refine (unhide Hl _ (unhide E1).at').mono ?_
    rintro e w2 ⟨rfl, hb2⟩
    have E2 := ((unhide E1).later hb2).lay (.cells (lv E).toArray 144)
    have l1 := blk_has E2.o0 (n := 8) (by rw [lv_length, hel])
    have l2 := blk_cells E2.o0 (n := 8) (by rw [lv_length, hel])
    have E2 := hide E2
    have zll : zl.length = 4 := rfl
    clear hb2 Hl E1
    go_wp2_with fail
    refine (unhide Hwo _).mono ?_
    rintro e w3 ⟨rfl, hb3⟩
    have E3 := hide ((unhide E2).later hb3)
    clear hb3 Hwo E2 l1 l2
    go_wp2_with fail
    refine (unhide HPl _ _ _ (unhide E3).at').mono ?_
    rintro e w4 ⟨rfl, C4, L4, hS4⟩
    have E4 := hide ((unhide E3).does hS4)
    clear hS4 HPl E3
    go_wp2_with fail
    refine (unhide HFl _ _ _ (unhide E4).at').mono ?_
    rintro e w5 ⟨rfl, C5, L5, hS5⟩
    have E5 := (unhide E4).does hS5
    have c5 := ent_first E5.o0 i (by omega)
    have hii : (i : Int) < 4 := by omega
    have E6 := (E5.lay (.cells #[.pointer (some ⟨v, 0, none⟩)] 82)).lay (.cells #[.int .i64 ((E.getD i ze).first : Nat)] 3)
    simp only [World.size_alloc] at E6
    have Hm := hide (held_make w5 v (E.getD i ze).first)
    have E6 := hide E6
    clear hS5 HFl E4 E5
    generalize (E.getD i ze).first = ff at *
    go_wp2_with fail
    refine (unhide Hm).mono ?_
    rintro e w6 ⟨rfl, rfl⟩
    have Hg := hide (unhide HLg _ _ _ _ _ (unhide E6).at' (unhide E6).o1 (unhide E6).o0 (unhide E6).n0 (unhide E6).n1)
    clear HLg Hm c5
    go_wp2_with fail
    refine (unhide Hg).mono ?_
    rintro e w7 ⟨rfl, C7, L7, hS7⟩
    have ES := hide ((unhide E6).does hS7).step
    clear hS7 E6 Hg
    go_wp2
    go_ret
    exact ⟨rfl, _, _, unhide ES⟩
end Go.Proofs.YtknjjjenklfeoaaGreatDoor

/-
  The program's Return, of a volume; Take, Return and Drop of a disk.
-/
namespace Go.Proofs.YtknjjjenklfeoaaGreatDoor
open Go.RowKit

attribute [local go_sem ↓] loadVar_clus storeVar_clus zeroValue_clus loadVar_tab storeVar_tab zeroValue_tab loadVar_cnt storeVar_cnt zeroValue_cnt loadVar_head storeVar_head zeroValue_head build_head buildSlice_clus loadVar_wr storeVar_wr zeroValue_wr build_wr buildSlice_wr equalIn_clus loadVar_place storeVar_place zeroValue_place build_place loadVar_lst storeVar_lst zeroValue_lst storeVar_ent build_ent
attribute [local go_sem] run_loadClus run_storeClus run_zeroClus run_storeClus_new run_loadClus_new zc_length run_loadTab run_storeTab run_zeroTab run_storeTab_new run_loadTab_new zt_length run_loadCnt run_storeCnt run_zeroCnt run_storeCnt_new run_loadCnt_new zk_length run_loadHead run_storeHead run_zeroHead run_storeHead_new run_bHead HasAt_drew cellsAt_drew HasAt_drewN cellsAt_drewN run_bsClus run_loadWr run_zeroWr run_storeWr run_storeWr_new run_bWr0 run_bsWr run_loadPlace run_storePlace run_zeroPlace run_storePlace_new run_bPlace run_loadLst run_storeLst run_zeroLst run_storeLst_new run_storeEnt run_bEnt
attribute [local go_sem] field_head1 field_head0 Oper.semAt_some
attribute [local go_sem ↓] loadVar_ent zeroValue_ent
attribute [local go_sem] run_loadEnt run_zeroEnt run_storeEnt_new

attribute [local go_sem] field_ent0 field_ent1

def retW (V : VolR) (n : Nat) : VolR := flushV (putV V 0 (headBytes (num (cl V.C 0) 4) n))
def returnR (V : VolR) (s : ByteArray) : VolR × Nat :=
  if (entR V s).2 = 0 then
    if (copyR V (firstE V s)).2.2 = 0 then (letGoV (retW (copyR V (firstE V s)).1 (copyR V (firstE V s)).2.1) (heldAll (retW (copyR V (firstE V s)).1 (copyR V (firstE V s)).2.1).C (num (cl (copyR V (firstE V s)).1.C 0) 6)), 0)
    else ((copyR V (firstE V s)).1, (copyR V (firstE V s)).2.2)
  else (V, (entR V s).2)

set_option maxHeartbeats 2000000 in
set_option maxRecDepth 100000 in
theorem volReturn_any (w : World) (v : Nat) (Cv Lv : Value) (V : VolR) (h : VolAt w v Cv Lv V) (h5 : 5 < V.C.length) (hC : V.C.length ≤ 256) (hL : V.L.length ≤ 400000000) (s : ByteArray) (hs : s.size ≤ maxLen)
    (hF : (entR V s).2 = 0 → FirstOK V (firstE V s))
    (hG : (entR V s).2 = 0 → (copyR V (firstE V s)).2.2 = 0 → Goes (retW (copyR V (firstE V s)).1 (copyR V (firstE V s)).2.1) (num (cl (copyR V (firstE V s)).1.C 0) 6)) :
    Calls Tryz.prog 55 #[.pointer (some ⟨v, 0, none⟩), .string s] w fun e w' => e = .returned (.int .i64 ((returnR V s).2 : Nat)) ∧ ∃ C1 L1, VStep w w' v Cv Lv C1 L1 (returnR V s).1 := by
  have He := hide (entry_any w v Cv Lv V h h5 s hs)
  have H := hide h
  clear h
  rcases (show (∃ m, m ≠ 0 ∧ entR V s = (0, m)) ∨ ∃ i, i < lenOf (entsOf (cl V.C 5)) ∧ entR V s = (((i : Nat) : Int), 0) by
    rcases entR_cases V s with (e | e) | ⟨i, hi, e, _⟩
    · exact Or.inl ⟨2, by decide, e⟩
    · exact Or.inl ⟨4, by decide, e⟩
    · exact Or.inr ⟨i, hi, e⟩) with ⟨m, hm, e⟩ | ⟨i, hi, e⟩
  · have hR : returnR V s = (V, m) := by unfold returnR; rw [e, if_neg hm]
    rw [hR]
    rw [e] at He
    dsimp only at He ⊢
    have d0 : (((m : Nat) : Int) != 0) = true := by rw [bne_iff_ne]; omega
    clear hG hF hR e
    go_enter Tryz.func55, Tryz.ntmps55
    go_wp2_with fail
    refine (unhide He).mono ?_
    rintro e w1 ⟨rfl, hb1⟩
    have B1 := hide ((VStep.refl (unhide H)).later hb1)
    clear hb1 He
    go_wp2
    go_ret
    exact ⟨rfl, _, _, unhide B1⟩
  · have h0 : (entR V s).2 = 0 := by rw [e]
    have hF := hF h0
    have hG := hG h0
    have HR : Hid (returnR V s = if (copyR V (firstE V s)).2.2 = 0 then (letGoV (retW (copyR V (firstE V s)).1 (copyR V (firstE V s)).2.1) (heldAll (retW (copyR V (firstE V s)).1 (copyR V (firstE V s)).2.1).C (num (cl (copyR V (firstE V s)).1.C 0) 6)), 0) else ((copyR V (firstE V s)).1, (copyR V (firstE V s)).2.2)) := by
      show _ = _
      unfold returnR
      rw [if_pos h0]
    have hfe : firstE V s = ((entsOf (cl V.C 5)).getD i ze).first := by unfold firstE; rw [e]; rfl
    rw [e] at He
    dsimp only at He
    have Hl : Hid (∀ W, VolAt W v Cv Lv V → _) := fun W hW => list_vol W v Cv Lv V hW h5
    have hel := entsOf_length (cl V.C 5)
    have hle := lenOf_le (entsOf (cl V.C 5))
    have Hx : Hid (∀ W, _) := fun W => run_index_lst W (entsOf (cl V.C 5)) hel i (by omega)
    have Hco : Hid (∀ W, VolAt W v Cv Lv V → _) := fun W hW => copyFirst_any W v Cv Lv V hW h5 hC hL (firstE V s) hF
    obtain ⟨q1, q2, q3, q4⟩ := copyR_len V (firstE V s) hC h5 hF
    generalize copyR V (firstE V s) = R at *
    rw [hfe] at Hco
    obtain ⟨V1, n, er⟩ := R
    dsimp only at q1 q2 q3 q4 HR Hco hG
    clear e h0 hF hfe
    generalize (entsOf (cl V.C 5)).getD i ze = ent at *
    generalize entsOf (cl V.C 5) = E at *
    go_enter Tryz.func55, Tryz.ntmps55
    go_wp2_with fail
    refine (unhide He).mono ?_
    rintro e w1 ⟨rfl, hb1⟩
    have E1 := hide ((Env.start (unhide H)).later hb1)
    clear hb1 He
    go_wp2_with fail
    refine (unhide Hl _ (unhide E1).at').mono ?_
    rintro e w2 ⟨rfl, hb2⟩
    have E2 := hide ((unhide E1).later hb2)
    have hx2 := unhide Hx w2
    clear hb2 Hl E1 Hx
    go_wp2_with fail
    refine (unhide Hco _ (unhide E2).at').mono ?_
    rintro e w3 ⟨rfl, C3, L3, hS3⟩
    have E3 := hide ((unhide E2).does hS3)
    clear hS3 Hco E2 hx2
    by_cases her : er = 0
    · subst her
      have hG := hG rfl
      have hR : Hid (returnR V s = (letGoV (retW V1 n) (heldAll (retW V1 n).C (num (cl V1.C 0) 6)), 0)) := by show _ = _; rw [unhide HR, if_pos rfl]
      have HD : Hid (retW V1 n = flushV (putV V1 0 (headBytes (num (cl V1.C 0) 4) n))) := rfl
      have Hh : Hid (∀ W C1 L1, VolAt W v C1 L1 V1 → _) := fun W C1 L1 hW => head_vol W v C1 L1 V1 hW (by omega)
      have hnl := num_lt (cl V1.C 0) 4
      have HPh : Hid (∀ W C1 L1, VolAt W v C1 L1 V1 → _) := fun W C1 L1 hW => putHead_any W v C1 L1 V1 hW (num (cl V1.C 0) 4) n (by omega) (by omega) (by omega) (by omega)
      have hpL := putV_lenL V1 0 (headBytes (num (cl V1.C 0) 4) n)
      have hpC := putV_lenC V1 0 (headBytes (num (cl V1.C 0) 4) n)
      generalize headBytes (num (cl V1.C 0) 4) n = hb at *
      have HFl : Hid (∀ W C1 L1, VolAt W v C1 L1 (putV V1 0 hb) → _) := fun W C1 L1 hW => flush_any W v C1 L1 (putV V1 0 hb) hW (by omega)
      have hfL := flushV_lenL (putV V1 0 hb)
      have hfC : (flushV (putV V1 0 hb)).C.length = (putV V1 0 hb).C.length := by rw [flushV_C]
      rw [← unhide HD] at HFl hfL hfC
      generalize putV V1 0 hb = V2 at *
      generalize retW V1 n = V3 at *
      generalize num (cl V1.C 0) 6 = old at *
      generalize num (cl V1.C 0) 4 = cc at *
      have HLg : Hid (∀ W C1 L1 bv bt, VolAt W v C1 L1 V3 → _ → _ → _ → _ → _) := fun W C1 L1 bv bt hW => heldGo_any v V3 (by omega) hG.len (by omega) old hG.own hG.all W C1 L1 bv bt hW
      generalize letGoV V3 (heldAll V3.C old) = V4 at *
      clear hG HR HD
      go_wp2_with fail
      refine (unhide Hh _ _ _ (unhide E3).at').mono ?_
      rintro e w4 ⟨rfl, hb4⟩
      have E4 := ((unhide E3).later hb4).lay (.cells (hv cc old).toArray 128)
      have c4 : (w4.alloc (.cells (hv cc old).toArray 128)).cell? ⟨w4.heap.size, 1, none⟩ = some (.int .i64 (old : Nat)) := (cell_blk E4.o0 1).trans rfl
      have f4 := frozen_blk E4.o0
      have E5 := ((unhide E3).later hb4).lay (.cells ((hv cc old).set 1 (.int .i64 (n : Nat))).toArray 128)
      have l1 := blk_has E5.o0 (n := 2) (by rw [List.length_set]; exact hv_length _ _)
      have l2 : cellsAt (w4.alloc (.cells ((hv cc old).set 1 (.int .i64 (n : Nat))).toArray 128)) w4.heap.size 0 2 = hv cc n := (blk_cells E5.o0 (n := 2) (by rw [List.length_set]; exact hv_length _ _)).trans rfl
      have E5 := hide E5
      clear hb4 Hh E3 E4
      go_wp2_with fail
      refine (unhide HPh _ _ _ (unhide E5).at').mono ?_
      rintro e w6 ⟨rfl, C6, L6, hS6⟩
      have E6 := hide ((unhide E5).does hS6)
      clear hS6 HPh E5 l1 l2 c4 f4
      go_wp2_with fail
      refine (unhide HFl _ _ _ (unhide E6).at').mono ?_
      rintro e w7 ⟨rfl, C7, L7, hS7⟩
      have E7 := (((unhide E6).does hS7).lay (.cells #[.pointer (some ⟨v, 0, none⟩)] 82)).lay (.cells #[.int .i64 (old : Nat)] 3)
      simp only [World.size_alloc] at E7
      have Hm := hide (held_make w7 v old)
      have E7 := hide E7
      clear hS7 HFl E6
      go_wp2_with fail
      refine (unhide Hm).mono ?_
      rintro e w8 ⟨rfl, rfl⟩
      have Hg := hide (unhide HLg _ _ _ _ _ (unhide E7).at' (unhide E7).o1 (unhide E7).o0 (unhide E7).n0 (unhide E7).n1)
      clear HLg Hm
      go_wp2_with fail
      refine (unhide Hg).mono ?_
      rintro e w9 ⟨rfl, C9, L9, hS9⟩
      have ES := hide ((unhide E7).does hS9).step
      clear hS9 E7 Hg
      go_wp2
      go_ret
      rw [unhide hR]
      exact ⟨rfl, _, _, unhide ES⟩
    · have hR : Hid (returnR V s = (V1, er)) := by show _ = _; rw [unhide HR, if_neg her]
      have de : (((er : Nat) : Int) != 0) = true := by rw [bne_iff_ne]; omega
      have ES := hide (unhide E3).step
      clear E3 HR
      go_wp2
      go_ret
      rw [unhide hR]
      exact ⟨rfl, _, _, unhide ES⟩

set_option maxHeartbeats 1000000 in
set_option maxRecDepth 100000 in
theorem diskTake_any (w : World) (d v : Nat) (Cv Lv : Value) (V : VolR) (h : DskAt w d v Cv Lv V) (h5 : 5 < V.C.length) (hC : V.C.length ≤ 256) (hL : V.L.length ≤ 400000000) (hF : FirstOK V (num (cl V.C 0) 6)) (s : ByteArray) (hs : s.size ≤ maxLen) :
    Calls Tryz.prog 17 #[.pointer (some ⟨d, 0, none⟩), .string s] w fun e w' => e = .returned (.int .i64 ((takeR V s).2 : Nat)) ∧ ∃ C1 L1, VStep w w' v Cv Lv C1 L1 (takeR V s).1 := by
  have Hm := hide (made_any _ d v Cv Lv V h)
  have c0 := h.c0
  have Hw := hide (volTake_any w v Cv Lv V h.vol h5 hC hL hF s hs)
  clear h hF
  generalize takeR V s = R at *
  obtain ⟨R1, R2⟩ := R
  dsimp only at Hw ⊢
  go_enter Tryz.func17, Tryz.ntmps17
  go_wp2_with fail
  refine (unhide Hm).mono ?_
  rintro e w1 ⟨rfl, rfl⟩
  go_wp2_with fail
  refine (unhide Hw).mono ?_
  rintro e w2 ⟨rfl, C2, L2, hS2⟩
  have ES := hide hS2
  clear hS2 Hw Hm
  go_wp2
  go_ret
  exact ⟨rfl, C2, L2, unhide ES⟩

set_option maxHeartbeats 1000000 in
set_option maxRecDepth 100000 in
theorem diskReturn_any (w : World) (d v : Nat) (Cv Lv : Value) (V : VolR) (h : DskAt w d v Cv Lv V) (h5 : 5 < V.C.length) (hC : V.C.length ≤ 256) (hL : V.L.length ≤ 400000000) (s : ByteArray) (hs : s.size ≤ maxLen)
    (hF : (entR V s).2 = 0 → FirstOK V (firstE V s))
    (hG : (entR V s).2 = 0 → (copyR V (firstE V s)).2.2 = 0 → Goes (retW (copyR V (firstE V s)).1 (copyR V (firstE V s)).2.1) (num (cl (copyR V (firstE V s)).1.C 0) 6)) :
    Calls Tryz.prog 28 #[.pointer (some ⟨d, 0, none⟩), .string s] w fun e w' => e = .returned (.int .i64 ((returnR V s).2 : Nat)) ∧ ∃ C1 L1, VStep w w' v Cv Lv C1 L1 (returnR V s).1 := by
  have Hm := hide (made_any _ d v Cv Lv V h)
  have c0 := h.c0
  have Hw := hide (volReturn_any w v Cv Lv V h.vol h5 hC hL s hs hF hG)
  clear h hF hG
  generalize returnR V s = R at *
  obtain ⟨R1, R2⟩ := R
  dsimp only at Hw ⊢
  go_enter Tryz.func28, Tryz.ntmps28
  go_wp2_with fail
  refine (unhide Hm).mono ?_
  rintro e w1 ⟨rfl, rfl⟩
  go_wp2_with fail
  refine (unhide Hw).mono ?_
  rintro e w2 ⟨rfl, C2, L2, hS2⟩
  have ES := hide hS2
  clear hS2 Hw Hm
  go_wp2
  go_ret
  exact ⟨rfl, C2, L2, unhide ES⟩

set_option maxHeartbeats 1000000 in
set_option maxRecDepth 100000 in
theorem diskDrop_any (w : World) (d v : Nat) (Cv Lv : Value) (V : VolR) (h : DskAt w d v Cv Lv V) (h5 : 5 < V.C.length) (hC : V.C.length ≤ 256) (hL : V.L.length ≤ 400000000) (s : ByteArray) (hs : s.size ≤ maxLen)
    (hG : (entR V s).2 = 0 → Goes (dropW V (entR V s).1.toNat) (firstE V s)) :
    Calls Tryz.prog 29 #[.pointer (some ⟨d, 0, none⟩), .string s] w fun e w' => e = .returned (.int .i64 ((dropR V s).2 : Nat)) ∧ ∃ C1 L1, VStep w w' v Cv Lv C1 L1 (dropR V s).1 := by
  have Hm := hide (made_any _ d v Cv Lv V h)
  have c0 := h.c0
  have Hw := hide (volDrop_any w v Cv Lv V h.vol h5 hC hL s hs hG)
  clear h hG
  generalize dropR V s = R at *
  obtain ⟨R1, R2⟩ := R
  dsimp only at Hw ⊢
  go_enter Tryz.func29, Tryz.ntmps29
  go_wp2_with fail
  refine (unhide Hm).mono ?_
  rintro e w1 ⟨rfl, rfl⟩
  go_wp2_with fail
  refine (unhide Hw).mono ?_
  rintro e w2 ⟨rfl, C2, L2, hS2⟩
  have ES := hide hS2
  clear hS2 Hw Hm
  go_wp2
  go_ret
  exact ⟨rfl, C2, L2, unhide ES⟩
end Go.Proofs.YtknjjjenklfeoaaGreatDoor

/-
  The reference's pictures: Find, there, ReadOf, Return.
-/
namespace Go.Proofs.YtknjjjenklfeoaaGreatDoor
open Go.RowKit
attribute [local go_sem ↓] loadVar_clus storeVar_clus zeroValue_clus loadVar_cont storeVar_cont zeroValue_cont build_disk equalIn_cont loadVar_pic buildSlice_pic equalIn_pic build_pic
attribute [local go_sem] run_loadClus run_storeClus run_zeroClus run_storeClus_new run_loadClus_new zc_length run_loadCont run_storeCont run_zeroCont run_bDisk run_loadPic run_bsPic run_bPic

def refFindFrom (Ps : List PicR) (s : ByteArray) : Nat → Nat → Int
  | 0, _ => -1
  | m + 1, k => if txt (picAt Ps k).name = s then (k : Int) else refFindFrom Ps s m (k + 1)
def refFind (D : DiskR) (s : ByteArray) : Int := refFindFrom D.L s D.L.length 0
theorem pic_name {w : World} {g k : Nat} {Ps : List PicR} (h : w.rangeAt g (k * 4097) (picCells (picAt Ps k))) : w.cell? ⟨g, k * 4097, none⟩ = some (.string (txt (picAt Ps k).name)) := by
  have := h 0 (.string (txt (picAt Ps k).name)) rfl
  rw [Nat.add_zero] at this
  exact this

set_option maxHeartbeats 1000000 in
set_option maxRecDepth 100000 in
theorem refFind_any (w : World) (d : Nat) (Pv : Value) (D : DiskR) (h : DiskAt w d Pv D) (h4 : D.L.length ≤ 1000) (s : ByteArray) :
    Calls Tryz.prog 120 #[.pointer (some ⟨d, 0, none⟩), .string s] w fun e w' => e = .returned (.int .i64 (refFind D s)) ∧ w' = w := by
  obtain ⟨C, L⟩ := D
  obtain ⟨a, cap, hPv⟩ := row_form h.row
  subst hPv
  simp only at h4
  have c0 : w.cell? ⟨d, 4096, none⟩ = some (.slice a L.length cap) := h.cPv
  have HF : Hid (refFind ⟨C, L⟩ s = refFindFrom L s L.length 0) := rfl
  have H := hide h
  clear h
  go_enter Tryz.func120, Tryz.ntmps120
  go_wp2
  go_loopw [5] (fun i w' => ∃ k : Nat, k ≤ L.length ∧ i = .int .i64 k ∧ w' = w ∧ refFindFrom L s L.length 0 = refFindFrom L s (L.length - k) k) (fun i _ => L.length - (intOf i).toNat)
  case atStart => exact ⟨0, by omega, rfl, rfl, rfl⟩
  case round =>
    obtain ⟨k, hk, rfl, rfl, hl⟩ := hrel
    by_cases hlt : k < L.length
    · obtain ⟨g2, cap2, e2, _⟩ := row_some (unhide H).row (show 0 < L.length by omega)
      obtain ⟨rfl, rfl⟩ : a = some ⟨g2, 0, none⟩ ∧ cap = cap2 := by injection e2 with x1 x2 x3; exact ⟨x1, x3⟩
      have rg := pics_range (unhide H).row (unhide H).pics k hlt
      have c1 := pic_name rg
      have hki : (k : Int) < (L.length : Int) := by omega
      rw [show L.length - k = (L.length - (k + 1)) + 1 by omega, refFindFrom] at hl
      clear rg e2
      generalize txt (picAt L k).name = q at *
      by_cases h0 : q = s
      · rw [if_pos h0] at hl
        have Hl := hide hl
        subst h0
        clear hl
        go_wp2
        go_ret
        exact ⟨by rw [unhide HF, unhide Hl]; rfl, by first | rfl | trivial⟩
      · rw [if_neg h0] at hl
        have Hl := hide hl
        have d0 : (q.toList == s.toList) = false := beq_eq_false_iff_ne.2 (fun he => h0 (Go.WideShapes.bytes_inj (by rw [← Go.ByteArray.toList_eq, ← Go.ByteArray.toList_eq]; exact he)))
        clear hl
        go_wp2
        go_roundw
        case rel => exact ⟨k + 1, by omega, by go_num, by first | rfl | trivial, unhide Hl⟩
        case measure => simp [intOf]; omega
    · have hk4 : k = L.length := by omega
      have Hl : Hid (refFindFrom L s L.length 0 = -1) := by
        show _ = _
        rw [hl, hk4, Nat.sub_self]; rfl
      clear hl
      go_wp2
      go_ret
      exact ⟨by rw [unhide HF, unhide Hl]; rfl, by first | rfl | trivial⟩
theorem refFind_some (Ps : List PicR) (s : ByteArray) : ∀ m k, 0 ≤ refFindFrom Ps s m k → ∃ i, k ≤ i ∧ i < k + m ∧ refFindFrom Ps s m k = (i : Int)
  | 0, k, h => by simp [refFindFrom] at h
  | m + 1, k, h => by
    rw [refFindFrom] at h ⊢
    split
    · exact ⟨k, by omega, by omega, rfl⟩
    · rename_i hn
      rw [if_neg hn] at h
      obtain ⟨i, h1, h2, h3⟩ := refFind_some Ps s m (k + 1) h
      exact ⟨i, by omega, by omega, h3⟩
/-- What there answers. -/
def thereR (D : DiskR) (s : ByteArray) : Int × Nat := if isNameB s.data.toList = false then (-1, 2) else if refFind D s < 0 then (-1, 4) else (refFind D s, 0)
theorem thereR_cases (D : DiskR) (s : ByteArray) : (thereR D s = (-1, 2) ∨ thereR D s = (-1, 4)) ∨ ∃ i, i < D.L.length ∧ thereR D s = (((i : Nat) : Int), 0) := by
  unfold thereR
  split
  · exact Or.inl (Or.inl rfl)
  · split
    · exact Or.inl (Or.inr rfl)
    · rename_i h
      obtain ⟨i, _, h2, h3⟩ := refFind_some D.L s D.L.length 0 (by unfold refFind at h; omega)
      have h4 : refFind D s = (i : Int) := h3
      exact Or.inr ⟨i, by omega, by rw [h4]⟩
set_option maxHeartbeats 1000000 in
set_option maxRecDepth 100000 in
theorem there_any (w : World) (d : Nat) (Pv : Value) (D : DiskR) (h : DiskAt w d Pv D) (h4 : D.L.length ≤ 1000) (s : ByteArray) (hs : s.size ≤ maxLen) :
    Calls Tryz.prog 123 #[.pointer (some ⟨d, 0, none⟩), .string s] w fun e w' => e = .returned (.tuple #[.int .i64 (thereR D s).1, .int .i64 ((thereR D s).2 : Nat)]) ∧ Below w.heap.size w w' := by
  have Hi := hide (isName_any s w hs)
  have Hf := hide (refFind_any w d Pv D h h4 s)
  have HT : Hid (thereR D s = if isNameB s.data.toList = false then (-1, 2) else if refFind D s < 0 then (-1, 4) else (refFind D s, 0)) := rfl
  clear h
  generalize isNameB s.data.toList = b at *
  generalize refFind D s = f at *
  go_enter Tryz.func123, Tryz.ntmps123
  go_wp2_with fail
  refine (unhide Hi).mono ?_
  rintro e w1 ⟨rfl, rfl⟩
  go_wp2_with fail
  refine (unhide Hf).mono ?_
  rintro e w2 ⟨rfl, rfl⟩
  cases b with
  | false =>
    rw [if_pos rfl] at HT
    go_wp2
    go_ret2
    exact ⟨by rw [unhide HT]; rfl, Below.refl _ _⟩
  | true =>
    rw [if_neg (by decide)] at HT
    by_cases hf : f < 0
    · have df : decide (f < 0) = true := decide_eq_true hf
      rw [if_pos hf] at HT
      go_wp2
      go_ret2
      exact ⟨by rw [unhide HT]; rfl, Below.refl _ _⟩
    · have df : decide (f < 0) = false := decide_eq_false hf
      rw [if_neg hf] at HT
      go_wp2
      go_ret2
      exact ⟨by rw [unhide HT]; rfl, Below.refl _ _⟩

def refReadOf (D : DiskR) (s : ByteArray) (n : Int) : Clus × Nat :=
  if (thereR D s).2 = 0 then if blockB n then (cl (picAt D.L (thereR D s).1.toNat).C n.toNat, 0) else (zc, 1) else (zc, (thereR D s).2)
theorem pic_block {w : World} {g k : Nat} {Ps : List PicR} (hp : ∀ p ∈ Ps, Cont p.C) (hk : k < Ps.length) (h : w.rangeAt g (k * 4097) (picCells (picAt Ps k))) (b : Nat) (hb : b < 64) : w.rangeAt g (k * 4097 + 1 + b * 64) (cv (cl (picAt Ps k).C b)) := by
  have hc := hp _ (picAt_mem hk)
  intro j v hv
  have hl := cl_length hc.all (k := b) (by have := hc.len; omega)
  have hj := (List.getElem?_eq_some_iff.1 hv).1
  rw [cv_length, hl] at hj
  have h1 := h ((b * 64 + j) + 1) v (by
    unfold picCells
    rw [List.getElem?_cons_succ, flatC_range _ hc.all b (by have := hc.len; omega) j hj]
    exact hv)
  rw [show k * 4097 + 1 + b * 64 + j = k * 4097 + ((b * 64 + j) + 1) by omega]
  exact h1
theorem pic_cont {w : World} {g k : Nat} {Ps : List PicR} (h : w.rangeAt g (k * 4097) (picCells (picAt Ps k))) : w.rangeAt g (k * 4097 + 1) (flatC (picAt Ps k).C) := by
  intro j v hv
  have h1 := h (j + 1) v (by unfold picCells; rw [List.getElem?_cons_succ]; exact hv)
  rw [show k * 4097 + 1 + j = k * 4097 + (j + 1) by omega]
  exact h1

set_option maxHeartbeats 1000000 in
set_option maxRecDepth 100000 in
theorem refReadOf_any (w : World) (d : Nat) (Pv : Value) (D : DiskR) (h : DiskAt w d Pv D) (h4 : D.L.length ≤ 1000) (s : ByteArray) (hs : s.size ≤ maxLen) (n : Int) :
    Calls Tryz.prog 127 #[.pointer (some ⟨d, 0, none⟩), .string s, .int .i64 n] w fun e w' => e = .returned (.tuple #[.agg (cv (refReadOf D s n).1).toArray, .int .i64 ((refReadOf D s n).2 : Nat)]) ∧ Below w.heap.size w w' := by
  obtain ⟨C, L⟩ := D
  have L0 := Locs.one w (.cells (cv zc).toArray 38)
  have Ht := hide (there_any _ d Pv ⟨C, L⟩ (h.below L0.below) h4 s hs)
  have H := hide h
  have L0 := hide L0
  obtain ⟨a, cap, hPv⟩ := row_form h.row
  subst hPv
  simp only at h4
  have HR : Hid (refReadOf ⟨C, L⟩ s n = if (thereR ⟨C, L⟩ s).2 = 0 then if blockB n then (cl (picAt L (thereR ⟨C, L⟩ s).1.toNat).C n.toNat, 0) else (zc, 1) else (zc, (thereR ⟨C, L⟩ s).2)) := rfl
  have Hb : Hid (∀ W, _) := fun W => isBlock_any n W
  clear h
  rcases (show (∃ m, m ≠ 0 ∧ thereR ⟨C, L⟩ s = (-1, m)) ∨ ∃ i, i < L.length ∧ thereR ⟨C, L⟩ s = (((i : Nat) : Int), 0) by
    rcases thereR_cases ⟨C, L⟩ s with (e | e) | ⟨i, hi, e⟩
    · exact Or.inl ⟨2, by decide, e⟩
    · exact Or.inl ⟨4, by decide, e⟩
    · exact Or.inr ⟨i, hi, e⟩) with ⟨m, hm, e⟩ | ⟨i, hi, e⟩
  · rw [e, if_neg hm] at HR
    rw [e] at Ht
    dsimp only at Ht HR
    have d0 : (((m : Nat) : Int) != 0) = true := by rw [bne_iff_ne]; omega
    clear e
    go_enter Tryz.func127, Tryz.ntmps127
    go_wp2_with fail
    refine (unhide Ht).mono ?_
    rintro e w1 ⟨rfl, hb1⟩
    have L1 := (unhide L0).later hb1
    have th := there_blk L1.o0 0 64 (by simp [cv_length, zc_length])
    have L3 := L1.setCells 0 rfl 0 (cv zc)
    rw [Nat.add_zero, setList_all _ _ (by simp [cv_length, zc_length])] at L3
    have l3 := box_has L3.o0 zc_length
    have l4 := box_cells L3.o0 zc_length
    have HB := hide L3.below
    clear L3 L1 hb1 Ht L0
    go_wp2
    rw [unhide HR]
    refine bodyPost_ret (v := .tuple #[.agg (cv zc).toArray, .int .i64 (m : Nat)]) (by rw [results_cell_tmp Tryz.results127]; simp only [loadVar_clus]; simp [asAddr, run_loadClus l3, l4]) rfl ⟨rfl, unhide HB⟩
  · rw [e] at HR Ht
    dsimp only at Ht HR
    rw [if_pos rfl, Int.toNat_natCast] at HR
    cases hb : blockB n with
    | false =>
      rw [hb, if_neg (by decide)] at HR
      rw [hb] at Hb
      clear e
      go_enter Tryz.func127, Tryz.ntmps127
      go_wp2_with fail
      refine (unhide Ht).mono ?_
      rintro e w1 ⟨rfl, hb1⟩
      have L1 := (unhide L0).later hb1
      have th := there_blk L1.o0 0 64 (by simp [cv_length, zc_length])
      have L3 := L1.setCells 0 rfl 0 (cv zc)
      rw [Nat.add_zero, setList_all _ _ (by simp [cv_length, zc_length])] at L3
      have l3 := box_has L3.o0 zc_length
      have l4 := box_cells L3.o0 zc_length
      have HB := hide L3.below
      clear L3 L1 hb1 Ht L0
      go_wp2_with fail
      refine (unhide Hb _).mono ?_
      rintro e w2 ⟨rfl, rfl⟩
      go_wp2
      rw [unhide HR]
      refine bodyPost_ret (v := .tuple #[.agg (cv zc).toArray, .int .i64 1]) (by rw [results_cell_tmp Tryz.results127]; simp only [loadVar_clus]; simp [asAddr, run_loadClus l3, l4]) rfl ⟨rfl, unhide HB⟩
    | true =>
      rw [hb, if_pos rfl] at HR
      rw [hb] at Hb
      have hn : 0 ≤ n ∧ n < 64 := by simpa [blockB] using hb
      obtain ⟨k, rfl⟩ := Int.eq_ofNat_of_zero_le hn.1
      rw [Int.toNat_natCast] at HR
      have hk : k < 64 := by omega
      have hki : (k : Int) < 64 := by omega
      have hii : (i : Int) < (L.length : Int) := by omega
      obtain ⟨g2, cap2, e2, _⟩ := row_some (unhide H).row (show 0 < L.length by omega)
      obtain ⟨rfl, rfl⟩ : a = some ⟨g2, 0, none⟩ ∧ cap = cap2 := by injection e2 with x1 x2 x3; exact ⟨x1, x3⟩
      clear e e2 hb hn
      go_enter Tryz.func127, Tryz.ntmps127
      go_wp2_with fail
      refine (unhide Ht).mono ?_
      rintro e w1 ⟨rfl, hb1⟩
      have L1 := (unhide L0).later hb1
      have hD1 := (unhide H).below L1.below
      have c1 : w1.cell? ⟨d, 4096, none⟩ = some (.slice (some ⟨g2, 0, none⟩) L.length cap) := hD1.cPv
      have hpc := hD1.pics _ (picAt_mem hi)
      have hcl := cl_length hpc.all (k := k) (by have := hpc.len; omega)
      have rg := pic_block hD1.pics hi (pics_range hD1.row hD1.pics i hi) k hk
      have r1 := hasAt_of_range (n := 64) rg (by rw [cv_length, hcl])
      have r2 := cellsAt_of_range (n := 64) rg (by rw [cv_length, hcl])
      have th := there_blk L1.o0 0 64 (by simp [cv_length, zc_length])
      generalize cl (picAt L i).C k = c at *
      have L3 := L1.setCells 0 rfl 0 (cv c)
      rw [Nat.add_zero, setList_all _ _ (by simp [cv_length, zc_length, hcl])] at L3
      have l3 := box_has L3.o0 hcl
      have l4 := box_cells L3.o0 hcl
      have HB := hide L3.below
      clear L3 L1 hb1 Ht L0 hD1 rg
      go_wp2_with fail
      refine (unhide Hb _).mono ?_
      rintro e w2 ⟨rfl, rfl⟩
      go_wp2
      rw [unhide HR]
      refine bodyPost_ret (v := .tuple #[.agg (cv c).toArray, .int .i64 0]) (by rw [results_cell_tmp Tryz.results127]; simp only [loadVar_clus]; simp [asAddr, run_loadClus l3, l4]) rfl ⟨rfl, unhide HB⟩
end Go.Proofs.YtknjjjenklfeoaaGreatDoor

/-
  The program's List.
-/
namespace Go.Proofs.YtknjjjenklfeoaaGreatDoor
open Go.RowKit

attribute [local go_sem ↓] loadVar_clus storeVar_clus zeroValue_clus loadVar_tab storeVar_tab zeroValue_tab loadVar_cnt storeVar_cnt zeroValue_cnt loadVar_head storeVar_head zeroValue_head build_head buildSlice_clus loadVar_wr storeVar_wr zeroValue_wr build_wr buildSlice_wr equalIn_clus loadVar_place storeVar_place zeroValue_place build_place loadVar_lst storeVar_lst zeroValue_lst storeVar_ent build_ent
attribute [local go_sem] run_loadClus run_storeClus run_zeroClus run_storeClus_new run_loadClus_new zc_length run_loadTab run_storeTab run_zeroTab run_storeTab_new run_loadTab_new zt_length run_loadCnt run_storeCnt run_zeroCnt run_storeCnt_new run_loadCnt_new zk_length run_loadHead run_storeHead run_zeroHead run_storeHead_new run_bHead HasAt_drew cellsAt_drew HasAt_drewN cellsAt_drewN run_bsClus run_loadWr run_zeroWr run_storeWr run_storeWr_new run_bWr0 run_bsWr run_loadPlace run_storePlace run_zeroPlace run_storePlace_new run_bPlace run_loadLst run_storeLst run_zeroLst run_storeLst_new run_storeEnt run_bEnt
attribute [local go_sem] field_head1 field_head0 Oper.semAt_some
attribute [local go_sem ↓] loadVar_ent zeroValue_ent
attribute [local go_sem] run_loadEnt run_zeroEnt run_storeEnt_new


theorem Tryz.infoStr : (Tryz.prog.info? 9).map (fun i => (i.zero, i.size, i.bytes)) = some (some (.string ⟨#[]⟩), 1, 16) := by kernel_rfl
def sv (N : List (List UInt8)) : List Value := N.map fun s => .string (txt s)
theorem sv_length (N : List (List UInt8)) : (sv N).length = N.length := by simp [sv]
theorem sv_snoc (N : List (List UInt8)) (s : List UInt8) : sv (N ++ [s]) = sv N ++ [.string (txt s)] := by simp [sv]
def namesTo (E : List EntR) (k : Nat) : List (List UInt8) := (E.take k).map (·.name)
theorem namesTo_len (E : List EntR) (k : Nat) (hk : k ≤ E.length) : (namesTo E k).length = k := by simp [namesTo]; omega
theorem namesTo_succ (E : List EntR) (k : Nat) (hk : k < E.length) : namesTo E (k + 1) = namesTo E k ++ [(E.getD k ze).name] := by
  unfold namesTo
  rw [List.take_succ_eq_append_getElem hk, List.map_append, List.getD_eq_getElem?_getD, List.getElem?_eq_getElem hk]; rfl

theorem strs_ne {w : World} {b base n : Nat} {x : Value} {xs : List Value} {cs : Array Value} (hr : w.ownsRow base 9 1 x n xs) (hb : w.heap[b]? = some (.cells cs 144 (0, 0))) : ∀ g, x.ownBlock = some g → g ≠ b := by
  obtain ⟨_, h2⟩ := hr
  rcases h2 with ⟨rfl, _⟩ | ⟨g', cap', cur, rfl, _, h3, _⟩
  · intro g hg; cases hg
  · intro g hg e
    simp only [Value.ownBlock, Option.some.injEq] at hg
    rw [hg, e, hb] at h3
    cases h3
set_option maxHeartbeats 1000000 in
set_option maxRecDepth 100000 in
theorem volList_any (w : World) (v : Nat) (Cv Lv : Value) (V : VolR) (h : VolAt w v Cv Lv V) (h5 : 5 < V.C.length) :
    Calls Tryz.prog 51 #[.pointer (some ⟨v, 0, none⟩)] w fun e w' => ∃ x, e = .returned x ∧ w'.ownsRow w.heap.size 9 1 x (lenOf (entsOf (cl V.C 5))) (sv (namesTo (entsOf (cl V.C 5)) (lenOf (entsOf (cl V.C 5))))) ∧ Below w.heap.size w w' := by
  obtain ⟨i0, hi0, hz0, hz1, hz2⟩ := info_parts Tryz.infoStr
  have Hl := hide (list_vol w v Cv Lv V h h5)
  have hel := entsOf_length (cl V.C 5)
  have hle := lenOf_le (entsOf (cl V.C 5))
  have Hle : Hid (∀ W, _) := fun W => len_any W (entsOf (cl V.C 5)) hel
  have zll : zl.length = 4 := rfl
  clear h
  generalize entsOf (cl V.C 5) = E at *
  generalize lenOf E = n0 at *
  have hli : (n0 : Int) ≤ 4 := by omega
  go_enter Tryz.func51, Tryz.ntmps51
  go_wp2_with fail
  refine (unhide Hl).mono ?_
  rintro e w1 ⟨rfl, hb1⟩
  have hw1 := hb1.size
  have B1 := hide (hb1.alloc hb1.size (.cells (lv E).toArray 144))
  have b1 : (w1.alloc (.cells (lv E).toArray 144)).heap[w1.heap.size]? = some (.cells (lv E).toArray 144 (0, 0)) := heap_alloc_new _ _
  have l1 := blk_has b1 (n := 8) (by rw [lv_length, hel])
  have l2 := blk_cells b1 (n := 8) (by rw [lv_length, hel])
  have b1 := hide b1
  clear hb1 Hl
  go_wp2_with fail
  refine (unhide Hle _).mono ?_
  rintro e w2 ⟨rfl, hb2⟩
  have hb2s : w1.heap.size < w2.heap.size := by have := hb2.size; simp at this; omega
  have B2 := hide ((unhide B1).trans (hb2.mono (unhide B1).size))
  have b2 := hide ((hb2.block _ (blk_lt (unhide b1))).trans (unhide b1))
  clear hb2 Hle B1 b1 l1 l2
  go_wp2
  go_loopw [3, 6, 13] (fun f _ i w' => ∃ k : Nat, k ≤ n0 ∧ i = .int .i64 k ∧ w'.ownsRow w.heap.size 9 1 f k (sv (namesTo E k)) ∧ Below w.heap.size w w' ∧ w'.heap[w1.heap.size]? = some (.cells (lv E).toArray 144 (0, 0))) (fun _ _ i _ => n0 - (intOf i).toNat)
  case atStart => exact ⟨0, by omega, rfl, World.ownsRow_nil _ _ _ _, unhide B2, unhide b2⟩
  case round =>
    obtain ⟨k, hk, rfl, hrow, hb, hbx⟩ := hrel
    obtain ⟨fa, fcap, rfl⟩ := row_form hrow
    by_cases hlt : k < n0
    · have hki : (k : Int) < (n0 : Int) := by omega
      have hkE : k < E.length := by omega
      have l1 := hasAt_of_range (n := 2) (ent_range hbx k hkE) rfl
      have l2 := cellsAt_of_range (n := 2) (ent_range hbx k hkE) rfl
      have hs := namesTo_succ E k hkE
      have hnl := namesTo_len E k (by omega)
      generalize E.getD k ze = p at *
      have c5 : (wr.alloc (.cells (ev p).toArray 142)).cell? ⟨wr.heap.size, 0, none⟩ = some (.string (txt p.name)) := (cell_new wr _ _ _ 0).trans rfl
      have Hrow := hide (hrow.alloc (.cells (ev p).toArray 142))
      have Hb := hide (hb.alloc hb.size (.cells (ev p).toArray 142))
      have Hbx : Hid ((wr.alloc (.cells (ev p).toArray 142)).heap[w1.heap.size]? = some (.cells (lv E).toArray 144 (0, 0))) := (heap_alloc_old _ _ (blk_lt hbx)).trans hbx
      have hne : ∀ g, (Value.slice fa k fcap).ownBlock = some g → g ≠ w1.heap.size := strs_ne hrow hbx
      clear hrow hb hbx
      generalize hwA : wr.alloc (.cells (ev p).toArray 142) = wA at *
      go_wp2_with (at_builtin; refine wpList_append_lies _ rfl _ _ _ rfl w.heap.size 9 i0 _ 1 16 Tryz.underlying34 hi0 hz0 hz1 hz2 rfl (by omega) (.slice fa k fcap) k (sv (namesTo E k)) rfl ((unhide Hrow).alloc _) ⟨wA.heap.size, 0, none⟩ 1 1 [.string (txt p.name)] rfl rfl (World.news_of_block (cs := #[.string (txt p.name)]) (t := 9) (fr := (0, 0)) (heap_alloc_new wA _)) (by simp [Value.oneCell']) (by omega) (by unfold maxLen; omega) (by omega) (by have := (unhide Hb).size; simp; omega) (wA.heap.size + 1) (by simp) ?_; intro g5 cap5 w5 hown5 hgrow hat hlt5)
      have S5 := hide (((unhide Hb).alloc (unhide Hb).size (.cells #[.string (txt p.name)] 9)).grown hgrow (by have := (unhide Hb).size; simp; omega) (fun k hk => ((unhide Hrow).lt k hk).1))
      have hbx5 : w5.heap[w1.heap.size]? = some (.cells (lv E).toArray 144 (0, 0)) := by
        rw [hgrow.block _ (by have := blk_lt (unhide Hbx); simp; omega) (fun e => hne _ e.symm rfl), heap_alloc_old _ _ (blk_lt (unhide Hbx))]
        exact unhide Hbx
      go_roundw
      case rel => exact ⟨k + 1, by omega, by go_num, by rw [hs, sv_snoc]; exact hown5, unhide S5, hbx5⟩
      case measure => simp [intOf]; omega
    · have hk4 : k = n0 := by omega
      subst hk4
      have Hrow := hide hrow
      have Hb := hide hb
      clear hrow hb
      go_wp2
      go_ret
      exact ⟨_, rfl, unhide Hrow, unhide Hb⟩

set_option maxHeartbeats 1000000 in
set_option maxRecDepth 100000 in
theorem diskList_any (w : World) (d v : Nat) (Cv Lv : Value) (V : VolR) (h : DskAt w d v Cv Lv V) (h5 : 5 < V.C.length) :
    Calls Tryz.prog 21 #[.pointer (some ⟨d, 0, none⟩)] w fun e w' => ∃ x, e = .returned x ∧ w'.ownsRow w.heap.size 9 1 x (lenOf (entsOf (cl V.C 5))) (sv (namesTo (entsOf (cl V.C 5)) (lenOf (entsOf (cl V.C 5))))) ∧ Below w.heap.size w w' := by
  have Hm := hide (made_any _ d v Cv Lv V h)
  have c0 := h.c0
  have Hw := hide (volList_any w v Cv Lv V h.vol h5)
  clear h
  go_enter Tryz.func21, Tryz.ntmps21
  go_wp2_with fail
  refine (unhide Hm).mono ?_
  rintro e w1 ⟨rfl, rfl⟩
  go_wp2_with fail
  refine (unhide Hw).mono ?_
  rintro e w2 ⟨x, rfl, hx, hb⟩
  have Hx := hide hx
  have Hb := hide hb
  clear hx hb Hw Hm
  go_wp2
  go_ret
  exact ⟨x, rfl, unhide Hx, unhide Hb⟩
end Go.Proofs.YtknjjjenklfeoaaGreatDoor
