import Derived.Test.YtknjjjenklfeoaaGreatDoorP28
import Derived.Test.YtknjjjenklfeoaaGreatDoorP27
import Derived.Test.YtknjjjenklfeoaaGreatDoorP10
import Derived.Test.YtknjjjenklfeoaaGreatDoorP11
/-
  checkList: is the list as it must be?
-/
namespace Go.Proofs.YtknjjjenklfeoaaGreatDoor
open Go.RowKit
attribute [local go_sem ↓] loadVar_clus storeVar_clus zeroValue_clus loadVar_tab storeVar_tab zeroValue_tab loadVar_cnt storeVar_cnt zeroValue_cnt loadVar_head storeVar_head zeroValue_head build_head buildSlice_clus loadVar_wr storeVar_wr zeroValue_wr build_wr buildSlice_wr equalIn_clus loadVar_place storeVar_place zeroValue_place build_place loadVar_lst storeVar_lst zeroValue_lst storeVar_ent build_ent
attribute [local go_sem] run_loadClus run_storeClus run_zeroClus run_storeClus_new run_loadClus_new zc_length run_loadTab run_storeTab run_zeroTab run_storeTab_new run_loadTab_new zt_length run_loadCnt run_storeCnt run_zeroCnt run_storeCnt_new run_loadCnt_new zk_length run_loadHead run_storeHead run_zeroHead run_storeHead_new run_bHead HasAt_drew cellsAt_drew HasAt_drewN cellsAt_drewN run_bsClus run_loadWr run_zeroWr run_storeWr run_storeWr_new run_bWr0 run_bsWr run_loadPlace run_storePlace run_zeroPlace run_storePlace_new run_bPlace run_loadLst run_storeLst run_zeroLst run_storeLst_new run_storeEnt run_bEnt
attribute [local go_sem] field_head1 field_head0 Oper.semAt_some
attribute [local go_sem ↓] loadVar_ent zeroValue_ent
attribute [local go_sem] run_loadEnt run_zeroEnt run_storeEnt_new
attribute [local go_sem ↓] equalIn_clus
def eqEnt (x y : Value) : Sem Bool := Op.equalIn 10000 142 x y
theorem equalIn_ent (x y : Value) : Op.equalIn 10000 142 x y = eqEnt x y := rfl
theorem part_ent0 (p : EntR) (w : World) : (part 9 (ev p).toArray 0).run Tryz.prog w = .ok (.string (txt p.name)) w := by
  have ha : (isAgg 9).run Tryz.prog w = .ok false w := by unfold isAgg; rw [Sem.run_bind, run_underlying Tryz.underlying9 w]; rfl
  unfold part
  rw [Sem.run_bind, ha]
  rfl
theorem part_ent1 (p : EntR) (w : World) : (part 3 (ev p).toArray 1).run Tryz.prog w = .ok (.int .i64 (p.first : Nat)) w := by
  have ha : (isAgg 3).run Tryz.prog w = .ok false w := by unfold isAgg; rw [Sem.run_bind, run_underlying Tryz.underlying3 w]; rfl
  unfold part
  rw [Sem.run_bind, ha]
  rfl
theorem run_eqEnt (p : EntR) (w : World) : (eqEnt (.agg (ev p).toArray) (.agg (ev ze).toArray)).run Tryz.prog w = .ok (decide (p.name = []) && decide (p.first = 0)) w := by
  have hs : Tryz.prog.stoodInHeld 142 = false := by kernel_rfl
  have h0 : (Op.equalIn 9999 9 (.string (txt p.name)) (.string (txt ze.name))).run Tryz.prog w = .ok ((txt p.name).toList == (txt ze.name).toList) w := run_equalIn_string (P := Tryz.prog) w 9998 9 (txt p.name) (txt ze.name) Tryz.underlying9
  rw [txt_toList, txt_toList] at h0
  have h1 : (Op.equalIn 9999 3 (.int .i64 (p.first : Nat)) (.int .i64 (ze.first : Nat))).run Tryz.prog w = .ok (((p.first : Nat) : Int) == ((ze.first : Nat) : Int)) w := run_equalIn_int (P := Tryz.prog) (w := w) 9998 3 .i64 _ _ _ Tryz.underlying3
  show (Op.equalIn (9999 + 1) 142 _ _).run Tryz.prog w = _
  rw [Op.equalIn]
  simp only [Sem.run_bind, run_underlying Tryz.underlying142, Result.andThen_ok, run_program, hs, Bool.false_eq_true, if_false]
  rw [← Array.forIn_toList]
  by_cases e : p.name = []
  · have e' : (p.name == ze.name) = true := by rw [e]; rfl
    rw [e'] at h0
    rw [decide_eq_true e, Bool.true_and]
    by_cases e2 : p.first = 0
    · have e3 : (((p.first : Nat) : Int) == ((ze.first : Nat) : Int)) = true := by rw [e2]; rfl
      rw [e3] at h1
      rw [decide_eq_true e2]
      simp only [List.forIn_cons, List.forIn_nil, Sem.run_bind, part_ent0, part_ent1, Result.andThen_ok, h0, h1, ne_eq, String.reduceEq, not_false_eq_true, if_true, Bool.not_true, Bool.false_eq_true, if_false, Sem.run_pure]
    · have e3 : (((p.first : Nat) : Int) == ((ze.first : Nat) : Int)) = false := by
        rw [beq_eq_false_iff_ne]
        show ((p.first : Nat) : Int) ≠ ((0 : Nat) : Int)
        omega
      rw [e3] at h1
      rw [decide_eq_false e2]
      simp only [List.forIn_cons, List.forIn_nil, Sem.run_bind, part_ent0, part_ent1, Result.andThen_ok, h0, h1, ne_eq, String.reduceEq, not_false_eq_true, if_true, Bool.not_true, Bool.not_false, Bool.false_eq_true, if_false, Sem.run_pure]
  · have e' : (p.name == ze.name) = false := by
      rw [beq_eq_false_iff_ne]; exact e
    rw [e'] at h0
    rw [decide_eq_false e, Bool.false_and]
    simp only [List.forIn_cons, List.forIn_nil, Sem.run_bind, part_ent0, Result.andThen_ok, h0, ne_eq, String.reduceEq, not_false_eq_true, if_true, Bool.not_false, Sem.run_pure]
attribute [local go_sem ↓] equalIn_ent
attribute [local go_sem] run_bEnt0
theorem ents_short {c : Clus} (hc : c.length = 64) : Short (entsOf c) := fun k => by
  rw [List.getD_eq_getElem?_getD]
  by_cases hk : k < 4
  · unfold entsOf
    rw [List.getElem?_map, List.getElem?_range hk]
    refine ⟨?_, num_lt _ _⟩
    show ((nameBytes c k).take (cutLen (nameBytes c k))).length ≤ 12
    have := nameBytes_length c k hc hk
    rw [List.length_take]
    omega
  · rw [List.getElem?_eq_none (by rw [entsOf_length]; omega)]
    exact ⟨by decide, by decide⟩
set_option maxHeartbeats 4000000 in
set_option maxRecDepth 100000 in
theorem checkList_any (w : World) (v : Nat) (Cv Lv : Value) (V : VolR) (h : VolAt w v Cv Lv V) (hG : Glob w) (h5 : 5 < V.C.length) :
    Calls Tryz.prog 93 #[.pointer (some ⟨v, 0, none⟩)] w fun e w' => ((listGood (cl V.C 5) = true ∧ e = .returned .nilIface) ∨ (listGood (cl V.C 5) = false ∧ ∃ x, isIface x ∧ e = .returned (faultV 5 x))) ∧ Below w.heap.size w w' := by
  have hc := cl_length h.lenC h5
  have hel := entsOf_length (cl V.C 5)
  have hsh := ents_short hc
  have Hli := hide (list_vol w v Cv Lv V h h5)
  have Hat := hide (fun W (hb : Below w.heap.size w W) => at_any W v Cv Lv V (h.below hb) 5 h5)
  have Hcl := hide (fun W => listCluster_any W (entsOf (cl V.C 5)) hel hsh)
  have HGd : Hid (listGood (cl V.C 5) = (decide (listTo (entsOf (cl V.C 5)) 4 = cl V.C 5) && (allFrom (entGood (entsOf (cl V.C 5))) (lenOf (entsOf (cl V.C 5))) 0 && allFrom (emptyB (entsOf (cl V.C 5))) (4 - lenOf (entsOf (cl V.C 5))) (lenOf (entsOf (cl V.C 5)))))) := rfl
  have hll : (listTo (entsOf (cl V.C 5)) 4).length = 64 := listTo_length hsh 4 (by omega)
  have HG := hide hG
  clear h hG
  generalize listGood (cl V.C 5) = GG at *
  generalize cl V.C 5 = c at *
  generalize entsOf c = E at *
  generalize listTo E 4 = cc at *
  go_enter Tryz.func93, Tryz.ntmps93
  go_wp2_with fail
  refine (unhide Hli).mono ?_
  rintro e w1 ⟨rfl, hb1⟩
  have HB1 := hide (hb1.alloc hb1.size (.cells (lv E).toArray 144))
  have HX := hide (heap_alloc_new w1 (.cells (lv E).toArray 144))
  have zll : zl.length = 4 := rfl
  clear hb1 Hli
  go_wp2_with fail
  generalize hW2 : w1.alloc (.cells (lv E).toArray 144) = w2 at *
  clear hW2
  have hx0 : ∀ d os, (Go.Sort.grow (redrawn w2 d) os).heap[w1.heap.size]? = some (.cells (lv E).toArray 144 (0, 0)) := fun d os => ((below_regrown w2 d os).block _ (blk_lt (unhide HX))).trans (unhide HX)
  have k1 : ∀ d os, HasAt (Go.Sort.grow (redrawn w2 d) os) w1.heap.size 0 8 := fun d os => blk_has (hx0 d os) (by rw [lv_length, hel])
  have k2 : ∀ d os, cellsAt (Go.Sort.grow (redrawn w2 d) os) w1.heap.size 0 8 = lv E := fun d os => blk_cells (hx0 d os) (by rw [lv_length, hel])
  have Hn1 := hide (fun d os => unhide Hcl (Go.Sort.grow (redrawn w2 d) os))
  have Hn2 := hide (fun d os => unhide Hat (Go.Sort.grow (redrawn w2 d) os) ((unhide HB1).trans ((below_regrown w2 d os).mono (unhide HB1).size)))
  clear hx0 Hcl Hat
  by_cases hne : cc = c
  rotate_left
  · have he : ∀ w, (eqClus (.agg (cv cc).toArray) (.agg (cv c).toArray)).run Tryz.prog w = .ok false w := fun w => by rw [run_eqClus hll hc, decide_eq_false hne]
    have hg : GG = false := by rw [unhide HGd, decide_eq_false hne]; rfl
    have Hg := hide hg
    clear hg HGd hne
    refine wp_region_quiet_below (by kernel_rfl) (by kernel_rfl) ?_
    repeat (go_big_quiet_step (first | exact Calls.regrown_of (unhide Hn1 _ _) | exact Calls.regrown_of (unhide Hn2 _ _)))
    refine wpQuiet_nil ?_
    intro _ hw'
    obtain ⟨⟨dq, osq⟩, hw''⟩ := hw'
    subst hw''
    have HBq := hide ((unhide HB1).trans ((below_regrown w2 dq osq).mono (unhide HB1).size))
    obtain ⟨t2, v2, g2⟩ := ((unhide HG).below (unhide HBq)).err 2 (by omega)
    clear k1 k2 he
    go_wp2
    go_ret
    exact ⟨Or.inr ⟨unhide Hg, _, ⟨_, _, rfl⟩, rfl⟩, unhide HBq⟩
  subst hne
  rw [decide_eq_true rfl, Bool.true_and] at HGd
  have he : ∀ w, (eqClus (.agg (cv cc).toArray) (.agg (cv cc).toArray)).run Tryz.prog w = .ok true w := fun w => by rw [run_eqClus hll hc, decide_eq_true rfl]
  refine wp_region_quiet_below (by kernel_rfl) (by kernel_rfl) ?_
  repeat (go_big_quiet_step (first | exact Calls.regrown_of (unhide Hn1 _ _) | exact Calls.regrown_of (unhide Hn2 _ _)))
  refine wpQuiet_nil ?_
  intro _ hw'
  obtain ⟨⟨dq, osq⟩, hw''⟩ := hw'
  subst hw''
  have HBq := hide ((unhide HB1).trans ((below_regrown w2 dq osq).mono (unhide HB1).size))
  have HXq := hide (((below_regrown w2 dq osq).block _ (blk_lt (unhide HX))).trans (unhide HX))
  have q1 := k1 dq osq
  have q2 := k2 dq osq
  clear k1 k2 he Hn1 Hn2 HX HB1 hc hll
  generalize Go.Sort.grow (redrawn w2 dq) osq = w3 at *
  have Hle := hide (len_any w3 E hel)
  have hl4 := lenOf_le E
  go_wp2_with fail
  refine (unhide Hle).mono ?_
  rintro e w4 ⟨rfl, hb4⟩
  have HB4 := hide ((unhide HBq).trans (hb4.mono (unhide HBq).size))
  have HX4 := hide ((hb4.block _ (blk_lt (unhide HXq))).trans (unhide HXq))
  clear hb4 Hle HBq HXq q1 q2
  generalize hL0 : lenOf E = L0 at *
  have hli : (L0 : Int) ≤ 4 := by omega
  go_wp2
  go_loopw [5, 6, 26] (fun _ _ i wr => ∃ k : Nat, k ≤ L0 ∧ i = .int .i64 k ∧ Below w.heap.size w wr ∧ wr.heap[w1.heap.size]? = some (.cells (lv E).toArray 144 (0, 0)) ∧ allFrom (entGood E) k 0 = true) (fun _ _ i _ => L0 - (intOf i).toNat)
  case atStart => exact ⟨0, by omega, rfl, unhide HB4, unhide HX4, rfl⟩
  case round =>
    obtain ⟨k, hk, rfl, hB, hX, hA⟩ := hrel
    by_cases hlt : k < L0
    · have hki : (k : Int) < (L0 : Int) := by omega
      have hkE : k < E.length := by omega
      have l1 := hasAt_of_range (n := 2) (ent_range hX k hkE) rfl
      have l2 := cellsAt_of_range (n := 2) (ent_range hX k hkE) rfl
      have hgd : entGood E k = (isNameB (E.getD k ze).name && decide (findE E (txt (E.getD k ze).name) = (k : Int))) := rfl
      have hpl := (hsh k).1
      generalize E.getD k ze = p at *
      have HBa := hide (hB.alloc hB.size (.cells (ev p).toArray 142))
      have HXa := hide ((Below.heap_alloc wr (.cells (ev p).toArray 142) _ (blk_lt hX)).trans hX)
      have c5 : (wr.alloc (.cells (ev p).toArray 142)).cell? ⟨wr.heap.size, 0, none⟩ = some (.string (txt p.name)) := (cell_new wr _ _ _ 0).trans rfl
      have HA := hide hA
      have Hnm := hide (fun W => pIsName_any (txt p.name) W (by rw [show (txt p.name).size = p.name.length by simp [txt, ByteArray.size]]; exact Nat.le_trans hpl (by decide)))
      rw [show (txt p.name).data.toList = p.name from rfl] at Hnm
      have Hfi := hide (fun W => find_any W E hel (txt p.name))
      have hsn := allFrom_snoc (entGood E) k 0
      rw [hA, Bool.true_and, Nat.zero_add] at hsn
      clear hA hB hX HB4 HX4 HA
      by_cases hnb : isNameB p.name = true
      · rw [hnb] at Hnm
        have q1 : ∀ W, Below w.heap.size w W → W.heap[w1.heap.size]? = some (.cells (lv E).toArray 144 (0, 0)) → HasAt W w1.heap.size 0 8 := fun W _ hx => blk_has hx (by rw [lv_length, hel])
        by_cases hfk : findE E (txt p.name) = (k : Int)
        · rw [hfk] at Hfi
          have hg1 : allFrom (entGood E) (k + 1) 0 = true := by rw [hsn, hgd, hnb, decide_eq_true hfk]; rfl
          have Hg1 := hide hg1
          clear hg1 hsn hgd hnb hfk q1
          go_wp2_with fail
          refine (unhide Hnm _).mono ?_
          rintro e w5 ⟨rfl, hb5⟩
          have HB5 := hide ((unhide HBa).trans (hb5.mono (unhide HBa).size))
          have HX5 := hide ((hb5.block _ (blk_lt (unhide HXa))).trans (unhide HXa))
          have d5 : w5.cell? ⟨wr.heap.size, 0, none⟩ = some (.string (txt p.name)) := (hb5.cell (by simp)).trans c5
          have q1 := blk_has (unhide HX5) (n := 8) (by rw [lv_length, hel])
          have q2 := blk_cells (unhide HX5) (n := 8) (by rw [lv_length, hel])
          clear hb5 c5 l1 l2 HBa HXa Hnm
          go_wp2_with fail
          refine (unhide Hfi _).mono ?_
          rintro e w6 ⟨rfl, hb6⟩
          have HB6 := hide ((unhide HB5).trans (hb6.mono (unhide HB5).size))
          have HX6 := hide ((hb6.block _ (blk_lt (unhide HX5))).trans (unhide HX5))
          clear hb6 d5 q1 q2 HB5 HX5 Hfi
          go_wp2
          go_roundw
          case rel => exact ⟨k + 1, by omega, by go_num, unhide HB6, unhide HX6, unhide Hg1⟩
          case measure => simp [intOf]; omega
        · have hgF : GG = false := by
            rw [unhide HGd]
            have : allFrom (entGood E) L0 0 = false := by
              rw [Bool.eq_false_iff]
              intro ht
              have := (allFrom_iff _ _ _).1 ht k (Nat.zero_le _) (by omega)
              rw [hgd, decide_eq_false hfk, Bool.and_false] at this
              cases this
            rw [this]; rfl
          have Hg := hide hgF
          have d0 : (findE E (txt p.name) != (k : Int)) = true := by rw [bne_iff_ne]; exact hfk
          generalize findE E (txt p.name) = fk at *
          clear hgF hsn hgd hnb hfk q1 HGd
          go_wp2_with fail
          refine (unhide Hnm _).mono ?_
          rintro e w5 ⟨rfl, hb5⟩
          have HB5 := hide ((unhide HBa).trans (hb5.mono (unhide HBa).size))
          have HX5 := hide ((hb5.block _ (blk_lt (unhide HXa))).trans (unhide HXa))
          have d5 : w5.cell? ⟨wr.heap.size, 0, none⟩ = some (.string (txt p.name)) := (hb5.cell (by simp)).trans c5
          have q1 := blk_has (unhide HX5) (n := 8) (by rw [lv_length, hel])
          have q2 := blk_cells (unhide HX5) (n := 8) (by rw [lv_length, hel])
          clear hb5 c5 l1 l2 HBa HXa Hnm
          go_wp2_with fail
          refine (unhide Hfi _).mono ?_
          rintro e w6 ⟨rfl, hb6⟩
          have HB6 := hide ((unhide HB5).trans (hb6.mono (unhide HB5).size))
          obtain ⟨t2, v2, g2⟩ := ((unhide HG).below (unhide HB6)).err 2 (by omega)
          clear hb6 d5 q1 q2 HB5 HX5 Hfi
          go_wp2
          go_ret
          exact ⟨Or.inr ⟨unhide Hg, _, ⟨_, _, rfl⟩, rfl⟩, unhide HB6⟩
      · have hnb : isNameB p.name = false := by simpa using hnb
        rw [hnb] at Hnm
        have hgF : GG = false := by
          rw [unhide HGd]
          have : allFrom (entGood E) L0 0 = false := by
            rw [Bool.eq_false_iff]
            intro ht
            have := (allFrom_iff _ _ _).1 ht k (Nat.zero_le _) (by omega)
            rw [hgd, hnb, Bool.false_and] at this
            cases this
          rw [this]; rfl
        have Hg := hide hgF
        clear hgF hsn hgd hnb HGd Hfi
        go_wp2_with fail
        refine (unhide Hnm _).mono ?_
        rintro e w5 ⟨rfl, hb5⟩
        have HB5 := hide ((unhide HBa).trans (hb5.mono (unhide HBa).size))
        obtain ⟨t2, v2, g2⟩ := ((unhide HG).below (unhide HB5)).err 2 (by omega)
        clear hb5 c5 l1 l2 HBa HXa Hnm
        go_wp2
        go_ret
        exact ⟨Or.inr ⟨unhide Hg, _, ⟨_, _, rfl⟩, rfl⟩, unhide HB5⟩
    · have hkL : k = L0 := by omega
      subst hkL
      rw [hA, Bool.true_and] at HGd
      have HB := hide hB
      have HX := hide hX
      clear hA hB hX HB4 HX4
      by_cases hk4 : k = 4
      · subst hk4
        rw [Nat.sub_self, allFrom] at HGd
        go_wp2
        go_loopw [8, 50] (fun _ i wr => i = .int .i64 0 ∧ Below w.heap.size w wr) (fun _ _ _ => 0)
        case atStart => exact ⟨rfl, unhide HB⟩
        case round =>
          obtain ⟨rfl, hB⟩ := hrel
          have HBl := hide hB
          clear hB
          go_wp2
          go_ret
          exact ⟨Or.inl ⟨unhide HGd, rfl⟩, unhide HBl⟩
      have hk3 : k < 4 := by omega
      have hk5 : ¬ 4 - k = 0 := by omega
      go_wp2
      go_loopw [8, 50] (fun _ i wr => ∃ j : Nat, j ≤ 4 - k ∧ i = .int .i64 j ∧ Below w.heap.size w wr ∧ wr.heap[w1.heap.size]? = some (.cells (lv E).toArray 144 (0, 0)) ∧ allFrom (emptyB E) j k = true) (fun _ i _ => 4 - k - (intOf i).toNat)
      case atStart => exact ⟨0, by omega, rfl, unhide HB, unhide HX, rfl⟩
      case round =>
        obtain ⟨j, hj, rfl, hB, hX, hA⟩ := hrel
        by_cases hjl : j < 4 - k
        · have hji : (j : Int) < ((4 - k : Nat) : Int) := by omega
          have hjE : k + j < E.length := by omega
          have l1 := hasAt_of_range (n := 2) (ent_range hX (k + j) hjE) rfl
          have l2 := cellsAt_of_range (n := 2) (ent_range hX (k + j) hjE) rfl
          rw [Nat.add_mul] at l1 l2
          have hgd : emptyB E (k + j) = (decide (txt (E.getD (k + j) ze).name = txt []) && decide ((E.getD (k + j) ze).first = 0)) := rfl
          have hsn := allFrom_snoc (emptyB E) j k
          rw [hA, Bool.true_and] at hsn
          have hbad : emptyB E (k + j) = false → GG = false := fun he => by
            rw [unhide HGd, Bool.eq_false_iff]
            intro ht
            have := (allFrom_iff _ _ _).1 ht (k + j) (by omega) (by omega)
            rw [he] at this
            cases this
          generalize emptyB E (k + j) = eb at *
          generalize E.getD (k + j) ze = p at *
          have HBa := hide (hB.alloc hB.size (.cells (ev p).toArray 142))
          have HXa := hide ((Below.heap_alloc wr (.cells (ev p).toArray 142) _ (blk_lt hX)).trans hX)
          have m1 := blk_has (heap_alloc_new wr (.cells (ev p).toArray 142)) (n := 2) rfl
          have m2 := blk_cells (heap_alloc_new wr (.cells (ev p).toArray 142)) (n := 2) rfl
          have hq := run_eqEnt p (wr.alloc (.cells (ev p).toArray 142))
          have hnn : decide (txt p.name = txt []) = decide (p.name = []) := decide_eq_decide.2 ⟨fun e => by have := congrArg ByteArray.toList e; rw [txt_toList, txt_toList] at this; exact this, fun e => by rw [e]⟩
          rw [hnn] at hgd
          rw [← hgd] at hq
          have Hsn := hide hsn
          have Hbad := hide hbad
          clear hA hB hX HB HX hgd hnn hsn hbad
          cases eb with
          | true =>
            clear Hbad
            go_wp2
            go_roundw
            case rel => exact ⟨j + 1, by omega, by go_num, unhide HBa, unhide HXa, unhide Hsn⟩
            case measure => simp [intOf]; omega
          | false =>
            have Hg := hide (unhide Hbad rfl)
            obtain ⟨t2, v2, g2⟩ := ((unhide HG).below (unhide HBa)).err 2 (by omega)
            clear Hbad Hsn HGd
            go_wp2
            go_ret
            exact ⟨Or.inr ⟨unhide Hg, _, ⟨_, _, rfl⟩, rfl⟩, unhide HBa⟩
        · have hjk : j = 4 - k := by omega
          subst hjk
          have Hg := hide ((unhide HGd).trans hA)
          have HBl := hide hB
          clear hA hB hX HB HX HGd
          go_wp2
          go_ret
          exact ⟨Or.inl ⟨unhide Hg, rfl⟩, unhide HBl⟩
end Go.Proofs.YtknjjjenklfeoaaGreatDoor

/-
  A loop over an iterator whose own body holds a loop over another: a round may end it by a return.
-/
namespace Go.Proofs.YtknjjjenklfeoaaGreatDoor
open Go.RowKit Go.Shelf

/-- The iterator's word, where a round may end the loop. -/
def SeqAny {α : Type} (n gf : Nat) (lb : Array Value) (encs : α → Array Value) (Kp : World → World → Prop) (S Sp : List α → Prop) (N B : Nat) (w : World) : Prop :=
  ∀ (l : Nat) (J Jx : List α → World → Prop) (W : World), Below w.heap.size w W → B ≤ W.heap.size → OwnFrom W.heap.size J → OwnFrom W.heap.size Jx →
    (∀ pre x W1, J pre W1 → pre.length < N → YieldAt Fence.wide (n - 1) Tryz.prog l (encs x) W1 fun e W' => Kp W1 W' ∧ ((e = .returned (.bool true) ∧ J (pre ++ [x]) W') ∨ (e = .returned (.bool false) ∧ Jx (pre ++ [x]) W'))) →
    J [] W → CallsIn Fence.wide n Tryz.prog gf (#[.func (.yield l) #[] #[]] ++ lb) W fun e W' => (∃ v, e = .returned v) ∧ ((∃ xs, S xs ∧ J xs W') ∨ ∃ pre, Sp pre ∧ Jx pre W')

theorem SeqAny.all {α : Type} {n gf : Nat} {lb : Array Value} {encs : α → Array Value} {Kp : World → World → Prop} {S Sp : List α → Prop} {N B : Nat} {w : World} (h : SeqAny n gf lb encs Kp S Sp N B w) : SeqAll n gf lb encs Kp S N B w :=
  fun l J W hW hB hJ hY h0 => (h l J (fun _ _ => False) W hW hB hJ (fun _ _ _ _ hs _ _ => hs)
    (fun pre x W1 hJ1 hl => yield_mono (hY pre x W1 hJ1 hl) (fun e W' hx => ⟨hx.2.2, Or.inl ⟨hx.1, hx.2.1⟩⟩)) h0).mono (by
    rintro e W' ⟨h1, h2 | ⟨pre, _, h3⟩⟩
    · exact ⟨h1, h2⟩
    · exact h3.elim)

/-- How a round may be left: it goes on, or it returns. -/
def anyPost {α : Type} (B : Nat) (Kp : World → World → Prop) (I Ix : List α → World → Prop) (xs : List α) (W : World) : Exit → Act → World → Prop
  | .normal, _, W' => KeepsFrom B W W' ∧ Kp W W' ∧ I xs W'
  | .ret, _, W' => KeepsFrom B W W' ∧ Kp W W' ∧ Ix xs W'
  | .exit _, _, _ => False
  | .goto _, _, _ => False
  | .panic _, _, _ => False
  | .outgrown, _, _ => False

section
variable {α : Type} {g : Operand} {ps : Array Tmp} {assign body : Code} {Q : Exit → Act → World → Prop} {a : Act} {w : World} {n : Nat}
def recX (fn : FuncId) (a : Act) (ps : Array Tmp) (assign body : Code) (d : Nat) : Loop := { state := .done, pending := some .ret, fn := fn, tmps := a.tmps, params := ps, assign := assign, body := body, defers := d }
structure Ended (fn : FuncId) (a : Act) (ps : Array Tmp) (assign body : Code) (d : Nat) (W : World) : Prop where
  rcd : W.heap[d + 1]? = some (.loop (recX fn a ps assign body d))
  def' : W.heap[d]? = some (.deferred (some []))

theorem range_any (h1 : 1 ≤ n) {gf : Nat} {lb : Array Value} (hg : a.eval g = .func (.func gf) #[] lb) (eg : ∀ args w, (callFunc gf args).run Tryz.prog w = .ok (.enter gf args) w)
    {encs : α → Array Value} {Kp : World → World → Prop} {S Sp : List α → Prop} {N : Nat} {w0 : World} (hseq : SeqAny (n - 1) gf lb encs Kp S Sp N (w.heap.size + 2) w0)
    (hKt : ∀ A B C : World, Kp A B → Kp B C → Kp A C) (hKb : ∀ (W : World) (o o' : Obj), W.heap[w.heap.size + 1]? = some o → o.isCells = false → Kp W (W.putObj (w.heap.size + 1) o')) (hb0 : Below w0.heap.size w0 w) (hps : ∀ x, (encs x).size = ps.size)
    (I Ix : List α → World → Prop) (hI : OwnFrom w.heap.size I) (hIx : OwnFrom w.heap.size Ix) (h0 : I [] w) (Ax : α → Act → World → Prop) (hAx : ∀ x a', OwnFrom w.heap.size (fun (_ : Unit) W => Ax x a' W))
    (hassign : ∀ (l : Nat) (pre : List α) (x : α) (W : World) (K : Act → World → Prop), I pre W → (∀ a' W', KeepsFrom w.heap.size W W' → Kp W W' → I pre W' → Ax x a' W' → K a' W') →
      assign.wpIn (Fence.wide.inRound l) (n - 1 - 1) Tryz.prog (Exit.then K (fun _ _ _ => False)) { tmps := (ps.zip (encs x)).foldl (fun t (p, v) => t.setIfInBounds p v) a.tmps, defers := [] } W)
    (hbody : ∀ (l : Nat) (pre : List α) (x : α) (a' : Act) (W : World), w.heap.size ≤ l → (∃ r, W.heap[l]? = some (.loop r)) → I pre W → Ax x a' W → pre.length < N → body.wpIn (Fence.wide.inRound l) (n - 1 - 1) Tryz.prog (anyPost w.heap.size Kp I Ix (pre ++ [x]) W) a' W)
    (hdone : ∀ (D : Nat) (xs : List α) (W : World), w.heap.size ≤ D → S xs → I xs W → W.heap[D]? = some (.deferred (some [])) → Q .normal { a with defers := { target := .collected D, args := #[] } :: a.defers } W)
    (hstop : ∀ (D : Nat) (pre : List α) (W : World), w.heap.size ≤ D → Sp pre → Ix pre W → W.heap[D]? = some (.deferred (some [])) → Code.ret.wpIn Fence.wide n Tryz.prog Q { a with defers := { target := .collected D, args := #[] } :: a.defers } W) :
    (Code.rangeFunc g ps assign body).wpIn Fence.wide n Tryz.prog Q a w := by
  refine wpIn_rangeFunc fun fn hfn => ?_
  let d := w.heap.size
  let W1 := (w.alloc (.deferred (some []))).alloc (.loop (recOf fn a ps assign body d .ready))
  have hB1 : Booked fn a ps assign body d .ready W1 :=
    ⟨by have := heap_alloc_new (w.alloc (.deferred (some []))) (.loop (recOf fn a ps assign body d .ready)); rwa [World.size_alloc] at this, (Below.heap_alloc _ _ _ (by simp [d])).trans (heap_alloc_new w _)⟩
  have hI1 : I [] W1 := hI.alloc _ (hI.alloc _ h0)
  have hsz : W1.heap.size = d + 2 := by simp [W1, d]
  have hw1 : Below w0.heap.size w0 W1 := hb0.trans ((((Below.refl _ w).alloc (Nat.le_refl _) _).alloc (by simp) _).mono hb0.size)
  refine ⟨d + 1, [{ target := .collected d, args := #[] }], W1, { target := .fn (.func gf) lb, args := #[.func (.yield (d + 1)) #[] #[]] }, W1, gf, #[.func (.yield (d + 1)) #[] #[]] ++ lb, W1,
    run_enterLoop_outer _ _ _ _ _, ?_, fun _ _ => trivial, ?_, fun _ => h1, ?_⟩
  · simp only [resolve, hg]; simp [go_sem]
  · simp [invoke, go_sem, eg]
  have hJ : OwnFrom W1.heap.size (fun (pre : List α) W => I pre W ∧ Booked fn a ps assign body d .ready W) := fun s A B row hs hg' hr =>
    ⟨hI s A B row hs.1 hg' (fun r e => ⟨by have := (hr r e).1; omega, (hr r e).2⟩), blk_turn hg' hr hs.2.rcd (by omega), blk_turn hg' hr hs.2.def' (by omega)⟩
  have hJx : OwnFrom W1.heap.size (fun (pre : List α) W => Ix pre W ∧ Ended fn a ps assign body d W) := fun s A B row hs hg' hr =>
    ⟨hIx s A B row hs.1 hg' (fun r e => ⟨by have := (hr r e).1; omega, (hr r e).2⟩), blk_turn hg' hr hs.2.rcd (by omega), blk_turn hg' hr hs.2.def' (by omega)⟩
  refine (hseq (d + 1) (fun pre W => I pre W ∧ Booked fn a ps assign body d .ready W) (fun pre W => Ix pre W ∧ Ended fn a ps assign body d W) W1 hw1 (by omega) hJ hJx ?_ ⟨hI1, hB1⟩).mono ?_
  · rintro pre x W ⟨hi, hb⟩ hlen
    refine ⟨fn, _, assign, body, run_yield hb.rcd (hps x), roundIn_of_wpIn hfn (hassign (d + 1) pre x W _ hi fun a' Wa hkf hkp hia hax => ?_)⟩
    have hba := hb.keep hkf
    refine ⟨_, run_beginRound hba.rcd rfl, ?_⟩
    have hbb : Booked fn a ps assign body d .busy (Wa.putObj (d + 1) (.loop (recOf fn a ps assign body d .busy))) := hba.turn
    have hkb : Kp Wa (Wa.putObj (d + 1) (.loop (recOf fn a ps assign body d .busy))) := hKb _ _ _ hba.rcd rfl
    refine wpIn_mono (hbody (d + 1) pre x a' _ (by omega) ⟨_, hbb.rcd⟩ (hI.putObj _ hia (by omega) hba.rcd rfl) ((hAx x a').putObj (s := ()) _ hax (by omega) hba.rcd rfl) hlen) ?_
    rintro e a3 W3 hp
    cases e with
    | normal =>
      obtain ⟨hkf3, hkp3, hi3⟩ := hp
      have hb3 := hbb.keep hkf3
      have hb4 : Booked fn a ps assign body d .ready (W3.putObj (d + 1) (.loop (recOf fn a ps assign body d .ready))) := hb3.turn
      exact ⟨_, _, run_endRound none hb3.rcd, hKt _ _ _ hkp (hKt _ _ _ hkb (hKt _ _ _ hkp3 (hKb _ _ _ hb3.rcd rfl))), .inl ⟨rfl, hI.putObj _ hi3 (by omega) hb3.rcd rfl, hb4⟩⟩
    | ret =>
      obtain ⟨hkf3, hkp3, hi3⟩ := hp
      have hb3 := hbb.keep hkf3
      have hb4 : Ended fn a ps assign body d (W3.putObj (d + 1) (.loop (recX fn a ps assign body d))) := ⟨World.putObj_heap_same (blk_lt hb3.rcd), (World.putObj_heap_other (by omega)).trans hb3.def'⟩
      exact ⟨_, _, run_endRound (some .ret) hb3.rcd, hKt _ _ _ hkp (hKt _ _ _ hkb (hKt _ _ _ hkp3 (hKb _ _ _ hb3.rcd rfl))), .inr ⟨rfl, hIx.putObj _ hi3 (by omega) hb3.rcd rfl, hb4⟩⟩
    | exit id => exact hp.elim
    | goto t => exact hp.elim
    | panic ch => exact hp.elim
    | outgrown => exact hp.elim
  · rintro e W2 ⟨⟨v, rfl⟩, (⟨xs, hS, hi, hb⟩ | ⟨pre, hSp, hi, hb⟩)⟩
    · exact ⟨none, _, run_endLoop hb.rcd (by simp [recOf]), hdone d xs _ (Nat.le_refl _) hS (hI.putObj _ hi (by omega) hb.rcd rfl) ((World.putObj_heap_other (by omega)).trans hb.def')⟩
    · exact ⟨some .ret, _, run_endLoop hb.rcd (by simp [recX]), hstop d pre _ (Nat.le_refl _) hSp (hIx.putObj _ hi (by omega) hb.rcd rfl) ((World.putObj_heap_other (by omega)).trans hb.def')⟩
end
end Go.Proofs.YtknjjjenklfeoaaGreatDoor

/-
  Plain: what a first table tells, as a list; counts that go up.
-/
namespace Go.Proofs.YtknjjjenklfeoaaGreatDoor
/-- All that a first table tells: each second table, and behind it its blocks. -/
def toldAll (C : List Clus) (f : Nat) : List Nat := (toldBy (numsOf (cl C f))).flatMap fun s => s :: toldBy (numsOf (cl C s))
def heldAll (C : List Clus) (f : Nat) : List Nat := f :: toldAll C f
/-- Counts that go up. -/
def plus1 (k : List UInt8) (n : Nat) : List UInt8 := k.set n (UInt8.ofNat ((byteAt k n + 1) % 256))
def plus (k : List UInt8) (us : List Nat) : List UInt8 := us.foldl plus1 k
/-- None of them would be above 254. -/
def fitsB : List UInt8 → List Nat → Bool
  | _, [] => true
  | k, u :: us => decide (byteAt k u < 254) && fitsB (plus1 k u) us
theorem plus1_length (k : List UInt8) (n : Nat) : (plus1 k n).length = k.length := by simp [plus1]
theorem plus_length (us : List Nat) : ∀ k : List UInt8, (plus k us).length = k.length := by
  induction us with
  | nil => intro k; rfl
  | cons u r ih => intro k; show (plus (plus1 k u) r).length = _; rw [ih, plus1_length]
theorem plus1_get (k : List UInt8) (n m : Nat) (hn : n < k.length) (h1 : byteAt k n < 255) : byteAt (plus1 k n) m = if n = m then byteAt k n + 1 else byteAt k m := by
  unfold plus1
  rw [byteAt_set _ _ _ _ hn, toNat_ofNat _ (by omega)]
  by_cases e : n = m
  · rw [if_pos e, if_pos e]; omega
  · rw [if_neg e, if_neg e]
theorem plus_get : ∀ (us : List Nat) (k : List UInt8) (m : Nat), (∀ u ∈ us, u < k.length) → fitsB k us = true → byteAt (plus k us) m = byteAt k m + us.count m
  | [], _, _, _, _ => rfl
  | u :: us, k, m, hl, hf => by
    rw [fitsB, Bool.and_eq_true, decide_eq_true_iff] at hf
    show byteAt (plus (plus1 k u) us) m = _
    rw [plus_get us (plus1 k u) m (fun x hx => by rw [plus1_length]; exact hl x (by simp [hx])) hf.2, plus1_get k u m (hl u (by simp)) (by omega), List.count_cons]
    by_cases e : u = m
    · subst e; simp; omega
    · rw [if_neg e, if_neg (by simp [e])]; omega
theorem fits_iff : ∀ (us : List Nat) (k : List UInt8), (∀ u ∈ us, u < k.length) → (fitsB k us = true ↔ ∀ u ∈ us, byteAt k u + us.count u ≤ 254)
  | [], _, _ => by simp [fitsB]
  | u :: us, k, hl => by
    rw [fitsB, Bool.and_eq_true, decide_eq_true_iff]
    have ih := fits_iff us (plus1 k u) (fun x hx => by rw [plus1_length]; exact hl x (by simp [hx]))
    constructor
    · rintro ⟨h1, h2⟩ x hx
      rw [List.count_cons]
      by_cases hm : x ∈ us
      · have := ih.1 h2 x hm
        rw [plus1_get k u x (hl u (by simp)) (by omega)] at this
        by_cases e : u = x
        · subst e; simp at this ⊢; omega
        · rw [if_neg e] at this; rw [if_neg (by simp [e])]; omega
      · rcases List.mem_cons.1 hx with e | e
        · subst e; rw [List.count_eq_zero.2 hm]; simp; omega
        · exact absurd e hm
    · intro h
      have hu := h u (by simp)
      rw [List.count_cons] at hu
      simp only [beq_self_eq_true, if_true] at hu
      refine ⟨by omega, ih.2 fun x hx => ?_⟩
      rw [plus1_get k u x (hl u (by simp)) (by omega)]
      have := h x (by simp [hx])
      rw [List.count_cons] at this
      by_cases e : u = x
      · subst e; simp at this ⊢; omega
      · rw [if_neg (by simp [e])] at this; rw [if_neg e]; omega

end Go.Proofs.YtknjjjenklfeoaaGreatDoor
