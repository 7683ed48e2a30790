import Derived.Test.YtknjjjenklfeoaaGreatDoorP42
import Derived.Test.YtknjjjenklfeoaaGreatDoorP07
import Derived.Test.YtknjjjenklfeoaaGreatDoorP09
import Derived.Test.YtknjjjenklfeoaaGreatDoorRows
import Derived.Test.YtknjjjenklfeoaaGreatDoorP26
import Derived.LaidLaws
import Derived.LaidHandle
import Derived.Test.YtknjjjenklfeoaaGreatDoorP32
/-
  vellumlaw's raw: texts as a file.
-/
namespace Go.Proofs.YtknjjjenklfeoaaGreatDoor
open Go.RowKit
attribute [local go_sem ↓] loadVar_clus storeVar_clus zeroValue_clus buildSlice_clus
attribute [local go_sem] run_loadClus run_storeClus run_zeroClus zc_length run_bsClus
/-- Texts lie behind a slice. -/
structure StrRow (w : World) (a : Option Addr) (n : Nat) (ss : Nat → ByteArray) : Prop where
  some : 0 < n → ∃ g o, a = some ⟨g, o, none⟩ ∧ g < w.heap.size ∧ ∀ i, i < n → w.cell? ⟨g, o + i, none⟩ = some (.string (ss i))
  fits : ∀ i, i < n → (ss i).size ≤ maxLen
theorem StrRow.below {w w' : World} {a : Option Addr} {n : Nat} {ss : Nat → ByteArray} (h : StrRow w a n ss) (hb : Below w.heap.size w w') : StrRow w' a n ss :=
  ⟨fun h0 => by
    obtain ⟨g, o, ha, hg, hc⟩ := h.some h0
    exact ⟨g, o, ha, Nat.lt_of_lt_of_le hg hb.size, fun i hi => (hb.cell hg).trans (hc i hi)⟩, h.fits⟩
def rawTo (ss : Nat → ByteArray) (k : Nat) : List Clus := (List.range k).map fun i => clusOf (ss i).data.toList
theorem rawTo_succ (ss : Nat → ByteArray) (k : Nat) : rawTo ss (k + 1) = rawTo ss k ++ [clusOf (ss k).data.toList] := by simp [rawTo, List.range_succ]
theorem rawTo_length (ss : Nat → ByteArray) (k : Nat) : (rawTo ss k).length = k := by simp [rawTo]
theorem clusOf_length (l : List UInt8) : (clusOf l).length = 64 := clusTo_length l _ (Nat.min_le_left _ _) (Nat.min_le_right _ _)
theorem rawTo_lens (ss : Nat → ByteArray) (k : Nat) : ∀ c ∈ rawTo ss k, c.length = 64 := by
  intro c hc
  obtain ⟨i, _, rfl⟩ := List.mem_map.1 hc
  exact clusOf_length _
set_option maxHeartbeats 2000000 in
set_option maxRecDepth 100000 in
theorem raw_any (w : World) (a : Option Addr) (n cap : Nat) (ss : Nat → ByteArray) (hs : StrRow w a n ss) (hn : n ≤ maxLen) :
    Calls Tryz.prog 14 #[.slice a n cap] w fun e w' => ∃ v, e = .returned v ∧ FRow w' v (rawTo ss (min n 300)) ∧ (∀ g, v.ownBlock = some g → w.heap.size ≤ g) ∧ Below w.heap.size w w' := by
  obtain ⟨i0, hi0, hz0, hz1, hz2⟩ := info_parts Tryz.infoClus
  have HS := hide hs
  unfold maxLen at hn
  clear hs
  go_enter Tryz.func14, Tryz.ntmps14
  go_wp2
  go_loopw [3, 4] (fun v i wr => ∃ k : Nat, k ≤ min n 300 ∧ i = .int .i64 k ∧ wr.ownsRow 0 38 64 v k (flatC (rawTo ss k)) ∧ (∀ g, v.ownBlock = some g → w.heap.size ≤ g) ∧ Below w.heap.size w wr) (fun _ i _ => 300 - (intOf i).toNat)
  case atStart => exact ⟨0, Nat.zero_le _, rfl, World.ownsRow_nil _ _ _ _, fun g hg => (by cases hg), Below.refl _ _⟩
  case round =>
    obtain ⟨k, hk, rfl, hR, hv, hB⟩ := hrel
    by_cases hlt : k < n ∧ k < 300
    · obtain ⟨hkn, hk3⟩ := hlt
      have dn : decide ((k : Int) < (n : Int)) = true := decide_eq_true (by omega)
      have d3 : decide ((k : Int) < 300) = true := decide_eq_true (by omega)
      have hki : (k : Int) < (n : Int) := by omega
      obtain ⟨g, o, rfl, hg, hc⟩ := ((unhide HS).below hB).some (by omega)
      have ck := hc k hkn
      have hfit := (unhide HS).fits k hkn
      have Hcl := hide (cluster_any (ss k) wr hfit)
      have hcl := clusOf_length (ss k).data.toList
      have HR := hide hR
      have Hv := hide hv
      have HB := hide hB
      obtain ⟨va, vcap, hvf⟩ := row_form hR
      have hsz := hB.size
      subst hvf
      have hsn := rawTo_succ ss k
      have hlr := flatC_length (rawTo ss k) (rawTo_lens ss k)
      generalize clusOf (ss k).data.toList = c at *
      clear hR hv hB hc hfit
      go_wp2_with fail
      refine (unhide Hcl).mono ?_
      rintro e w2 ⟨rfl, hb2⟩
      have HR2 := hide (ownsRow_kept (Kept.of_below (S := fun _ => False) hb2) (unhide HR) (fun _ _ => id))
      have HB2 := hide ((unhide HB).trans (hb2.mono (unhide HB).size))
      have hs2 := hb2.size
      clear hb2 HR HB Hcl ck
      go_wp2_with (at_builtin; refine wpList_append_lies _ rfl _ _ _ rfl 0 38 i0 _ 64 64 Tryz.underlying28 hi0 hz0 hz1 hz2 (by simp [Value.cells, cv_length, zc_length]) (by omega) (.slice va k vcap) k (flatC (rawTo ss k)) rfl ((unhide HR2).alloc _) ⟨w2.heap.size, 0, none⟩ 1 1 (cv c) rfl (by rw [cv_length, hcl]) (World.news_of_block (cs := (cv c).toArray) (t := 38) (fr := (0, 0)) (heap_alloc_new w2 _)) (cv_one _) (by omega) (by unfold maxLen; omega) (by omega) (by omega) (w2.heap.size + 1) (by simp) ?_; intro g5 cap5 w5 hown5 hgrow hat hlt5)
      go_roundw
      case rel =>
        refine ⟨k + 1, by omega, by go_num, ?_, ?_, ?_⟩
        · rw [hsn, flatC_snoc]; exact hown5
        · intro g hg
          simp only [Value.ownBlock, Option.some.injEq] at hg
          subst hg
          rcases hat with x | x
          · exact unhide Hv _ x
          · omega
        · exact ((unhide HB2).alloc (unhide HB2).size (.cells (cv c).toArray 38)).grown hgrow (by have := (unhide HB2).size; simp; omega) (fun q hq => unhide Hv q hq)
      case measure => simp [intOf]; omega
    · have Hkm : Hid (k = min n 300) := by show k = min n 300; omega
      have HR := hide hR
      have Hv := hide hv
      have HB := hide hB
      obtain ⟨va, vcap, hvf⟩ := row_form hR
      subst hvf
      clear hR hv hB
      by_cases hkn : k < n
      · have dn : decide ((k : Int) < (n : Int)) = true := decide_eq_true (by omega)
        have d3 : decide ((k : Int) < 300) = false := decide_eq_false (by omega)
        go_wp2
        go_ret
        exact ⟨_, rfl, by rw [← unhide Hkm]; exact ⟨by rw [rawTo_length]; exact unhide HR, rawTo_lens ss k⟩, unhide Hv, unhide HB⟩
      · have dn : decide ((k : Int) < (n : Int)) = false := decide_eq_false (by omega)
        go_wp2
        go_ret
        exact ⟨_, rfl, by rw [← unhide Hkm]; exact ⟨by rw [rawTo_length]; exact unhide HR, rawTo_lens ss k⟩, unhide Hv, unhide HB⟩
end Go.Proofs.YtknjjjenklfeoaaGreatDoor

/-
  vellumlaw's Any: Open of any clusters.
-/
namespace Go.Proofs.YtknjjjenklfeoaaGreatDoor
open Go.RowKit

/-- Files as texts lie behind a slice. -/
structure FilesRow (w : World) (a : Option Addr) (n : Nat) (av : Nat → Option Addr) (ns caps : Nat → Nat) (ss : Nat → Nat → ByteArray) : Prop where
  some : 0 < n → ∃ g o, a = some ⟨g, o, none⟩ ∧ g < w.heap.size ∧ ∀ i, i < n → w.cell? ⟨g, o + i, none⟩ = some (.slice (av i) (ns i) (caps i))
  each : ∀ i, i < n → StrRow w (av i) (ns i) (ss i) ∧ ns i ≤ maxLen
theorem foldT_ge (f : Nat) : ∀ (ss : List SpotN) (R : FileR), (foldT f ss R).1 = false → 0 ≤ (foldT f ss R).2.bad
  | [], R, h => by cases h
  | s :: ss, R, h => by
    rw [foldT] at h ⊢
    by_cases h5 : (tellSp R f s).1 = true
    · rw [if_pos h5] at h ⊢; exact foldT_ge f ss _ h
    · rw [if_neg h5] at h ⊢
      show 0 ≤ (tellSp R f s).2.bad
      rw [tellSp_bad (by simpa using h5)]; omega
theorem foldF_ge : ∀ (fs : List Nat) (a : Nat) (R : FileR), (foldF fs a R).1 = false → 0 ≤ (foldF fs a R).2.bad
  | [], a, R, h => by cases h
  | f :: fs, a, R, h => by
    rw [foldF] at h ⊢
    by_cases h2 : (treeP f a R).1 = true
    · rw [if_pos h2] at h ⊢; exact foldF_ge fs _ _ h
    · rw [if_neg h2] at h ⊢
      have h2' : (treeP f a R).1 = false := by simpa using h2
      show 0 ≤ (treeP f a R).2.bad
      unfold treeP at h2' ⊢
      by_cases h4 : (tell R f 1 a).1 = true
      · rw [if_pos h4] at h2' ⊢; exact foldT_ge f _ _ h2'
      · rw [if_neg h4] at h2' ⊢
        show 0 ≤ (tell R f 1 a).2.bad
        rw [tell_bad (by simpa using h4)]; omega
theorem openBad_cases (file : List Clus) : openBad file = -1 ∨ 0 ≤ openBad file := by
  unfold openBad
  split
  · exact Or.inr (by omega)
  · split
    · exact Or.inr (by omega)
    · split
      · rename_i h; exact Or.inr (foldF_ge _ _ _ h)
      · split
        · rename_i h; exact Or.inr h
        · exact badTab_ge _
theorem opens_any (w : World) (fv : Value) (file : List Clus) (hf : FRow w fv file) (hG : Glob w) (hl : file.length ≤ 1000) :
    Calls Tryz.prog 13 #[fv] w fun e w' => ∃ p, e = .returned (.tuple #[p, .bool true]) ∧ Below w.heap.size w w' := by
  by_cases hg : openBad file = -1
  · refine (opens_good w fv file hf hG hl hg).mono ?_
    rintro e w' ⟨p, P, S, rfl, h⟩
    exact ⟨_, rfl, h.below⟩
  · obtain ⟨n, hn⟩ : ∃ n : Nat, openBad file = (n : Int) := Int.eq_ofNat_of_zero_le ((openBad_cases file).resolve_left hg)
    refine (opens_bad w fv file hf hG hl n hn).mono ?_
    rintro e w' ⟨rfl, hb⟩
    exact ⟨_, rfl, hb⟩
theorem newV_len : newV.C.length = 7 := by rw [newV_C]; kernel_rfl
set_option maxHeartbeats 2000000 in
set_option maxRecDepth 100000 in
theorem lawAny_any (w : World) (a : Option Addr) (n cap : Nat) (av : Nat → Option Addr) (ns caps : Nat → Nat) (ss : Nat → Nat → ByteArray) (hs : FilesRow w a n av ns caps ss) (hn : n ≤ maxLen) (hG : Glob w) :
    Calls Tryz.prog 6 #[.slice a n cap] w fun e w' => e = .returned (.bool true) ∧ Below w.heap.size w w' := by
  have HS := hide hs
  have HG := hide hG
  have h7 := newV_len
  unfold maxLen at hn
  clear hs hG
  go_enter Tryz.func6, Tryz.ntmps6
  go_wp2_with fail
  refine (diskNew_any w).mono ?_
  rintro e w1 ⟨d, v, Cv, Lv, rfl, hD1, b1, _⟩
  have D1 := hide hD1
  have B1 := hide b1
  clear hD1 b1
  go_wp2_with fail
  refine (diskFile_any w1 _ _ _ _ _ (unhide D1) (by rw [h7]; omega) (by rw [h7]; omega)).mono ?_
  rintro e w2 ⟨fv, rfl, hr2, b2⟩
  have hF2 : FRow w2 fv newV.C := ⟨row_base hr2 (Nat.zero_le _), new_vol.file.lens⟩
  have B2 := hide ((unhide B1).trans (b2.mono (unhide B1).size))
  obtain ⟨fa, fcap, hfv⟩ := row_form hF2.row
  have F2 := hide hF2
  subst hfv
  clear hr2 b2 hF2 D1 B1
  go_wp2_with fail
  refine (opens_any w2 _ newV.C (unhide F2) ((unhide HG).below (unhide B2)) (by rw [h7]; omega)).mono ?_
  rintro e w3 ⟨p, rfl, b3⟩
  have B3 := hide ((unhide B2).trans (b3.mono (unhide B2).size))
  clear b3 F2 B2
  go_wp2
  go_loopw [6, 7] (fun _ i wr => ∃ k : Nat, k ≤ n ∧ i = .int .i64 k ∧ Below w.heap.size w wr) (fun _ i _ => n - (intOf i).toNat)
  case atStart => exact ⟨0, Nat.zero_le _, rfl, unhide B3⟩
  case round =>
    obtain ⟨k, hk, rfl, hB⟩ := hrel
    clear B3
    by_cases hlt : k < n
    · have hki : (k : Int) < (n : Int) := by omega
      obtain ⟨g, o, rfl, hg, hc⟩ := (unhide HS).some (by omega)
      have ck : wr.cell? ⟨g, o + k, none⟩ = some (.slice (av k) (ns k) (caps k)) := (hB.cell hg).trans (hc k hlt)
      obtain ⟨hst, hns⟩ := (unhide HS).each k hlt
      have Hr := hide (raw_any wr (av k) (ns k) (caps k) (ss k) (hst.below hB) hns)
      have HB := hide hB
      clear hB hc hst
      go_wp2_with fail
      refine (unhide Hr).mono ?_
      rintro e w4 ⟨fv, rfl, hF4, _, b4⟩
      have B4 := hide ((unhide HB).trans (b4.mono (unhide HB).size))
      have hl3 : (rawTo (ss k) (min (ns k) 300)).length ≤ 1000 := by rw [rawTo_length]; omega
      have Ho := hide (opens_any w4 fv _ hF4 ((unhide HG).below (unhide B4)) hl3)
      obtain ⟨va, vcap, hvf⟩ := row_form hF4.row
      subst hvf
      clear b4 hF4 HB Hr ck
      go_wp2_with fail
      refine (unhide Ho).mono ?_
      rintro e w5 ⟨q, rfl, b5⟩
      have B5 := hide ((unhide B4).trans (b5.mono (unhide B4).size))
      clear b5 B4 Ho
      go_wp2
      go_roundw
      case rel => exact ⟨k + 1, by omega, by go_num, unhide B5⟩
      case measure => simp [intOf]; omega
    · have hkn : ¬ (k : Int) < (n : Int) := by omega
      have HB := hide hB
      clear hB
      go_wp2
      go_ret
      exact ⟨rfl, unhide HB⟩
end Go.Proofs.YtknjjjenklfeoaaGreatDoor

/-
  The rows' list of variables gives what the walks ask of them.
-/
namespace Go.Proofs.YtknjjjenklfeoaaGreatDoor
open Go.RowKit
theorem var_cell {P : Program} {w : World} {n : String} {g : Nat} {cs : Array Value} {x : Value} (hn : P.globalNamed n = some g) (h : w.var? P n = some cs) (hx : cs.toList = [x]) : w.cell? ⟨g, 0, none⟩ = some x := by
  unfold World.var? at h
  rw [hn] at h
  simp only [Option.bind_some] at h
  have hcs : cs = #[x] := Array.eq_one_of_toList hx
  subst hcs
  split at h
  · rename_i c t fr hh
    injection h with h
    subst h
    exact (cell_blk hh 0).trans rfl
  · cases h
theorem laid_iface {w : World} {n nm : String} {d : DataW Unit} {r : List (String × DataW Unit)} {ps : List MemPlace} (g : Nat) (h : DataW.LaidVars Tryz.prog w ((n, .iface nm d) :: r) ps)
    (hn : Tryz.prog.globalNamed n = some g) (ht : (Tryz.prog.globals[g]?).map (·.type) = some 98) : (∃ u v, w.cell? ⟨g, 0, none⟩ = some (.iface u v)) ∧ ∃ q, DataW.LaidVars Tryz.prog w r q := by
  obtain ⟨g', t, cs, fuel, p, q, h1, h2, h3, h4, h5, _⟩ := h
  obtain rfl : g = g' := Option.some.inj (hn.symm.trans h1)
  obtain rfl : 98 = t := Option.some.inj (ht.symm.trans h2)
  obtain ⟨_, u, v, hcs, _⟩ := iface_of_trod Tryz.underlying98 h4
  exact ⟨⟨u, v, var_cell hn h3 hcs⟩, q, h5⟩
theorem error_named : ∀ ty, ty < Tryz.prog.types.size → Tryz.prog.rowNamed ty [101, 114, 114, 111, 114] = true → ty = 98 := by
  have h : (List.range Tryz.prog.types.size).all (fun t => !(Tryz.prog.rowNamed t [101, 114, 114, 111, 114]) || t == 98) = true := by kernel_rfl
  intro ty hty hr
  have := List.all_eq_true.1 h ty (List.mem_range.2 hty)
  rw [hr] at this
  simpa using this
theorem glob_of_laid {W : World} (h : laidMetH Tryz.prog Rows.anyRow.laid W) : Glob W := by
  have h' : laidMet Tryz.prog [("vellum/volume.errLength", Rows.laid_vellum_volume_errLength), ("vellum/volume.errHead", Rows.laid_vellum_volume_errHead), ("vellum/volume.errList", Rows.laid_vellum_volume_errList), ("vellum/volume.errNowhere", Rows.laid_vellum_volume_errNowhere), ("vellum/volume.errTwice", Rows.laid_vellum_volume_errTwice), ("vellum/volume.errBehind", Rows.laid_vellum_volume_errBehind), ("vellum/volume.errCount", Rows.laid_vellum_volume_errCount), ("vellum/volume.errMark", Rows.laid_vellum_volume_errMark)] W ∧ handlesMet Tryz.prog [("errors.errorType", Rows.laid_errors_errorType)] W := h
  obtain ⟨⟨ps, hl, _⟩, hh⟩ := h'
  obtain ⟨e0, _, hl⟩ := laid_iface 0 hl (by kernel_rfl) (by kernel_rfl)
  obtain ⟨e1, _, hl⟩ := laid_iface 1 hl (by kernel_rfl) (by kernel_rfl)
  obtain ⟨e2, _, hl⟩ := laid_iface 2 hl (by kernel_rfl) (by kernel_rfl)
  obtain ⟨e6, _, hl⟩ := laid_iface 6 hl (by kernel_rfl) (by kernel_rfl)
  obtain ⟨e7, _, hl⟩ := laid_iface 7 hl (by kernel_rfl) (by kernel_rfl)
  obtain ⟨e8, _, hl⟩ := laid_iface 8 hl (by kernel_rfl) (by kernel_rfl)
  obtain ⟨e3, _, hl⟩ := laid_iface 3 hl (by kernel_rfl) (by kernel_rfl)
  obtain ⟨e4, _, _⟩ := laid_iface 4 hl (by kernel_rfl) (by kernel_rfl)
  have hx := hh ("errors.errorType", Rows.laid_errors_errorType) (List.mem_singleton.2 rfl)
  have hx' : ∃ name u ty, (Rows.laid_errors_errorType : DataW Unit).handleName? = some name ∧ (Tryz.prog.cutTypes.find? (·.1 == "internal/reflectlite.rtype")).map (·.2) = some u ∧ ty < Tryz.prog.types.size ∧ Tryz.prog.rowNamed ty name = true ∧ W.var? Tryz.prog "errors.errorType" = some #[.iface u (.agg #[typeHandle Tryz.prog ty])] := hx
  obtain ⟨name, u, ty, h1, h2, h3, h4, h5⟩ := hx'
  obtain rfl : ([101, 114, 114, 111, 114] : List UInt8) = name := Option.some.inj ((show (Rows.laid_errors_errorType : DataW Unit).handleName? = some [101, 114, 114, 111, 114] by kernel_rfl).symm.trans h1)
  obtain rfl : 246 = u := Option.some.inj ((show (Tryz.prog.cutTypes.find? (·.1 == "internal/reflectlite.rtype")).map (·.2) = some 246 by kernel_rfl).symm.trans h2)
  have hty := error_named ty h3 h4
  subst hty
  have e5 : W.cell? ⟨5, 0, none⟩ = some (.iface 246 (.agg #[typeHandle Tryz.prog 98])) := var_cell (show Tryz.prog.globalNamed "errors.errorType" = some 5 by kernel_rfl) h5 rfl
  have hsz : Tryz.prog.globals.size = 10 := by kernel_rfl
  have e5' : W.cell? ⟨5, 0, none⟩ = some (.iface 246 (.agg #[.pointer (some ⟨10, 98, none⟩)])) := by
    rw [e5]
    unfold typeHandle
    rw [hsz]
  refine ⟨fun g hg => ?_, e5'⟩
  have : g = 0 ∨ g = 1 ∨ g = 2 ∨ g = 3 ∨ g = 4 ∨ g = 5 ∨ g = 6 ∨ g = 7 ∨ g = 8 := by omega
  rcases this with rfl | rfl | rfl | rfl | rfl | rfl | rfl | rfl | rfl
  · exact e0
  · exact e1
  · exact e2
  · exact e3
  · exact e4
  · exact ⟨_, _, e5'⟩
  · exact e6
  · exact e7
  · exact e8
end Go.Proofs.YtknjjjenklfeoaaGreatDoor

/-
  vellumlaw's asks: Read; File and Log as their owner's.
-/
namespace Go.Proofs.YtknjjjenklfeoaaGreatDoor
open Go.RowKit
attribute [local go_sem ↓] loadVar_clus storeVar_clus zeroValue_clus loadVar_op equalIn_clus
attribute [local go_sem] run_loadClus run_storeClus run_zeroClus run_storeClus_new run_loadClus_new zc_length run_loadOp HasAt_drew cellsAt_drew
end Go.Proofs.YtknjjjenklfeoaaGreatDoor
