import Derived.Test.YtknjjjenklfeoaaGreatDoorP06
/-
  The reference's Replayed: writes are done on a file.
-/
namespace Go.Proofs.YtknjjjenklfeoaaGreatDoor
open Go.RowKit
attribute [local go_sem ↓] loadVar_clus storeVar_clus zeroValue_clus buildSlice_clus loadVar_wr storeVar_wr zeroValue_wr
attribute [local go_sem] run_loadClus run_storeClus run_zeroClus run_storeClus_new run_loadClus_new zc_length run_bsClus run_loadWr run_zeroWr run_storeWr_new
def sliceLen : Value → Nat
  | .slice _ n _ => n
  | _ => 0
def growTo (l : List Clus) (n : Nat) : List Clus := l ++ List.replicate (n - l.length) zc
def replayOne (l : List Clus) (x : WrR) : List Clus := if x.cl < 0 then l else (growTo l (x.cl.toNat + 1)).set x.cl.toNat x.data
def replay (l : List Clus) (log : List WrR) : List Clus := log.foldl replayOne l

set_option maxHeartbeats 2000000 in
set_option maxRecDepth 100000 in
theorem replayed_any (w : World) (fv lv : Value) (file : List Clus) (log : List WrR) (hf : FRow w fv file) (hl : LRow w lv log) (hfl : file.length ≤ 1000) (hll : log.length ≤ 1000000000) (hcl : ∀ x ∈ log, x.cl < 1000) :
    Calls Tryz.prog 61 #[fv, lv] w fun e w' => ∃ v, e = .returned v ∧ w'.ownsRow w.heap.size 38 64 v (replay file log).length (flatC (replay file log)) ∧ (∀ c ∈ replay file log, c.length = 64) ∧ Below w.heap.size w w' := by
  obtain ⟨fa, fcap, rfl⟩ := row_form hf.row
  obtain ⟨la, lcap, rfl⟩ := row_form hl.row
  obtain ⟨i0, hi0, hz0, hz1, hz2⟩ := info_parts Tryz.infoClus
  go_enter Tryz.func61, Tryz.ntmps61
  go_wp2
  go_loopw [5, 6] (fun v i w' => ∃ k : Nat, k ≤ file.length ∧ i = .int .i64 k ∧ w'.ownsRow w.heap.size 38 64 v k (flatC (file.take k)) ∧ Below w.heap.size w w') (fun _ i _ => file.length - (intOf i).toNat)
  case atStart => exact ⟨0, by omega, rfl, World.ownsRow_nil _ _ _ _, Below.refl _ _⟩
  case round =>
    obtain ⟨k, hk, rfl, hrow, hb⟩ := hrel
    by_cases hlt : k < file.length
    · have hfk := hf.kept (S := fun _ => False) (Kept.of_below hb) (fun _ _ => id)
      obtain ⟨g, cap2, e2, _⟩ := row_some hf.row (by omega)
      obtain ⟨rfl, rfl⟩ : fa = some ⟨g, 0, none⟩ ∧ fcap = cap2 := by injection e2 with x1 x2 x3; exact ⟨x1, x3⟩
      have l1 := row_has hfk.row hfk.lens k hlt
      have l2 := row_cells hfk.row hfk.lens k hlt
      have hcc := cl_length hf.lens hlt
      have hki : (k : Int) < (file.length : Int) := by omega
      have ht : file.take (k + 1) = file.take k ++ [cl file k] := by
        rw [List.take_succ_eq_append_getElem hlt]
        unfold cl
        rw [List.getD_eq_getElem?_getD, List.getElem?_eq_getElem hlt]; rfl
      have Ht := hide ht
      have Hrow := hide hrow
      have Hb := hide hb
      clear ht hrow hb hfk e2
      generalize cl file k = c at *
      go_wp2_with (at_builtin; refine wpList_append_lies _ rfl _ _ _ rfl w.heap.size 38 i0 _ 64 64 Tryz.underlying28 hi0 hz0 hz1 hz2 (by simp [Value.cells, cv_length, zc_length]) (by omega) u5 k (flatC (file.take k)) rfl ((unhide Hrow).alloc _) ⟨wr.heap.size, 0, none⟩ 1 1 (cv c) rfl (by rw [cv_length, hcc]) (World.news_of_block (cs := (cv c).toArray) (t := 38) (fr := (0, 0)) (heap_alloc_new wr _)) (cv_one c) (by omega) (by unfold maxLen; omega) (by omega) (by have := (unhide Hb).size; simp; omega) (wr.heap.size + 1) (by simp) ?_; intro g5 cap5 w5 hown5 hgrow hat hlt5)
      have S5 := hide (((unhide Hb).alloc (unhide Hb).size (.cells (cv c).toArray 38)).grown hgrow (by have := (unhide Hb).size; simp; omega) (fun k hk => ((unhide Hrow).lt k hk).1))
      go_roundw
      case rel => exact ⟨k + 1, by omega, by go_num, by rw [unhide Ht, flatC_snoc]; exact hown5, unhide S5⟩
      case measure => simp [intOf]; omega
    · have hkf : k = file.length := by omega
      have Hrow : Hid (wr.ownsRow w.heap.size 38 64 u5 file.length (flatC file)) := by rw [hkf, List.take_length] at hrow; exact hrow
      have Hb := hide hb
      clear hrow hb hkf
      go_wp2
      generalize Value.int .i64 (k : Int) = s6
      go_loopw [5, 7] (fun v i w' => ∃ (m : Nat) (l : List Clus), m ≤ log.length ∧ i = .int .i64 m ∧ w'.ownsRow w.heap.size 38 64 v l.length (flatC l) ∧ (∀ c ∈ l, c.length = 64) ∧ l.length ≤ 1000 ∧ Below w.heap.size w w' ∧ replay l (log.drop m) = replay file log) (fun _ i _ => log.length - (intOf i).toNat)
      case atStart => exact ⟨0, file, by omega, rfl, unhide Hrow, hf.lens, hfl, unhide Hb, rfl⟩
      case round =>
        obtain ⟨m, l, hm, rfl, hrow, hls, hl1000, hb, he⟩ := hrel
        have He := hide he
        clear he Hrow Hb
        by_cases hlt2 : m < log.length
        · have hlk := hl.kept (S := fun _ => False) (Kept.of_below hb) (fun _ _ => id)
          obtain ⟨g, cap2, e2, _⟩ := row_some hl.row (by omega)
          obtain ⟨rfl, rfl⟩ : la = some ⟨g, 0, none⟩ ∧ lcap = cap2 := by injection e2 with x1 x2 x3; exact ⟨x1, x3⟩
          have hmem := wrAt_mem hlt2
          have hdl := hl.lens _ hmem
          have hc1000 := hcl _ hmem
          have l1 := hasAt_of_range (n := 65) (hlk.range m hlt2) (wrCells_length hdl)
          have l2 := cellsAt_of_range (n := 65) (hlk.range m hlt2) (wrCells_length hdl)
          have hmi : (m : Int) < (log.length : Int) := by omega
          have hdrop : log.drop m = wrAt log m :: log.drop (m + 1) := by
            rw [List.drop_eq_getElem_cons hlt2]
            unfold wrAt
            rw [List.getD_eq_getElem?_getD, List.getElem?_eq_getElem hlt2]; rfl
          have hnx : replay (replayOne l (wrAt log m)) (log.drop (m + 1)) = replay file log := by rw [← unhide He, hdrop]; rfl
          have Hnx := hide hnx
          have Hrow := hide hrow
          have Hb := hide hb
          clear hnx hrow hb hlk e2 hmem hdrop He
          generalize wrAt log m = x at *
          have y0 : (wr.alloc (.cells (wrCells x).toArray 104)).cell? ⟨wr.heap.size, 0, none⟩ = some (.int .i64 x.cl) := by rw [cell_new]; rfl
          by_cases hneg : x.cl < 0
          · have dn : decide (x.cl < 0) = true := by simpa using hneg
            rw [show replayOne l x = l by simp [replayOne, hneg]] at Hnx
            go_wp2
            go_roundw
            case rel => exact ⟨m + 1, l, by omega, by go_num, (unhide Hrow).alloc _, hls, hl1000, (unhide Hb).alloc (unhide Hb).size _, unhide Hnx⟩
            case measure => simp [intOf]; omega
          · have dn : decide (x.cl < 0) = false := by simpa using hneg
            obtain ⟨cx, hcx⟩ := Int.eq_ofNat_of_zero_le (show 0 ≤ x.cl by omega)
            have hrp : replayOne l x = (growTo l (cx + 1)).set cx x.data := by unfold replayOne; rw [if_neg hneg, hcx]; rfl
            rw [hrp] at Hnx
            rw [hcx] at y0 dn hc1000
            have hbx : (wr.alloc (.cells (wrCells x).toArray 104)).heap[wr.heap.size]? = some (.cells (wrCells x).toArray 104 (0, 0)) := heap_alloc_new _ _
            have Hbx := hide hbx
            have HbW := hide ((unhide Hb).alloc (unhide Hb).size (.cells (wrCells x).toArray 104))
            have HrowW := hide ((unhide Hrow).alloc (.cells (wrCells x).toArray 104))
            have hws := (unhide Hb).size
            have HOlt : Hid (∀ g, u5.ownBlock = some g → g < wr.heap.size) := fun g hg => ((unhide Hrow).lt g hg).2
            have Hcx := hide hcx
            clear hrp hcx hneg hbx Hb Hrow
            go_wp2
            clear l1 l2 y0
            generalize wr.alloc (.cells (wrCells x).toArray 104) = W at *
            generalize wr.heap.size = bx at *
            go_loopw [5] (fun v w' => ∃ n : Nat, l.length + n ≤ max l.length (cx + 1) ∧ w'.ownsRow w.heap.size 38 64 v (l ++ List.replicate n zc).length (flatC (l ++ List.replicate n zc)) ∧ w'.heap[bx]? = some (.cells (wrCells x).toArray 104 (0, 0)) ∧ (∀ g, v.ownBlock = some g → g ≠ bx) ∧ Below w.heap.size w w') (fun v _ => cx + 1 - sliceLen v)
            case atStart =>
              refine ⟨0, by omega, by simpa using unhide HrowW, unhide Hbx, fun g hg e => ?_, unhide HbW⟩
              have := unhide HOlt g hg
              omega
            case round =>
              obtain ⟨n, hn, hrow, hbx, hown, hb⟩ := hrel
              clear HrowW Hbx HbW
              rw [List.length_append, List.length_replicate] at hrow
              obtain ⟨a, cap, hv⟩ := row_form hrow
              subst hv
              have z0 : wr.cell? ⟨bx, 0, none⟩ = some (.int .i64 (cx : Int)) := by rw [cell_blk hbx, ← unhide Hcx]; rfl
              have hls' : ∀ c ∈ l ++ List.replicate n zc, c.length = 64 := by
                intro c hc
                rcases List.mem_append.1 hc with h | h
                · exact hls c h
                · rw [List.eq_of_mem_replicate h]; exact zc_length
              by_cases hle : l.length + n ≤ cx
              · have dl : decide (((l.length + n : Nat) : Int) ≤ (cx : Int)) = true := by simp; omega
                have hrep : l ++ List.replicate (n + 1) zc = (l ++ List.replicate n zc) ++ [zc] := by rw [List.replicate_succ', List.append_assoc]
                have Hrep := hide hrep
                have Hrow := hide hrow
                have Hbx := hide hbx
                have Hb := hide hb
                have Hown := hide hown
                have Hls := hide hls'
                clear hrep hrow hbx hb hown hls'
                generalize hlr : l ++ List.replicate n zc = l2 at *
                go_wp2_with (at_builtin; refine wpList_append_lies _ rfl _ _ _ rfl w.heap.size 38 i0 _ 64 64 Tryz.underlying28 hi0 hz0 hz1 hz2 (by simp [Value.cells, cv_length, zc_length]) (by omega) (.slice a (l.length + n) cap) (l.length + n) (flatC l2) rfl ((unhide Hrow).alloc _) ⟨wr.heap.size, 0, none⟩ 1 1 (cv zc) rfl (by rw [cv_length, zc_length]) (World.news_of_block (cs := (cv zc).toArray) (t := 38) (fr := (0, 0)) (heap_alloc_new wr _)) (cv_one zc) (by omega) (by unfold maxLen; omega) (by omega) (by have := (unhide Hb).size; simp; omega) (wr.heap.size + 1) (by simp) ?_; intro g5 cap5 w5 hown5 hgrow hat hlt5)
                have hsz := (unhide Hb).size
                have hbxl := blk_lt (unhide Hbx)
                have S1 := hide (((unhide Hb).alloc (unhide Hb).size (.cells (cv zc).toArray 38)).grown hgrow (by simp; omega) (fun k hk => ((unhide Hrow).lt k hk).1))
                have S2 := hide (grown_blk hgrow (show (wr.alloc (.cells (cv zc).toArray 38)).heap[bx]? = some (.cells (wrCells x).toArray 104 (0, 0)) from (Below.heap_alloc _ _ _ hbxl).trans (unhide Hbx)) (fun k hk => unhide Hown k hk))
                have S3 : Hid (∀ g, (Value.slice (some ⟨g5, 0, none⟩) (l.length + n + 1) cap5).ownBlock = some g → g ≠ bx) := fun g hg e => by
                  simp only [Value.ownBlock, Option.some.injEq] at hg
                  rcases hat with h | h
                  · exact unhide Hown g5 h (by omega)
                  · omega
                go_roundw
                case rel =>
                  refine ⟨n + 1, by omega, ?_, unhide S2, unhide S3, unhide S1⟩
                  rw [unhide Hrep, flatC_snoc, List.length_append, ← hlr, List.length_append, List.length_replicate, hlr]
                  exact hown5
                case measure => simp [sliceLen]; omega
              · have dl : decide (((l.length + n : Nat) : Int) ≤ (cx : Int)) = false := by simp; omega
                have hg1 : growTo l (cx + 1) = l ++ List.replicate n zc := by
                  unfold growTo
                  congr 2
                  omega
                rw [hg1] at Hnx
                obtain ⟨g, cap', e3, hcap⟩ := row_some hrow (by omega)
                obtain ⟨rfl, rfl⟩ : a = some ⟨g, 0, none⟩ ∧ cap = cap' := by injection e3 with x1 x2 x3; exact ⟨x1, x3⟩
                have hlen' : (l ++ List.replicate n zc).length = l.length + n := by simp
                rw [← hlen'] at hrow
                have hlt3 : cx < (l ++ List.replicate n zc).length := by rw [hlen']; omega
                have th := row_there hrow cx hlt3
                have Hset := hide (row_set hrow hls' cx hlt3 x.data hdl)
                have k1 : wr.rangeAt bx 1 (cv x.data) := fun j v hv => by
                  rw [cell_blk hbx, List.getElem?_toArray, Nat.add_comm]; exact hv
                have l1 := hasAt_of_range (n := 64) k1 (by rw [cv_length, hdl])
                have l2 := cellsAt_of_range (n := 64) k1 (by rw [cv_length, hdl])
                have hgb : w.heap.size ≤ g := (hrow.lt g rfl).1
                have HB := hide (below_setCells hb hgb (cx * 64) (cv x.data))
                have hls2 : ∀ c ∈ (l ++ List.replicate n zc).set cx x.data, c.length = 64 := by
                  intro c hc
                  rcases List.mem_or_eq_of_mem_set hc with y | y
                  · exact hls' c y
                  · rw [y]; exact hdl
                have Hls2 := hide hls2
                have hcxi : (cx : Int) < ((l.length + n : Nat) : Int) := by omega
                rw [hlen'] at Hset
                clear hrow hbx hown hb hls' k1 hg1 e3 hls2
                go_wp2
                go_roundw
                case rel =>
                  refine ⟨m + 1, (l ++ List.replicate n zc).set cx x.data, by omega, by go_num, ?_, unhide Hls2, by rw [List.length_set, hlen']; omega, unhide HB, unhide Hnx⟩
                  exact unhide Hset
                case measure => simp [intOf]; omega
        · have hml : m = log.length := by omega
          have hx : l = replay file log := by rw [← unhide He, hml, List.drop_length]; rfl
          have Hx := hide hx
          have Hrow := hide hrow
          have Hb := hide hb
          clear hx hrow hb He hml
          go_wp2
          go_ret
          exact ⟨u5, rfl, by rw [← unhide Hx]; exact unhide Hrow, by rw [← unhide Hx]; exact hls, unhide Hb⟩
end Go.Proofs.YtknjjjenklfeoaaGreatDoor

/-
  Small functions of the statements: cluster, num, sameFile, marked.
-/
namespace Go.Proofs.YtknjjjenklfeoaaGreatDoor
open Go.RowKit
attribute [local go_sem ↓] loadVar_clus storeVar_clus zeroValue_clus equalIn_clus
attribute [local go_sem] run_loadClus run_storeClus run_zeroClus zc_length
/-- Two clusters lie in the two blocks that were made first. -/
structure TwoCl (w w' : World) (z c : Clus) : Prop where
  below : Below w.heap.size w w'
  one : w'.heap[w.heap.size]? = some (.cells (cv z).toArray 38 (0, 0))
  two : w'.heap[w.heap.size + 1]? = some (.cells (cv c).toArray 38 (0, 0))
theorem TwoCl.start (w : World) : TwoCl w ((w.alloc (.cells (cv zc).toArray 38)).alloc (.cells (cv zc).toArray 38)) zc zc := by
  refine ⟨((Below.refl _ _).alloc (Nat.le_refl _) _).alloc (by simp) _, ?_, ?_⟩
  · rw [Below.heap_alloc _ _ _ (by simp)]; exact heap_alloc_new _ _
  · have := heap_alloc_new (w.alloc (.cells (cv zc).toArray 38)) (.cells (cv zc).toArray 38)
    simpa using this
theorem cv_set (c : Clus) (i : Nat) (b : UInt8) : (cv c).set i (.int .u8 (b.toNat : Int)) = cv (c.set i b) := by simp [cv, List.map_set]
theorem TwoCl.set {w w' : World} {z c : Clus} (h : TwoCl w w' z c) (i : Nat) (b : UInt8) : TwoCl w (w'.setCell ⟨w.heap.size + 1, i, none⟩ (.int .u8 (b.toNat : Int))) z (c.set i b) :=
  ⟨h.below.setCell (by simp) _, by rw [Below.heap_setCell _ _ _ _ (by simp)]; exact h.one, by rw [heap_setCell_same _ _ _ _ _ _ _ h.two, List.setIfInBounds_toArray, cv_set]⟩

/-- A text as a cluster: cut, or noughts behind it. -/
def clusTo (l : List UInt8) (k : Nat) : Clus := l.take k ++ List.replicate (64 - k) 0
def clusOf (l : List UInt8) : Clus := clusTo l (min l.length 64)
theorem clusTo_length (l : List UInt8) (k : Nat) (h : k ≤ l.length) (h2 : k ≤ 64) : (clusTo l k).length = 64 := by simp [clusTo]; omega
theorem clusTo_succ (l : List UInt8) (k : Nat) (h : k < l.length) (h2 : k < 64) : (clusTo l k).set k (l.getD k 0) = clusTo l (k + 1) := by
  unfold clusTo
  rw [List.set_append_right _ _ (by simp; omega), List.length_take, show k - min k l.length = 0 by omega, show 64 - k = (64 - (k + 1)) + 1 by omega, List.replicate_succ, List.set_cons_zero, List.take_succ_eq_append_getElem h, List.append_assoc]
  rw [List.getD_eq_getElem?_getD, List.getElem?_eq_getElem h]
  rfl

/-- What was stored last is handed back. -/
theorem TwoCl.back {w w' : World} {z c : Clus} (h : TwoCl w w' z c) (hz : z.length = 64) (hc : c.length = 64) :
    w'.there w.heap.size 0 64 ∧ HasAt w' (w.heap.size + 1) 0 64 ∧ cellsAt w' (w.heap.size + 1) 0 64 = cv c ∧ HasAt (w'.setCells w.heap.size 0 (cv c)) w.heap.size 0 64 ∧ cellsAt (w'.setCells w.heap.size 0 (cv c)) w.heap.size 0 64 = cv c ∧ Below w.heap.size w (w'.setCells w.heap.size 0 (cv c)) := by
  have hs := box_store h.one hz hc
  exact ⟨there_blk h.one _ _ (by simp [cv_length, hz]), box_has h.two hc, box_cells h.two hc, box_has hs hc, box_cells hs hc, below_setCells h.below (Nat.le_refl _) _ _⟩

set_option maxHeartbeats 1000000 in
set_option maxRecDepth 100000 in
theorem cluster_any (s : ByteArray) (w : World) (hs : s.size ≤ maxLen) :
    Calls Tryz.prog 45 #[.string s] w fun e w' => e = .returned (.agg (cv (clusOf s.data.toList)).toArray) ∧ Below w.heap.size w w' := by
  unfold maxLen at hs
  have hlen : s.data.toList.length = s.size := by rw [Array.length_toList]; rfl
  have Hres : Hid (clusOf s.data.toList = clusTo s.data.toList (min s.size 64)) := by unfold clusOf; rw [hlen]; rfl
  have T0 := hide (TwoCl.start w)
  have Hlen := hide hlen
  clear hlen
  go_enter Tryz.func45, Tryz.ntmps45
  go_wp2
  go_loopw [4] (fun i w' => ∃ k : Nat, k ≤ s.size ∧ k ≤ 64 ∧ i = .int .i64 k ∧ TwoCl w w' zc (clusTo s.data.toList k)) (fun i _ => 64 - (intOf i).toNat)
  case atStart => exact ⟨0, by omega, by omega, rfl, unhide T0⟩
  case round =>
    obtain ⟨k, hk, hk64, rfl, ht⟩ := hrel
    clear T0
    by_cases hlt : k < s.size ∧ k < 64
    · obtain ⟨h1, h2⟩ := hlt
      have hl := clusTo_length s.data.toList k (by rw [unhide Hlen]; omega) (by omega)
      have cb := box_byte ht.two k (by omega)
      have zb := frozen_blk ht.two k
      have hget : s.data.toList.getD k 0 = s[k] := by
        rw [List.getD_eq_getElem?_getD, List.getElem?_eq_getElem (by rw [unhide Hlen]; exact h1)]; rfl
      have hset := ht.set k s[k]
      rw [← hget, clusTo_succ _ _ (by rw [unhide Hlen]; exact h1) h2, hget] at hset
      have HS := hide hset
      clear ht hset hget hl
      go_wp2
      go_roundw
      case rel => exact ⟨k + 1, by omega, by omega, by go_num, unhide HS⟩
      case measure => simp [intOf]; omega
    · have hkm : k = min s.size 64 := by omega
      have hl := clusTo_length s.data.toList k (by rw [unhide Hlen]; omega) (by omega)
      rw [← hkm] at Hres
      obtain ⟨b1, b2, b3, b4, b5, b6⟩ := ht.back zc_length hl
      have HB := hide b6
      clear ht b6 hkm
      generalize clusTo s.data.toList k = c at *
      by_cases h1 : k < s.size
      · have h64 : ¬ (k : Int) < 64 := by omega
        go_wp2
        rw [unhide Hres]
        exact bodyPost_ret (v := .agg (cv c).toArray) (results_cell Tryz.results45 ⟨w.heap.size, 0, none⟩ rfl (by rw [loadVar_clus, run_loadClus b4, b5])) rfl ⟨rfl, unhide HB⟩
      · go_wp2
        rw [unhide Hres]
        exact bodyPost_ret (v := .agg (cv c).toArray) (results_cell Tryz.results45 ⟨w.heap.size, 0, none⟩ rfl (by rw [loadVar_clus, run_loadClus b4, b5])) rfl ⟨rfl, unhide HB⟩
end Go.Proofs.YtknjjjenklfeoaaGreatDoor

/-
  Small functions of the statements: sameFile, marked.
-/
namespace Go.Proofs.YtknjjjenklfeoaaGreatDoor
open Go.RowKit
attribute [local go_sem ↓] loadVar_clus storeVar_clus zeroValue_clus equalIn_clus
attribute [local go_sem] run_loadClus run_storeClus run_zeroClus zc_length
theorem take_snoc_cl (L : List Clus) (k : Nat) (h : k < L.length) : L.take (k + 1) = L.take k ++ [cl L k] := by
  rw [List.take_succ_eq_append_getElem h]
  unfold cl
  rw [List.getD_eq_getElem?_getD, List.getElem?_eq_getElem h]; rfl

set_option maxHeartbeats 1000000 in
set_option maxRecDepth 100000 in
theorem sameFile_any (w : World) (av bv : Value) (A B : List Clus) (hA : FRow w av A) (hB : FRow w bv B) (hAl : A.length ≤ 100000) (hBl : B.length ≤ 100000) :
    Calls Tryz.prog 60 #[av, bv] w fun e w' => e = .returned (.bool (decide (A = B))) ∧ Below w.heap.size w w' := by
  obtain ⟨aa, acap, rfl⟩ := row_form hA.row
  obtain ⟨ba, bcap, rfl⟩ := row_form hB.row
  have hAi : (A.length : Int) ≤ 100000 := by omega
  have hBi : (B.length : Int) ≤ 100000 := by omega
  by_cases hlen : A.length = B.length
  · have dl : ((A.length : Int) != (B.length : Int)) = false := by rw [bne_eq_false_iff_eq]; omega
    have Hlen := hide hlen
    clear hlen
    go_enter Tryz.func60, Tryz.ntmps60
    go_wp2
    go_loopw [5] (fun i w' => ∃ k : Nat, k ≤ A.length ∧ i = .int .i64 k ∧ Below w.heap.size w w' ∧ A.take k = B.take k) (fun i _ => A.length - (intOf i).toNat)
    case atStart => exact ⟨0, by omega, rfl, Below.refl _ _, rfl⟩
    case round =>
      obtain ⟨k, hk, rfl, hb, ht⟩ := hrel
      have Ht := hide ht
      have Hb := hide hb
      have hA' := hA.kept (S := fun _ => False) (Kept.of_below hb) (fun _ _ => id)
      have hB' := hB.kept (S := fun _ => False) (Kept.of_below hb) (fun _ _ => id)
      clear ht hb
      by_cases hlt : k < A.length
      · have hltB : k < B.length := by rw [← unhide Hlen]; exact hlt
        obtain ⟨g, cap2, e2, _⟩ := row_some hA.row (by omega)
        obtain ⟨rfl, rfl⟩ : aa = some ⟨g, 0, none⟩ ∧ acap = cap2 := by injection e2 with x1 x2 x3; exact ⟨x1, x3⟩
        obtain ⟨g', cap3, e3, _⟩ := row_some hB.row (by omega)
        obtain ⟨rfl, rfl⟩ : ba = some ⟨g', 0, none⟩ ∧ bcap = cap3 := by injection e3 with x1 x2 x3; exact ⟨x1, x3⟩
        have l1 : ∀ n, HasAt (wr.drewN n) g (k * 64) 64 := fun n => row_has hA'.row hA'.lens k hlt
        have l2 : ∀ n, cellsAt (wr.drewN n) g (k * 64) 64 = cv (cl A k) := fun n => row_cells hA'.row hA'.lens k hlt
        have l3 : ∀ n, HasAt (wr.drewN n) g' (k * 64) 64 := fun n => row_has hB'.row hB'.lens k hltB
        have l4 : ∀ n, cellsAt (wr.drewN n) g' (k * 64) 64 = cv (cl B k) := fun n => row_cells hB'.row hB'.lens k hltB
        have hca := cl_length hA.lens hlt
        have hcb := cl_length hB.lens hltB
        have he := run_eqClus hca hcb
        have hki : (k : Int) < (A.length : Int) := by omega
        have hkj : (k : Int) < (B.length : Int) := by omega
        have HtA := hide (take_snoc_cl A k hlt)
        have HtB := hide (take_snoc_cl B k hltB)
        clear e2 e3 hA' hB'
        by_cases hcc : cl A k = cl B k
        · rw [decide_eq_true hcc] at he
          have Hn : Hid (A.take (k + 1) = B.take (k + 1)) := by
            have h1 := unhide HtA
            have h2 := unhide HtB
            have h3 := unhide Ht
            rw [h3, hcc, ← h2] at h1
            exact h1
          clear hcc HtA HtB
          go_wp2
          go_quiet (fail)
          go_wp2
          go_roundw
          case rel => exact ⟨k + 1, by omega, by go_num, (unhide Hb).trans ((((Kept.refl (fun _ => False) wr).drewN nq).below).mono (unhide Hb).size), unhide Hn⟩
          case measure => simp [intOf]; omega
        · rw [decide_eq_false hcc] at he
          have Hn : Hid (decide (A = B) = false) := by
            refine decide_eq_false ?_
            intro e
            exact hcc (by rw [e])
          clear hcc HtA HtB
          go_wp2
          go_quiet (fail)
          go_wp2
          go_ret
          exact ⟨by rw [unhide Hn]; rfl, (unhide Hb).trans ((((Kept.refl (fun _ => False) wr).drewN nq).below).mono (unhide Hb).size)⟩
      · have hx : A = B := by
          have h := unhide Ht
          have hkA : k = A.length := by omega
          rw [hkA, List.take_length, unhide Hlen, List.take_length] at h
          exact h
        have Hn : Hid (decide (A = B) = true) := decide_eq_true hx
        clear hx
        go_wp2
        go_ret
        exact ⟨by rw [unhide Hn]; rfl, unhide Hb⟩
  · have dl : ((A.length : Int) != (B.length : Int)) = true := by rw [bne_iff_ne]; omega
    have Hn : Hid (decide (A = B) = false) := decide_eq_false (fun e => hlen (by rw [e]))
    clear hlen
    go_enter Tryz.func60, Tryz.ntmps60
    go_wp2
    go_ret
    exact ⟨by rw [unhide Hn]; rfl, Below.refl _ _⟩

/-- What the owner of a list writes into it. -/
def markC (m : UInt8) : Clus := (zc.set 0 m).set 63 (m ^^^ 85)
theorem markC_length (m : UInt8) : (markC m).length = 64 := by simp [markC, zc_length]
theorem bits_xor85 (m : UInt8) : bits BinOp.xor IntKind.u8 (m.toNat : Int) 85 = ((m ^^^ 85).toNat : Int) := by
  have h : ∀ n : Fin 256, bits BinOp.xor IntKind.u8 ((n.val : Nat) : Int) 85 = (((UInt8.ofNat n.val) ^^^ 85).toNat : Int) := by decide +kernel
  have := h ⟨m.toNat, m.toNat_lt⟩
  simpa using this
set_option maxHeartbeats 1000000 in
set_option maxRecDepth 100000 in
theorem lawMarked_any (m : UInt8) (w : World) :
    Calls Tryz.prog 68 #[.int .u8 (m.toNat : Int)] w fun e w' => e = .returned (.agg (cv (markC m)).toArray) ∧ Below w.heap.size w w' := by
  have t0 := TwoCl.start w
  have c0 := box_byte t0.two 0 (by rw [zc_length]; omega)
  have hm0 : (cv zc).set 0 (.int .u8 (m.toNat : Int)) = cv (zc.set 0 m) := cv_set zc 0 m
  have hm1 : ((cv zc).set 0 (.int .u8 (m.toNat : Int))).set 63 (.int .u8 (bits BinOp.xor IntKind.u8 (m.toNat : Int) 85)) = cv (markC m) := by rw [hm0, bits_xor85, cv_set]; rfl
  have t2 : TwoCl w ((w.alloc (.cells (cv zc).toArray 38)).alloc (.cells (cv (markC m)).toArray 38)) zc (markC m) := by
    refine ⟨((Below.refl _ _).alloc (Nat.le_refl _) _).alloc (by simp) _, ?_, ?_⟩
    · rw [Below.heap_alloc _ _ _ (by simp)]; exact heap_alloc_new _ _
    · have := heap_alloc_new (w.alloc (.cells (cv zc).toArray 38)) (.cells (cv (markC m)).toArray 38)
      simpa using this
  obtain ⟨b1, b2, b3, b4, b5, b6⟩ := t2.back zc_length (markC_length m)
  have hml := markC_length m
  have HB := hide b6
  clear t0 t2 b6 hm0
  go_enter Tryz.func68, Tryz.ntmps68
  go_wp2
  exact bodyPost_ret (v := .agg (cv (markC m)).toArray) (results_cell Tryz.results68 ⟨w.heap.size, 0, none⟩ rfl (by rw [loadVar_clus, run_loadClus b4, b5])) rfl ⟨rfl, unhide HB⟩
end Go.Proofs.YtknjjjenklfeoaaGreatDoor

/-
  append, and what it leaves alone: either the new slice lies in the old block, and no other block has turned; or it lies in a new one, and no old block has turned.
-/
namespace Go.Proofs.YtknjjjenklfeoaaGreatDoor
open Go.RowKit
variable {P : Program} (w : World)

/-- The beginning of a row is a row. -/
theorem row_prefix {w : World} {base g cap n m : Nat} {e : TypeId} {size : Nat} {xs news : List Value} (h : w.ownsRow base e size (.slice (some ⟨g, 0, none⟩) (n + m) cap) (n + m) (xs ++ news)) (hx : xs.length = n * size) :
    w.ownsRow base e size (.slice (some ⟨g, 0, none⟩) n cap) n xs := by
  refine ⟨hx, ?_⟩
  rcases h.2 with ⟨e0, _⟩ | ⟨g', cap', cur, e0, hb, hh, hn, hm, hs, ht⟩
  · cases e0
  · injection e0 with e1 _ e3
    injection e1 with e1
    injection e1 with e1 _ _
    subst e1
    subst e3
    refine Or.inr ⟨g, cap, cur, rfl, hb, hh, by omega, hm, hs, ?_⟩
    have : cur.toList.take (n * size) = (cur.toList.take ((n + m) * size)).take (n * size) := by
      rw [List.take_take, Nat.min_eq_left (Nat.mul_le_mul_right _ (by omega))]
    rw [this, ht, ← hx, List.take_left]
end Go.Proofs.YtknjjjenklfeoaaGreatDoor

/-
  The book of lists that came out: what it holds in memory.
-/
namespace Go.Proofs.YtknjjjenklfeoaaGreatDoor
open Go.RowKit

structure FEnt where
  v : Value
  n : Nat
  m : UInt8
structure WEnt where
  v : Value
  n : Nat
  m : Int
structure NEnt where
  v : Value
  n : Nat
  s : ByteArray
structure BookR where
  names : List NEnt
  files : List FEnt
  writes : List WEnt
  next : Nat
structure BookV where
  n : Value
  nm : Value
  f : Value
  fm : Value
  w : Value
  wm : Value
def bookCells (V : BookV) (next : Nat) : List Value := [V.n, V.nm, V.f, V.fm, V.w, V.wm, .int .i64 next]
def fillF (x : FEnt) : List Value := flatC (List.replicate x.n (markC x.m))
def fillW (x : WEnt) : List Value := flatW (List.replicate x.n ⟨x.m, zc⟩)
def fillN (x : NEnt) : List Value := List.replicate x.n (.string x.s)

/-- The book lies in block b, and uses blocks of S alone. -/
structure BookAt (w : World) (b : Nat) (V : BookV) (B : BookR) (S : Nat → Prop) : Prop where
  blk : w.heap[b]? = some (.cells (bookCells V B.next).toArray 77 (0, 0))
  rN : w.ownsRow 0 34 1 V.n B.names.length (B.names.map (·.v))
  rNm : w.ownsRow 0 9 1 V.nm B.names.length (B.names.map fun x => .string x.s)
  rF : w.ownsRow 0 28 1 V.f B.files.length (B.files.map (·.v))
  rFm : w.ownsRow 0 5 1 V.fm B.files.length (B.files.map fun x => .int .u8 (x.m.toNat : Int))
  rW : w.ownsRow 0 58 1 V.w B.writes.length (B.writes.map (·.v))
  rWm : w.ownsRow 0 3 1 V.wm B.writes.length (B.writes.map fun x => .int .i64 x.m)
  eN : ∀ x ∈ B.names, w.ownsRow 0 9 1 x.v x.n (fillN x)
  eF : ∀ x ∈ B.files, w.ownsRow 0 38 64 x.v x.n (fillF x)
  eW : ∀ x ∈ B.writes, w.ownsRow 0 104 65 x.v x.n (fillW x)
  apart : ∀ x ∈ B.names, ∀ g, x.v.ownBlock = some g → V.nm.ownBlock ≠ some g
  inB : S b
  inV : ∀ g, (V.n.ownBlock = some g ∨ V.nm.ownBlock = some g ∨ V.f.ownBlock = some g ∨ V.fm.ownBlock = some g ∨ V.w.ownBlock = some g ∨ V.wm.ownBlock = some g) → S g
  inN : ∀ x ∈ B.names, ∀ g, x.v.ownBlock = some g → S g
  inF : ∀ x ∈ B.files, ∀ g, x.v.ownBlock = some g → S g
  inW : ∀ x ∈ B.writes, ∀ g, x.v.ownBlock = some g → S g
  lt : ∀ k, S k → k < w.heap.size

theorem BookAt.kept {w w' : World} {b : Nat} {V : BookV} {B : BookR} {S T : Nat → Prop} (h : BookAt w b V B S) (hk : Kept T w w') (hd : ∀ k, S k → ¬ T k) : BookAt w' b V B S where
  blk := hk.blk (hd b h.inB) h.blk
  rN := ownsRow_kept hk h.rN fun g hg => hd g (h.inV g (Or.inl hg))
  rNm := ownsRow_kept hk h.rNm fun g hg => hd g (h.inV g (Or.inr (Or.inl hg)))
  rF := ownsRow_kept hk h.rF fun g hg => hd g (h.inV g (Or.inr (Or.inr (Or.inl hg))))
  rFm := ownsRow_kept hk h.rFm fun g hg => hd g (h.inV g (Or.inr (Or.inr (Or.inr (Or.inl hg)))))
  rW := ownsRow_kept hk h.rW fun g hg => hd g (h.inV g (Or.inr (Or.inr (Or.inr (Or.inr (Or.inl hg))))))
  rWm := ownsRow_kept hk h.rWm fun g hg => hd g (h.inV g (Or.inr (Or.inr (Or.inr (Or.inr (Or.inr hg))))))
  eN := fun x hx => ownsRow_kept hk (h.eN x hx) fun g hg => hd g (h.inN x hx g hg)
  eF := fun x hx => ownsRow_kept hk (h.eF x hx) fun g hg => hd g (h.inF x hx g hg)
  eW := fun x hx => ownsRow_kept hk (h.eW x hx) fun g hg => hd g (h.inW x hx g hg)
  apart := h.apart
  inB := h.inB
  inV := h.inV
  inN := h.inN
  inF := h.inF
  inW := h.inW
  lt := fun k hk' => Nat.lt_of_lt_of_le (h.lt k hk') hk.size
theorem BookAt.below {w w' : World} {b : Nat} {V : BookV} {B : BookR} {S : Nat → Prop} (h : BookAt w b V B S) (hb : Below w.heap.size w w') : BookAt w' b V B S :=
  h.kept (T := fun _ => False) (Kept.of_below hb) (fun _ _ => id)

/-- A slice of two clusters is built. -/
theorem run_buildSlice_two {P : Program} (w : World) (t e : TypeId) (n : Nat) (z v u : Value) (ht : P.underlying t = some (.slice e)) (hi : (P.info? e).map (fun i => (i.zero, i.size)) = some (some z, n)) (h0 : 0 < n) (hn : n ≤ 1000000) (hv : v.cells.size = n) (hu : u.cells.size = n) :
    (Instr.buildSlice t 2 #[(0, v), (1, u)]).run P w = .ok (.slice (some ⟨w.heap.size, 0, none⟩) 2 2) (w.alloc (.cells (v.cells.toList ++ u.cells.toList).toArray e)) := by
  obtain ⟨hz, hs⟩ := zero_of_info hi
  cases hq : P.info? e with
  | none => simp [hq] at hs
  | some i =>
    have hsz : i.size = n := by simpa [hq] using hs
    have hf : Instr.fill (fun i => some (i * n, n)) ((Array.range (2 * n)).map (z.cells[· % z.cells.size]!)) [(0, v), (1, u)] = some (v.cells.toList ++ u.cells.toList).toArray := by
      generalize hA : (Array.range (2 * n)).map (z.cells[· % z.cells.size]!) = A
      have hAs : A.toList.length = 2 * n := by rw [← hA]; simp
      rw [fill_one _ _ 0 0 n v _ (by simp) hv (by rw [← hA]; simp; omega), fill_one _ _ 1 n n u [] (by simp) hu (by rw [setList_size, ← hA]; simp; omega), Instr.fill]
      have e1 : setList A 0 v.cells.toList = (v.cells.toList ++ A.toList.drop n).toArray := by
        have e0 : A = (A.toList.take n ++ A.toList.drop n).toArray := by rw [List.take_append_drop]
        conv => lhs; rw [e0]
        exact setList_front _ _ _ (by simp [hv]; rw [← Array.length_toList]; omega)
      rw [e1]
      have e2 := setList_back v.cells.toList (A.toList.drop n) u.cells.toList (by simp [hu]; rw [← Array.length_toList]; omega)
      rw [show v.cells.toList.length = n by simp [hv]] at e2
      rw [e2]
    unfold Instr.buildSlice
    rw [Sem.run_bind, run_underlying ht w]
    simp only [Result.andThen_ok, Go.sizeOf, typeInfo, Sem.run_bind, run_program, hq, Sem.run_pure, hsz]
    rw [if_neg (by omega), if_neg (by omega)]
    simp only [Sem.run_bind, hz, Result.andThen_ok, Sem.run_pure, hf]
    simp [newRow]
def bsClus2 (parts : Array (Nat × Value)) : Sem Value := Instr.buildSlice 28 2 parts
theorem buildSlice_clus2 (parts : Array (Nat × Value)) : Instr.buildSlice 28 2 parts = bsClus2 parts := rfl
theorem run_bsClus2 {w : World} {c d : List UInt8} (hc : c.length = 64) (hd : d.length = 64) : (bsClus2 #[(0, .agg (cv c).toArray), (1, .agg (cv d).toArray)]).run Tryz.prog w = .ok (.slice (some ⟨w.heap.size, 0, none⟩) 2 2) (w.alloc (.cells (cv c ++ cv d).toArray 38)) :=
  run_buildSlice_two w 28 38 64 (.agg (cv zc).toArray) (.agg (cv c).toArray) (.agg (cv d).toArray) Tryz.underlying28 (by kernel_rfl) (by omega) (by omega) (by simp [Value.cells, cv_length, hc]) (by simp [Value.cells, cv_length, hd])

end Go.Proofs.YtknjjjenklfeoaaGreatDoor

/-
  The book takes a file's list: ownsFile.
-/
namespace Go.Proofs.YtknjjjenklfeoaaGreatDoor
open Go.RowKit
attribute [local go_sem ↓] loadVar_clus storeVar_clus zeroValue_clus buildSlice_clus buildSlice_clus2
attribute [local go_sem] run_loadClus run_storeClus run_zeroClus zc_length run_bsClus run_bsClus2
theorem BookAt.cell {w : World} {b : Nat} {V : BookV} {B : BookR} {S : Nat → Prop} (h : BookAt w b V B S) (i : Nat) : w.cell? ⟨b, i, none⟩ = (bookCells V B.next)[i]? := by rw [cell_blk h.blk, List.getElem?_toArray]
def markTo (L : List Clus) (m : UInt8) (k : Nat) : List Clus := List.replicate k (markC m) ++ L.drop k
theorem markTo_length (L : List Clus) (m : UInt8) (k : Nat) (h : k ≤ L.length) : (markTo L m k).length = L.length := by simp [markTo]; omega
theorem markTo_lens {L : List Clus} (hl : ∀ c ∈ L, c.length = 64) (m : UInt8) (k : Nat) : ∀ c ∈ markTo L m k, c.length = 64 := by
  intro c hc
  rcases List.mem_append.1 hc with h | h
  · rw [List.eq_of_mem_replicate h]; exact markC_length m
  · exact hl c (List.mem_of_mem_drop h)
theorem markTo_succ (L : List Clus) (m : UInt8) (k : Nat) (h : k < L.length) : (markTo L m k).set k (markC m) = markTo L m (k + 1) := by
  unfold markTo
  rw [List.set_append_right _ _ (by simp), List.length_replicate, Nat.sub_self, List.drop_eq_getElem_cons h, List.set_cons_zero, List.replicate_succ', List.append_assoc]
  rfl

end Go.Proofs.YtknjjjenklfeoaaGreatDoor

/-
  Writes of the log: built, stored into a row, put into a slice; a row of wide elements, one of them written over.
-/
namespace Go.Proofs.YtknjjjenklfeoaaGreatDoor
open Go.RowKit

theorem run_storeWr {w : World} {b o : Nat} {x : WrR} (ht : w.there b o 65) (hc : x.data.length = 64) : (storeWr ⟨b, o, none⟩ (.agg (wrCells x).toArray)).run Tryz.prog w = .ok () (w.setCells b o (wrCells x)) := by
  have := run_storeVar_mid (P := Tryz.prog) w b o 104 (wrCells x).toArray (by simpa [wrCells_length hc] using ht) (by simp only [List.size_toArray, wrCells_length hc]; kernel_rfl) (all_oneCell_toArray (wrCells_one x))
  simpa [storeWr] using this
def bWr (parts : Array (Nat × Value)) : Sem Value := Instr.build 104 parts
theorem build_wr (parts : Array (Nat × Value)) : Instr.build 104 parts = bWr parts := rfl
theorem run_bWr0 (n : Int) (w : World) : (bWr #[(0, .int .i64 n)]).run Tryz.prog w = .ok (.agg (wrCells ⟨n, zc⟩).toArray) w := by
  have hz := (zero_of_info (P := Tryz.prog) (t := 104) (v := .agg (wrCells ⟨0, zc⟩).toArray) (n := 65) (by kernel_rfl)).1
  have hf : Instr.fill (fun x => (#[(0, 1), (1, 64)] : Array (Nat × Nat))[x]?) ([Value.int .i64 0] ++ cv zc).toArray [(0, Value.int .i64 n)] = some (wrCells ⟨n, zc⟩).toArray := by
    rw [fill_one _ _ 0 0 1 (.int .i64 n) [] (by rfl) (by rfl) (by simp), Instr.fill, show (Value.int .i64 n).cells.toList = [Value.int .i64 n] from rfl, setList_front [Value.int .i64 0] (cv zc) [Value.int .i64 n] rfl]
    rfl
  exact run_build_struct w 104 _ (.agg (wrCells ⟨0, zc⟩).toArray) #[(0, 1), (1, 64)] #[(0, .int .i64 n)] _ Tryz.underlying104 hz (fun w => by kernel_rfl) hf
def bsWr (parts : Array (Nat × Value)) : Sem Value := Instr.buildSlice 58 1 parts
theorem buildSlice_wr (parts : Array (Nat × Value)) : Instr.buildSlice 58 1 parts = bsWr parts := rfl
theorem run_bsWr {w : World} {x : WrR} (hc : x.data.length = 64) : (bsWr #[(0, .agg (wrCells x).toArray)]).run Tryz.prog w = .ok (.slice (some ⟨w.heap.size, 0, none⟩) 1 1) (w.alloc (.cells (wrCells x).toArray 104)) :=
  run_buildSlice_one w 58 104 65 (.agg (wrCells ⟨0, zc⟩).toArray) (.agg (wrCells x).toArray) Tryz.underlying58 (by kernel_rfl) (by omega) (by omega) (by simp [Value.cells, wrCells_length hc])
theorem Tryz.infoWr : (Tryz.prog.info? 104).map (fun i => (i.zero, i.size, i.bytes)) = some (some (.agg (wrCells ⟨0, zc⟩).toArray), 65, 72) := by kernel_rfl
theorem flatW_snoc (l : List WrR) (x : WrR) : flatW (l ++ [x]) = flatW l ++ wrCells x := by simp [flatW]

end Go.Proofs.YtknjjjenklfeoaaGreatDoor
