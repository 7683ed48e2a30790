import Derived.Test.YtknjjjenklfeoaaGreatDoorP37
import Derived.Test.YtknjjjenklfeoaaGreatDoorP31
/-
  The iterator held: a first table, and all that it tells.
-/
namespace Go.Proofs.YtknjjjenklfeoaaGreatDoor
open Go.RowKit Go.Shelf
attribute [local go_sem ↓] loadVar_clus storeVar_clus zeroValue_clus loadVar_tab storeVar_tab zeroValue_tab loadVar_cnt storeVar_cnt zeroValue_cnt loadVar_head storeVar_head zeroValue_head build_head buildSlice_clus loadVar_wr storeVar_wr zeroValue_wr build_wr buildSlice_wr equalIn_clus loadVar_place storeVar_place zeroValue_place build_place
attribute [local go_sem] run_loadClus run_storeClus run_zeroClus run_storeClus_new run_loadClus_new zc_length run_loadTab run_storeTab run_zeroTab run_storeTab_new run_loadTab_new zt_length run_loadCnt run_storeCnt run_zeroCnt run_storeCnt_new run_loadCnt_new zk_length run_loadHead run_storeHead run_zeroHead run_storeHead_new run_bHead HasAt_drew cellsAt_drew HasAt_drewN cellsAt_drewN run_bsClus run_loadWr run_zeroWr run_storeWr run_storeWr_new run_bWr0 run_bsWr run_loadPlace run_storePlace run_zeroPlace run_storePlace_new run_bPlace
attribute [local go_sem] field_head1 field_head0 Oper.semAt_some

def numsS {V : VolR} (ss : List (SpotR (InR V))) : List Nat := ss.map fun s => s.number % 32768
theorem numsS_snoc {V : VolR} (ss : List (SpotR (InR V))) (s : SpotR (InR V)) : numsS (ss ++ [s]) = numsS ss ++ [s.number % 32768] := by simp [numsS]
theorem spots_nums {Pc : Nat → Prop} (V : VolR) (t : Nat) (hT : NumsOK Pc V.C t) : (spots V t hT).map (fun s => s.number % 32768) = toldBy (numsOf (cl V.C t)) := by
  have := spots_told t (numsOf (cl V.C t)) hT (numsOf_length _) 32 (Nat.le_refl _)
  rw [List.take_of_length_le (by rw [numsOf_length]; exact Nat.le_refl _)] at this
  exact this
theorem flatS_nums {V : VolR} : ∀ ss : List (SpotR (TabOK V)), numsS (flatS ss) = (ss.map fun s => s.number % 32768).flatMap fun s => s :: toldBy (numsOf (cl V.C s))
  | [] => rfl
  | s :: ss => by
    have h1 : flatS (s :: ss) = (downS s :: spots V (s.number % 32768) s.hc.2) ++ flatS ss := by simp [flatS]
    have h2 := flatS_nums ss
    have h3 := spots_nums V (s.number % 32768) s.hc.2
    unfold numsS at h2 ⊢
    rw [h1, List.map_append, h2, List.map_cons, List.map_cons, List.flatMap_cons, h3]
    rfl
theorem told_nums (V : VolR) (first : Nat) (h : FirstOK V first) : numsS (toldSpots V first h) = toldAll V.C first := by
  unfold toldSpots toldAll
  rw [flatS_nums, spots_nums]

/-- What is told, as clusters. -/
def clsS {V : VolR} (hC : V.C.length ≤ 256) (ss : List (SpotR (InR V))) : List U256 := ss.map fun s => ⟨s.number % 32768, by have := s.hc.2; omega⟩
theorem clsS_val {V : VolR} (hC : V.C.length ≤ 256) (ss : List (SpotR (InR V))) : (clsS hC ss).map (·.1) = numsS ss := by simp [clsS, numsS]
theorem clsS_snoc {V : VolR} (hC : V.C.length ≤ 256) (ss : List (SpotR (InR V))) (s : SpotR (InR V)) : clsS hC (ss ++ [s]) = clsS hC ss ++ [⟨s.number % 32768, by have := s.hc.2; omega⟩] := by simp [clsS]
theorem clsS_len {V : VolR} (hC : V.C.length ≤ 256) (ss : List (SpotR (InR V))) : (clsS hC ss).length = ss.length := by simp [clsS]

set_option maxHeartbeats 4000000 in
set_option maxRecDepth 100000 in
theorem held_all (n : Nat) (hn : 20 ≤ n) (X : Nat → Prop) (v bv bt first B : Nat) (V : VolR) (Cv Lv : Value) (w : World) (hV : VolAt w v Cv Lv V) (hC : V.C.length ≤ 256)
    (hbv : w.heap[bv]? = some (.cells #[.pointer (some ⟨v, 0, none⟩)] 82 (0, 0))) (hbt : w.heap[bt]? = some (.cells #[.int .i64 (first : Nat)] 3 (0, 0))) (hXt : ¬ X bt) (hXv : ¬ X bv) (hft : ¬ foot v Cv Lv bt) (hfv : ¬ foot v Cv Lv bv)
    (hXB : ∀ k, X k → k < B) (hF : FirstOK V first) :
    SeqAll n 166 #[.pointer (some ⟨bt, 0, none⟩), .pointer (some ⟨bv, 0, none⟩)] (fun u : U256 => #[Value.int .i64 ((u.1 : Nat) : Int)]) (KeepV X (fun k => B ≤ k) v EqV) (fun ys => ys.map (·.1) = heldAll V.C first) 1057 B w := by
  intro l J W hW hBW hJ hY h0
  have hXW : ∀ k, W.heap.size ≤ k → ¬ X k := fun k hk hx => by have := hXB _ hx; omega
  have hf256 : first < 256 := by have := hF.1.1.2; omega
  have B0 : Besides X v [(bv, .cells #[.pointer (some ⟨v, 0, none⟩)] 82 (0, 0)), (bt, .cells #[.int .i64 (first : Nat)] 3 (0, 0))] (EqV V) W := by
    refine ⟨⟨Cv, Lv, V, hV.below hW, rfl, ?_⟩, ?_, ?_, ?_⟩
    · intro x hx
      simp only [List.mem_cons, List.not_mem_nil, or_false] at hx
      rcases hx with rfl | rfl
      · exact hfv
      · exact hft
    · intro x hx
      simp only [List.mem_cons, List.not_mem_nil, or_false] at hx
      rcases hx with rfl | rfl
      · exact (hW.block _ (blk_lt hbv)).trans hbv
      · exact (hW.block _ (blk_lt hbt)).trans hbt
    · intro x hx
      simp only [List.mem_cons, List.not_mem_nil, or_false] at hx
      rcases hx with rfl | rfl <;> rfl
    · intro x hx
      simp only [List.mem_cons, List.not_mem_nil, or_false] at hx
      rcases hx with rfl | rfl
      · exact hXv
      · exact hXt
  have B1 := B0.lay (.cells #[.func (.yield l) #[] #[]] 165) rfl (hXW _ (Nat.le_refl _))
  have hJ1 : J [] (W.alloc (.cells #[.func (.yield l) #[] #[]] 165)) := hJ.alloc _ h0
  have c2 : (W.alloc (.cells #[.func (.yield l) #[] #[]] 165)).cell? ⟨bt, 0, none⟩ = some (.int .i64 (first : Nat)) := (cell_blk B1.b2 0).trans rfl
  obtain ⟨fn, tmps, assign, body, hy, hR⟩ := hY [] ⟨first, hf256⟩ _ hJ1 (by simp)
  refine callsIn_of_wp_marks Tryz.func166 rfl trivial ?_ rfl
  simp only [Tryz.ntmps166, List.size_toArray, List.length_cons, List.length_nil, Nat.reduceAdd, Nat.reduceSub, Array.replicate_succ, Array.replicate_zero, List.push_toArray, List.append_toArray, List.nil_append, List.cons_append]
  have B1 := hide B1
  clear B0 hbt hbv h0
  gi_wp2_with fail
  refine ⟨fun _ => by omega, hR.mono ?_⟩
  rintro e W3 ⟨rfl, hJ3, hK3⟩
  have B3 := (unhide B1).keep (fun _ _ a b => Eq.trans a b) hK3
  obtain ⟨C3, L3, V3, hV3, hS3, hf3⟩ := B3.vol
  obtain rfl : V = V3 := hS3
  have c3 : W3.cell? ⟨bt, 0, none⟩ = some (.int .i64 (first : Nat)) := (cell_blk B3.b2 0).trans rfl
  have d3 : W3.cell? ⟨bv, 0, none⟩ = some (.pointer (some ⟨v, 0, none⟩)) := (cell_blk B3.b1 0).trans rfl
  have hs3 : W.heap.size + 1 ≤ W3.heap.size := by have := hK3.1; simp at this; omega
  have Hn := hide (told_make W3 v first)
  have hn4 := (B3.lay (.cells #[.pointer (some ⟨v, 0, none⟩)] 82) rfl (hXW _ (by omega))).lay (.cells #[.int .i64 (first : Nat)] 3) rfl (hXW _ (by simp; omega))
  simp only [World.size_alloc] at hn4
  have hb4 := hide hn4
  have B4 := hide (hn4.sub (cs := [(W.heap.size, .cells #[.func (.yield l) #[] #[]] 165 (0, 0))]) (by simp))
  have hJ4 := hide ((ownFrom_up hJ (C := W.heap.size) (Nat.le_refl _)).alloc (.cells #[.int .i64 (first : Nat)] 3) (hJ.alloc (.cells #[.pointer (some ⟨v, 0, none⟩)] 82) hJ3))
  have HV3 := hide hV3
  have hft1 := fun hf => hV3.foot_lt W3.heap.size hf
  have hft2 := fun hf => hV3.foot_lt (W3.heap.size + 1) hf
  clear hn4 B3 hV3 hJ3 hJ1 B1 hR hy hf3
  gi_wp2_with fail
  refine ⟨trivial, fun _ => by omega, (callsIn_wide.2 (unhide Hn)).mono ?_⟩
  rintro e W4 ⟨rfl, rfl⟩
  gi_wp2_with fail
  generalize hW4 : (W3.alloc (.cells #[.pointer (some ⟨v, 0, none⟩)] 82)).alloc (.cells #[.int .i64 (first : Nat)] 3) = W4 at *
  have hV4 : VolAt W4 v C3 L3 V := by rw [← hW4]; exact ((unhide HV3).alloc _).alloc _
  have hs4 : W4.heap.size = W3.heap.size + 2 := by rw [← hW4]; simp
  have hTA := (told_any (n - 1) (by omega) X v W3.heap.size (W3.heap.size + 1) first (W4.heap.size + 2) V C3 L3 W4 hV4 (unhide hb4).b1 (unhide hb4).b0 (hXW _ (by omega)) (hXW _ (by omega)) (fun hf => by have := hft2 hf; omega) (fun hf => by have := hft1 hf; omega) (fun k hx => by have := hXB k hx; omega) hF).all
  clear hb4 hW4 HV3 c3 d3 c2 hV4 Hn hft1 hft2
  refine range_all (by omega) (gf := 174) (lb := #[.pointer (some ⟨W3.heap.size, 0, none⟩), .pointer (some ⟨W3.heap.size + 1, 0, none⟩)]) rfl (enters_of Tryz.func174 (by kernel_rfl) rfl) hTA
    (fun A B C h k => KeepV.trans (R := EqV) (fun _ _ _ a b => Eq.trans a b) h k) (fun W o o' hl hc => KeepV.turn (R := EqV) (fun _ => rfl) W _ o o' hl hc (by omega)) (Below.refl _ _) (fun _ => rfl)
    (fun pre W' => J (⟨first, hf256⟩ :: clsS hC pre) W' ∧ Besides X v [(W.heap.size, .cells #[.func (.yield l) #[] #[]] 165 (0, 0))] (EqV V) W')
    (fun _ _ _ _ hs hg hr => ⟨hJ _ _ _ _ hs.1 hg (fun r e => ⟨by have := (hr r e).1; omega, (hr r e).2⟩), hs.2.turned hg (fun r e => (hr r e).2)⟩)
    ⟨unhide hJ4, unhide B4⟩
    (fun x a' W' => ∃ bx, W'.heap[bx]? = some (.cells #[.int .i64 ((x.table : Nat) : Int), .int .i64 ((x.index : Nat) : Int), .int .u16 ((x.number : Nat) : Int)] 219 (0, 0)) ∧ a' = { tmps := #[.func (.yield l) #[] #[], .pointer (some ⟨bt, 0, none⟩), .pointer (some ⟨bv, 0, none⟩), .pointer (some ⟨W.heap.size, 0, none⟩), .pointer (some ⟨bx, 0, none⟩), .func (.yield l) #[] #[], .int .i64 (first : Nat), .bool true, .bool false, .pointer (some ⟨v, 0, none⟩), .int .i64 (first : Nat), .func (.func 174) #[] #[.pointer (some ⟨W3.heap.size, 0, none⟩), .pointer (some ⟨W3.heap.size + 1, 0, none⟩)], spotVal x, undef, undef, undef, undef, undef, undef], defers := [] })
    (fun x a' _ A' B' row hs hg hr => by
      obtain ⟨bx, h2, h3⟩ := hs
      refine ⟨bx, ?_, h3⟩
      rw [hg.block bx (blk_lt h2) (fun e => by
        obtain ⟨_, o, ho, hc⟩ := hr bx e.symm
        rw [h2] at ho
        injection ho with ho
        subst ho
        cases hc)]
      exact h2)
    ?assign ?body ?done
  case assign =>
    rintro l2 pre x W' K ⟨hJx, hBx⟩ hK
    unfold spotVal
    gi_wp2
    exact hK _ _ ((KeepsOthers.alloc _ _).from _) (KeepV.below (R := EqV) (fun _ => rfl) ((Below.refl _ _).alloc (Nat.le_refl _) _)) ⟨hJ.alloc _ hJx, hBx.below ((Below.refl _ _).alloc (Nat.le_refl _) _)⟩ ⟨_, heap_alloc_new _ _, rfl⟩
  case body =>
    rintro l2 pre x a' W' hl2 ⟨r, hr⟩ ⟨hJx, hBx⟩ ⟨bx, hbx, rfl⟩ hlen
    have c1 : W'.cell? ⟨W.heap.size, 0, none⟩ = some (.func (.yield l) #[] #[]) := (cell_blk hBx.b0 0).trans rfl
    have c2 : W'.cell? ⟨bx, 2, none⟩ = some (.int .u16 ((x.number : Nat) : Int)) := (cell_blk hbx 2).trans rfl
    have Hc : Hid (∀ W, _) := fun W => cluster_of x.number x.hn W
    have hJd : J (⟨first, hf256⟩ :: clsS hC pre) W'.drew := hJ _ W' W'.drew none hJx ⟨rfl, rfl, rfl, Nat.le_refl _, fun _ _ _ => rfl⟩ (fun r e => by cases e)
    have hx256 : x.number % 32768 < 256 := by have := x.hc.2; omega
    have hap : (⟨first, hf256⟩ :: clsS hC pre) ++ [⟨x.number % 32768, hx256⟩] = ⟨first, hf256⟩ :: clsS hC (pre ++ [x]) := by rw [clsS_snoc]; rfl
    have hY' := hY _ ⟨x.number % 32768, hx256⟩ W'.drew hJd (by simp [clsS_len]; omega)
    rw [hap] at hY'
    obtain ⟨fn2, tmps2, assign2, body2, hy2, hR2⟩ := yield_deep (m' := n - 1 - 1 - 1) hY'
    have Hx := x.hn
    have hB2 := hide (hBx.below (B := W'.drew) ⟨rfl, rfl, rfl, Nat.le_refl _, fun _ _ => rfl⟩)
    dsimp only at hy2
    clear hJd hY' hJx hBx hap hbx
    generalize x.number % 32768 = cc at *
    generalize x.number = nn at *
    generalize spotVal x = sv at *
    gi_wp2
    gi_region_with (first
      | (refine ⟨trivial, fun _ => by omega, (CallsIn.inRound l2 (callsIn_wide.2 (unhide Hc _))).mono ?_⟩
         rintro e w3 ⟨rfl, rfl⟩)
      | (refine ⟨fun _ => by omega, RoundIn.mono hR2 ?_⟩
         rintro e w3 ⟨rfl, hJ5, hK5⟩))
    all_goals
      have B5 := (unhide hB2).keep (fun _ _ a b => Eq.trans a b) hK5
      have hKF : KeepsFrom W4.heap.size W' w3 := ⟨hK5.1, fun k o hB hk ho => hK5.2.1 k o hk ho (by omega)⟩
      have hK6 : KeepV X (fun k => W4.heap.size + 2 ≤ k) v EqV W' w3 := KeepV.trans (R := EqV) (fun _ _ _ a b => Eq.trans a b) (KeepV.below (R := EqV) (fun _ => rfl) (B := W'.drew) ⟨rfl, rfl, rfl, Nat.le_refl _, fun _ _ => rfl⟩) (hK5.weak (Y' := fun k => W4.heap.size + 2 ≤ k) (fun k h => by omega))
      simp only [hs4] at hKF hK6
      gi_wp2
      first
        | exact ⟨hKF, hK6, hJ5, B5⟩
        | exact ⟨hJ5, B5⟩
  case done =>
    rintro D ys W' hD hS ⟨hJx, _⟩ hK
    gi_wp2
    refine ⟨by simp, .inl ⟨_, _, rfl, run_takeDeferred hK, ?_⟩⟩
    refine ⟨_, results_none rfl _ _ _, ⟨_, rfl⟩, _, ?_, hJ.putObj _ hJx (by omega) hK rfl⟩
    rw [List.map_cons, clsS_val, hS, told_nums]
    rfl
end Go.Proofs.YtknjjjenklfeoaaGreatDoor

/-
  The program's shared: the counts with one use more of all that a first table tells.
-/
namespace Go.Proofs.YtknjjjenklfeoaaGreatDoor
open Go.RowKit Go.Shelf
attribute [local go_sem ↓] loadVar_clus storeVar_clus zeroValue_clus loadVar_tab storeVar_tab zeroValue_tab loadVar_cnt storeVar_cnt zeroValue_cnt loadVar_head storeVar_head zeroValue_head build_head buildSlice_clus loadVar_wr storeVar_wr zeroValue_wr build_wr buildSlice_wr equalIn_clus loadVar_place storeVar_place zeroValue_place build_place
attribute [local go_sem] run_loadClus run_storeClus run_zeroClus run_storeClus_new run_loadClus_new zc_length run_loadTab run_storeTab run_zeroTab run_storeTab_new run_loadTab_new zt_length run_loadCnt run_storeCnt run_zeroCnt run_storeCnt_new run_loadCnt_new zk_length run_loadHead run_storeHead run_zeroHead run_storeHead_new run_bHead HasAt_drew cellsAt_drew HasAt_drewN cellsAt_drewN run_bsClus run_loadWr run_zeroWr run_storeWr run_storeWr_new run_bWr0 run_bsWr run_loadPlace run_storePlace run_zeroPlace run_storePlace_new run_bPlace
attribute [local go_sem] field_head1 field_head0 Oper.semAt_some

def bCnt (parts : Array (Nat × Value)) : Sem Value := Instr.build 123 parts
theorem build_cnt (parts : Array (Nat × Value)) : Instr.build 123 parts = bCnt parts := rfl
theorem run_bCnt0 (w : World) : (bCnt #[]).run Tryz.prog w = .ok (.agg (cv zk).toArray) w := by
  unfold bCnt Instr.build
  simp only [zeroValue_cnt]
  simp [run_zeroCnt]
  rfl
attribute [local go_sem ↓] build_cnt
attribute [local go_sem] run_bCnt0
theorem results_cells {fn : Func} {p q : Tmp} {ty tz : TypeId} (h : fn.results = #[.cell p ty, .cell q tz]) {tmps : Array Value} {P : Program} {w : World} (a b : Addr) {v u : Value} (ht : tmps.getD p undef = .pointer (some a)) (hq : tmps.getD q undef = .pointer (some b)) (hl : (loadVar ty a).run P w = .ok v w) (hm : (loadVar tz b).run P w = .ok u w) :
    (results fn tmps).run P w = .ok (.tuple #[v, u]) w := by
  simp only [results, h]
  simp [-Array.getD_eq_getD_getElem?, asAddr, ht, hq, hl, hm]

def sharedR (C : List Clus) (f : Nat) : List UInt8 × Bool := if fitsB (cntsOf C) (toldAll C f) then (plus (cntsOf C) (toldAll C f), true) else (zk, false)

theorem Locs.shut {w W : World} {os : List Obj} {D : Nat} (h : Locs w W os) (hD : w.heap.size + os.length ≤ D) : Locs w (W.putObj D (.deferred none)) os := by
  have hg := grownBy_putObj' W D (.deferred none)
  have hk : Kept (fun k => k = D) W (W.putObj D (.deferred none)) := ⟨hg.os, hg.tape, hg.output, hg.size, fun k hk hs => hg.block k hk (fun e => hs (by injection e))⟩
  refine ⟨fun i o ho => hk.blk ?_ (h.objs i o ho), h.below.grown hg h.below.size (fun k e => by cases e; omega)⟩
  have := (List.getElem?_eq_some_iff.1 ho).1
  omega
theorem load_bool {w : World} {b : Nat} {x : Bool} {t : TypeId} {fr : Nat × Nat} (h : w.heap[b]? = some (.cells #[.bool x] t fr)) : (loadVar 4 ⟨b, 0, none⟩).run Tryz.prog w = .ok (.bool x) w := by
  have c : w.cell? ⟨b, 0, none⟩ = some (.bool x) := (cell_blk h 0).trans rfl
  simp [go_sem, c]

set_option maxHeartbeats 4000000 in
set_option maxRecDepth 100000 in
theorem shared_any (w : World) (v : Nat) (Cv Lv : Value) (V : VolR) (h : VolAt w v Cv Lv V) (h5 : 5 < V.C.length) (hC : V.C.length ≤ 256) (first : Nat) (hF : FirstOK V first) :
    CallsIn Fence.wide 100 Tryz.prog 144 #[.pointer (some ⟨v, 0, none⟩), .int .i64 (first : Nat)] w fun e w' => e = .returned (.tuple #[.agg (cv (sharedR V.C first).1).toArray, .bool (sharedR V.C first).2]) ∧ Below w.heap.size w w' := by
  have L0 := Locs.two w (.cells (cv zk).toArray 123) (.cells #[.bool false] 4)
  have Hc := hide (counts_vol _ v Cv Lv V (h.below L0.below) (by omega))
  have hcl := cntsOf_length V.C h.lenC (by omega)
  have HR : Hid (sharedR V.C first = if fitsB (cntsOf V.C) (toldAll V.C first) then (plus (cntsOf V.C) (toldAll V.C first), true) else (zk, false)) := rfl
  have H := hide h
  have L0 := hide L0
  have hvl : v < w.heap.size := h.lt
  have hfl : ∀ j, foot v Cv Lv j → j < w.heap.size := h.foot_lt
  clear h
  generalize cntsOf V.C = k at *
  refine callsIn_of_wp_marks Tryz.func144 rfl trivial ?_ rfl
  simp only [Tryz.ntmps144, List.size_toArray, List.length_cons, List.length_nil, Nat.reduceAdd, Nat.reduceSub, Array.replicate_succ, Array.replicate_zero, List.push_toArray, List.append_toArray, List.nil_append, List.cons_append]
  gi_wp2_with fail
  refine ⟨trivial, (callsIn_wide.2 (unhide Hc)).mono ?_⟩
  rintro e w1 ⟨rfl, hb1⟩
  have L1 := (unhide L0).later hb1
  have hw1 : w.heap.size + 1 < w1.heap.size := blk_lt L1.o1
  have L2 := hide (L1.alloc (.cells (cv k).toArray 123))
  have k2 : (w1.alloc (.cells (cv k).toArray 123)).heap[w1.heap.size]? = some (.cells (cv k).toArray 123 (0, 0)) := heap_alloc_new _ _
  have Ht := hide (told_make (w1.alloc (.cells (cv k).toArray 123)) v first)
  simp only [World.size_alloc] at Ht
  clear Hc hb1 L1 L0
  gi_wp2_with fail
  refine ⟨trivial, (callsIn_wide.2 (unhide Ht)).mono ?_⟩
  rintro e w3 ⟨rfl, hw3⟩
  have L3 := ((unhide L2).alloc (.cells #[.pointer (some ⟨v, 0, none⟩)] 82)).alloc (.cells #[.int .i64 (first : Nat)] 3)
  rw [← hw3] at L3
  have hs3 : w3.heap.size = w1.heap.size + 3 := by rw [hw3]; simp
  have k3 : w3.heap[w1.heap.size]? = some (.cells (cv k).toArray 123 (0, 0)) := by
    rw [hw3, heap_alloc_old _ _ (by simp; omega), heap_alloc_old _ _ (by simp)]; exact k2
  have v3 : w3.heap[w1.heap.size + 1]? = some (.cells #[.pointer (some ⟨v, 0, none⟩)] 82 (0, 0)) := by
    rw [hw3, heap_alloc_old _ _ (by simp)]
    have := heap_alloc_new (w1.alloc (.cells (cv k).toArray 123)) (.cells #[.pointer (some ⟨v, 0, none⟩)] 82)
    rwa [World.size_alloc] at this
  have f3 : w3.heap[w1.heap.size + 1 + 1]? = some (.cells #[.int .i64 (first : Nat)] 3 (0, 0)) := by
    rw [hw3]
    have := heap_alloc_new ((w1.alloc (.cells (cv k).toArray 123)).alloc (.cells #[.pointer (some ⟨v, 0, none⟩)] 82)) (.cells #[.int .i64 (first : Nat)] 3)
    rwa [World.size_alloc, World.size_alloc] at this
  have hTA := told_any 99 (by omega) (fun j => j = w1.heap.size ∨ j = w.heap.size ∨ j = w.heap.size + 1) v (w1.heap.size + 1) (w1.heap.size + 1 + 1) first (w3.heap.size + 2) V Cv Lv w3 ((unhide H).below L3.below) v3 f3 (by omega) (by omega) (fun hf => by have := hfl _ hf; omega) (fun hf => by have := hfl _ hf; omega) (by rintro j (rfl | rfl | rfl) <;> omega) hF
  have L3 := hide L3
  clear L2 k2 v3 f3 Ht hw3
  gi_wp2_with fail
  refine range_any (by omega) (gf := 174) (lb := #[.pointer (some ⟨w1.heap.size + 1, 0, none⟩), .pointer (some ⟨w1.heap.size + 1 + 1, 0, none⟩)]) rfl (enters_of Tryz.func174 (by kernel_rfl) rfl) hTA
    (fun A B C h k => KeepV.trans (R := EqV) (fun _ _ _ a b => Eq.trans a b) h k) (fun W o o' hl hc => KeepV.turn (R := EqV) (fun _ => rfl) W _ o o' hl hc (by omega)) (Below.refl _ _) (fun _ => rfl)
    (fun pre W => Locs w W [.cells (cv zk).toArray 123, .cells #[.bool false] 4] ∧ W.heap[w1.heap.size]? = some (.cells (cv (plus k (numsS pre))).toArray 123 (0, 0)) ∧ fitsB k (numsS pre) = true)
    (fun pre W => Locs w W [.cells (cv zk).toArray 123, .cells #[.bool false] 4] ∧ fitsB k (numsS pre) = false)
    ?ownI ?ownX
    ⟨unhide L3, k3, rfl⟩
    (fun x a' W' => ∃ bx, w1.heap.size < bx ∧ W'.heap[bx]? = some (.cells #[.int .i64 ((x.table : Nat) : Int), .int .i64 ((x.index : Nat) : Int), .int .u16 ((x.number : Nat) : Int)] 219 (0, 0)) ∧ a' = { tmps := #[.pointer (some ⟨v, 0, none⟩), .int .i64 (first : Nat), undef, undef, .pointer (some ⟨w.heap.size, 0, none⟩), .pointer (some ⟨w.heap.size + 1, 0, none⟩), .pointer (some ⟨w1.heap.size, 0, none⟩), .pointer (some ⟨bx, 0, none⟩), undef, .pointer (some ⟨v, 0, none⟩), .agg (cv k).toArray, .pointer (some ⟨v, 0, none⟩), .int .i64 (first : Nat), .func (.func 174) #[] #[.pointer (some ⟨w1.heap.size + 1, 0, none⟩), .pointer (some ⟨w1.heap.size + 1 + 1, 0, none⟩)], spotVal x, undef, undef, undef, undef, undef, undef, undef, undef, undef, undef, undef, undef, undef, undef], defers := [] })
    ?ownA ?assign ?body ?done ?stop
  case ownI =>
    intro pre A B row hs hg hr
    refine ⟨⟨fun i o ho => blk_turn hg hr (hs.1.objs i o ho) ?_, hs.1.below.grown hg hs.1.below.size (fun k e => by have := (hr k e).1; omega)⟩, blk_turn hg hr hs.2.1 (by omega), hs.2.2⟩
    have := (List.getElem?_eq_some_iff.1 ho).1
    simp only [List.length_cons, List.length_nil] at this
    omega
  case ownX =>
    intro pre A B row hs hg hr
    refine ⟨⟨fun i o ho => blk_turn hg hr (hs.1.objs i o ho) ?_, hs.1.below.grown hg hs.1.below.size (fun k e => by have := (hr k e).1; omega)⟩, hs.2⟩
    have := (List.getElem?_eq_some_iff.1 ho).1
    simp only [List.length_cons, List.length_nil] at this
    omega
  case ownA =>
    intro x a' _ A' B' row hs hg hr
    obtain ⟨bx, h1, h2, h3⟩ := hs
    refine ⟨bx, h1, ?_, h3⟩
    rw [hg.block bx (blk_lt h2) (fun e => by
      obtain ⟨_, o, ho, hc⟩ := hr bx e.symm
      rw [h2] at ho
      injection ho with ho
      subst ho
      cases hc)]
    exact h2
  case assign =>
    rintro l pre x W K ⟨hL, hk, hf⟩ hK
    unfold spotVal
    gi_wp2
    have hb : Below W.heap.size W (W.alloc (.cells #[.int .i64 ((x.table : Nat) : Int), .int .i64 ((x.index : Nat) : Int), .int .u16 ((x.number : Nat) : Int)] 219)) := (Below.refl _ _).alloc (Nat.le_refl _) _
    exact hK _ _ ((KeepsOthers.alloc _ _).from _) (KeepV.below (R := EqV) (fun _ => rfl) hb) ⟨hL.alloc _, (hb.block _ (blk_lt hk)).trans hk, hf⟩ ⟨_, blk_lt hk, heap_alloc_new _ _, rfl⟩
  case body =>
    rintro l pre x a' W hl _ ⟨hL, hk, hf⟩ ⟨bx, hbx0, hbx, rfl⟩ hlen
    have hV := (unhide H).below hL.below
    have hxl : x.number % 32768 < 256 := by have := x.hc.2; omega
    have hkl : (plus k (numsS pre)).length = 256 := by rw [plus_length]; exact hcl
    have hsn : plus k (numsS (pre ++ [x])) = plus1 (plus k (numsS pre)) (x.number % 32768) := by rw [numsS_snoc, plus_snoc]
    have hfn : fitsB k (numsS (pre ++ [x])) = decide (byteAt (plus k (numsS pre)) (x.number % 32768) < 254) := by rw [numsS_snoc, fitsB_snoc, hf, Bool.true_and]
    have c2 : W.cell? ⟨bx, 2, none⟩ = some (.int .u16 ((x.number : Nat) : Int)) := (cell_blk hbx 2).trans rfl
    have Hc : Hid (∀ W, _) := fun W => cluster_of x.number x.hn W
    generalize plus k (numsS pre) = kk at *
    generalize x.number % 32768 = n at *
    have hni : (n : Int) < 256 := by omega
    have c1 : W.cell? ⟨w1.heap.size, n, none⟩ = some (.int .u8 (byteAt kk n : Nat)) := by
      rw [cell_blk hk, List.getElem?_toArray, cv_get _ _ (by omega)]
    have f1 := frozen_blk hk
    have hbl := byteAt_lt kk n
    have nf : ∀ j, w.heap.size ≤ j → ¬ foot v Cv Lv j := fun j hj hf => by have := hfl j hf; omega
    by_cases hfit : byteAt kk n < 254
    · rw [decide_eq_true hfit] at hfn
      have hwr : IntKind.u8.wrap (((byteAt kk n : Nat) : Int) + 1) = (((byteAt kk n + 1) % 256 : Nat) : Int) := by
        rw [IntKind.wrap_u8]; omega
      have K3 : KeepV (fun j => j = w1.heap.size ∨ j = w.heap.size ∨ j = w.heap.size + 1) (fun k => w3.heap.size + 2 ≤ k) v EqV W (W.setCell ⟨w1.heap.size, n, none⟩ (.int .u8 (((byteAt kk n + 1) % 256 : Nat) : Int))) :=
        KeepV.own hV (Kept.only _ _ _ _) (by rintro j rfl; exact ⟨Or.inl rfl, nf _ (by omega), _, hk, rfl⟩) rfl
      have hset : (cv kk).toArray.setIfInBounds n (.int .u8 (((byteAt kk n + 1) % 256 : Nat) : Int)) = (cv (plus1 kk n)).toArray := by
        rw [List.setIfInBounds_toArray, plus1, cv_setB kk n _ (Nat.mod_lt _ (by omega))]
      have hk3 := heap_setCell_same W w1.heap.size n (.int .u8 (((byteAt kk n + 1) % 256 : Nat) : Int)) _ _ _ hk
      rw [hset, ← hsn] at hk3
      have L3 : Locs w (W.setCell ⟨w1.heap.size, n, none⟩ (.int .u8 (((byteAt kk n + 1) % 256 : Nat) : Int))) [.cells (cv zk).toArray 123, .cells #[.bool false] 4] := by
        have hkp := Kept.only W w1.heap.size n (.int .u8 (((byteAt kk n + 1) % 256 : Nat) : Int))
        refine ⟨fun i o ho => hkp.blk ?_ (hL.objs i o ho), hL.below.setCell (by show w.heap.size ≤ w1.heap.size; omega) _⟩
        have := (List.getElem?_eq_some_iff.1 ho).1
        simp only [List.length_cons, List.length_nil] at this
        omega
      have L3 := hide L3
      have K3 := hide K3
      have dg : ¬ ((254 : Int) ≤ ((byteAt kk n : Nat) : Int)) := by omega
      clear hset hsn hL hV
      generalize byteAt kk n = bb at *
      generalize (bb + 1) % 256 = b2 at *
      gi_wp2_with fail
      refine ⟨trivial, (CallsIn.inRound l (callsIn_wide.2 (unhide Hc _))).mono ?_⟩
      rintro e W2 ⟨rfl, rfl⟩
      gi_wp2
      exact ⟨(KeepsOthers.setCell _ _ _).from _, unhide K3, unhide L3, hk3, hfn⟩
    · rw [decide_eq_false hfit] at hfn
      have hge : (254 : Int) ≤ ((byteAt kk n : Nat) : Int) := by omega
      have th := there_blk hL.o0 0 256 (by simp [cv_length, zk_length])
      have L2 := hL.setCells 0 rfl 0 (cv zk)
      rw [Nat.add_zero, setList_all _ _ (by simp [cv_length, zk_length])] at L2
      simp only [List.set_cons_zero] at L2
      have KA : KeepV (fun j => j = w1.heap.size ∨ j = w.heap.size ∨ j = w.heap.size + 1) (fun k => w3.heap.size + 2 ≤ k) v EqV W (W.setCells w.heap.size 0 (cv zk)) :=
        KeepV.own hV (Kept.onlys _ _ _ _) (by rintro j rfl; exact ⟨Or.inr (Or.inl rfl), nf _ (Nat.le_refl _), _, hL.o0, rfl⟩) rfl
      have FA : KeepsFrom w3.heap.size W (W.setCells w.heap.size 0 (cv zk)) := ⟨(Kept.onlys W w.heap.size 0 (cv zk)).size, fun j o hB hj _ => (Kept.onlys W w.heap.size 0 (cv zk)).blk (by omega) hj⟩
      generalize hWA : W.setCells w.heap.size 0 (cv zk) = WA at *
      have r1 : WA.cell? ⟨w.heap.size + 1, 0, none⟩ = some (.bool false) := (cell_blk L2.o1 0).trans rfl
      have f2 := frozen_blk L2.o1
      have L3 := L2.setCell 1 rfl 0 (.bool false)
      have KB : KeepV (fun j => j = w1.heap.size ∨ j = w.heap.size ∨ j = w.heap.size + 1) (fun k => w3.heap.size + 2 ≤ k) v EqV WA (WA.setCell ⟨w.heap.size + 1, 0, none⟩ (.bool false)) :=
        KeepV.own ((unhide H).below L2.below) (Kept.only _ _ _ _) (by rintro j rfl; exact ⟨Or.inr (Or.inr rfl), nf _ (by omega), _, L2.o1, rfl⟩) rfl
      have FB : KeepsFrom w3.heap.size WA (WA.setCell ⟨w.heap.size + 1, 0, none⟩ (.bool false)) := (KeepsOthers.setCell _ _ _).from _
      have K3 := hide (KeepV.trans (R := EqV) (fun _ _ _ a b => Eq.trans a b) KA KB)
      have F3 := hide (FA.trans FB)
      have L3 : Locs w (WA.setCell ⟨w.heap.size + 1, 0, none⟩ (.bool false)) [.cells (cv zk).toArray 123, .cells #[.bool false] 4] := L3
      have L3 := hide L3
      clear KA KB FA FB L2 hL hV hsn
      generalize byteAt kk n = bb at *
      gi_wp2_with fail
      refine ⟨trivial, (CallsIn.inRound l (callsIn_wide.2 (unhide Hc _))).mono ?_⟩
      rintro e W2 ⟨rfl, rfl⟩
      gi_wp2
      exact ⟨unhide F3, unhide K3, unhide L3, hfn⟩
  case done =>
    rintro D xs W hD hS ⟨hL, hk, hf⟩ hK
    have hS' : numsS xs = toldAll V.C first := by rw [hS, told_nums]
    rw [hS'] at hk hf
    have hR : sharedR V.C first = (plus k (toldAll V.C first), true) := by rw [unhide HR, if_pos hf]
    have hR := hide hR
    have hkl : (plus k (toldAll V.C first)).length = 256 := by rw [plus_length]; exact hcl
    generalize plus k (toldAll V.C first) = kk at *
    have l1 := blk_has hk (n := 256) (by rw [cv_length, hkl])
    have l2 := blk_cells hk (n := 256) (by rw [cv_length, hkl])
    have th := there_blk hL.o0 0 256 (by simp [cv_length, zk_length])
    have L2 := hL.setCells 0 rfl 0 (cv kk)
    rw [Nat.add_zero, setList_all _ _ (by simp [cv_length, zk_length, hkl])] at L2
    simp only [List.set_cons_zero] at L2
    have hK2 : (W.setCells w.heap.size 0 (cv kk)).heap[D]? = some (.deferred (some [])) := (Kept.onlys W w.heap.size 0 (cv kk)).blk (by omega) hK
    generalize hWA : W.setCells w.heap.size 0 (cv kk) = WA at *
    have r1 : WA.cell? ⟨w.heap.size + 1, 0, none⟩ = some (.bool false) := (cell_blk L2.o1 0).trans rfl
    have f2 := frozen_blk L2.o1
    have L3 : Locs w (WA.setCell ⟨w.heap.size + 1, 0, none⟩ (.bool true)) [.cells (cv kk).toArray 123, .cells #[.bool true] 4] := L2.setCell 1 rfl 0 (.bool true)
    have hK3 : (WA.setCell ⟨w.heap.size + 1, 0, none⟩ (.bool true)).heap[D]? = some (.deferred (some [])) := (Kept.only WA (w.heap.size + 1) 0 (.bool true)).blk (by omega) hK2
    have L3 := hide L3
    clear L2 hL hk hK hK2 hTA hS
    gi_wp2
    refine ⟨by simp, .inl ⟨_, _, rfl, run_takeDeferred hK3, ?_⟩⟩
    have L5 := (unhide L3).shut (D := D) (by simp; omega)
    have n3 := blk_has L5.o0 (n := 256) (by rw [cv_length, hkl])
    have n4 := blk_cells L5.o0 (n := 256) (by rw [cv_length, hkl])
    refine ⟨_, results_cells rfl ⟨w.heap.size, 0, none⟩ ⟨w.heap.size + 1, 0, none⟩ rfl rfl (v := .agg (cv kk).toArray) (u := .bool true) (by rw [loadVar_cnt, run_loadCnt n3, n4]) (load_bool L5.o1), ?_, L5.below⟩
    rw [unhide hR]
  case stop =>
    rintro D pre W hD hSp ⟨hL, hf⟩ hK
    have hff : fitsB k (toldAll V.C first) = false := by
      rw [← told_nums V first hF]
      refine fitsB_pre (pre := numsS pre) ?_ hf
      obtain ⟨r, hr⟩ := hSp
      exact ⟨numsS r, by rw [← hr]; simp [numsS]⟩
    have hR : sharedR V.C first = (zk, false) := by rw [unhide HR, hff]; rfl
    have hR := hide hR
    clear hTA
    gi_wp2
    refine ⟨by simp, .inl ⟨_, _, rfl, run_takeDeferred hK, ?_⟩⟩
    have L5 := hL.shut (D := D) (by simp; omega)
    have n3 := blk_has L5.o0 (n := 256) (by rw [cv_length, zk_length])
    have n4 := blk_cells L5.o0 (n := 256) (by rw [cv_length, zk_length])
    refine ⟨_, results_cells rfl ⟨w.heap.size, 0, none⟩ ⟨w.heap.size + 1, 0, none⟩ rfl rfl (v := .agg (cv zk).toArray) (u := .bool false) (by rw [loadVar_cnt, run_loadCnt n3, n4]) (load_bool L5.o1), ?_, L5.below⟩
    rw [unhide hR]
end Go.Proofs.YtknjjjenklfeoaaGreatDoor

/-
  Plain: how much the log grows by in a sound file.
-/
namespace Go.Proofs.YtknjjjenklfeoaaGreatDoor
open Go.RowKit
theorem toldBy_few (c : Clus) (h : ∀ i, 1 < i → i < 32 → num c (2 * i) = 0) : (toldBy (numsOf c)).length ≤ 2 := by
  have e : numsOf c = [num c 0, num c 2] ++ (List.range 30).map (fun i => num c (2 * (i + 2))) := by
    apply List.ext_getElem?
    intro i
    unfold numsOf
    rw [List.getElem?_map]
    by_cases hi : i < 32
    · rw [List.getElem?_range hi]
      match i, hi with
      | 0, _ => rfl
      | 1, _ => rfl
      | k + 2, hk => rw [List.getElem?_append_right (by simp), List.getElem?_map, List.getElem?_range (by simp; omega)]; simp
    · rw [List.getElem?_eq_none (by simpa using hi), List.getElem?_eq_none (by simp; omega)]; rfl
  unfold toldBy
  rw [List.length_map, e, List.filter_append, List.length_append]
  have e2 : ((List.range 30).map (fun i => num c (2 * (i + 2)))).filter (· != 0) = [] := by
    rw [List.filter_eq_nil_iff]
    intro a ha
    obtain ⟨i, hi, rfl⟩ := List.mem_map.1 ha
    have := List.mem_range.1 hi
    rw [h (i + 2) (by omega) (by omega)]
    decide
  rw [e2]
  have := List.length_filter_le (· != 0) [num c 0, num c 2]
  simp only [List.length_cons, List.length_nil] at this ⊢
  omega
section
variable {base : List Clus} {V : VolR} {T N0 : Nat} {E : List EntR} {D : DiskR}
theorem Ok.lone_len (h : Ok V.C T N0 E D) (hT : V.C.length = T) : (loneList (cntsOf V.C) V.C (firstsOf V)).length ≤ 15 := by
  have hs := h.sound
  rw [h.padV hT] at hs
  have h5 := firstsOf_len V
  have key : ∀ fs : List Nat, (∀ f ∈ fs, f ∈ (rsOf N0 E).map (·.N)) → (loneList (cntsOf V.C) V.C fs).length ≤ 3 * fs.length := by
    intro fs
    induction fs with
    | nil => intro _; exact Nat.le_refl _
    | cons f r ih =>
      intro hf
      have hi := ih (fun x hx => hf x (by simp [hx]))
      obtain ⟨r0, hr0, e0⟩ := List.mem_map.1 (hf f (by simp))
      have h2 := toldBy_few (cl V.C f) (fun i h1 h2 => by rw [← e0]; exact hs.zero r0 hr0 i h1 h2)
      unfold loneList at hi ⊢
      rw [List.flatMap_cons, List.length_append, List.length_map, List.length_cons, List.length_cons]
      omega
  have := key (firstsOf V) (fun f hf => by rw [h.firsts] at hf; exact hf)
  omega
theorem Ok.letGo_lenL {us : List Nat} (h : Ok V.C T N0 E D) (hT : V.C.length = T) (hl : Lets V N0 E us) : (letGoV V us).L.length ≤ V.L.length + 40 := by
  obtain ⟨a1, a2, _, _⟩ := h.letGo1 hT hl
  have h1 := letGoV1_lenL V us
  have h2 := a1.lone_len a2
  have h3 := puts_lenL (loneList (cntsOf (letGoV1 V us).C) (letGoV1 V us).C (firstsOf (letGoV1 V us))) (letGoV1 V us)
  have h4 := flushV_lenL (markLoneV (letGoV1 V us))
  have h5 : (markLoneV (letGoV1 V us)).L.length ≤ (letGoV1 V us).L.length + 30 := by rw [a1.markLone a2]; omega
  unfold letGoV
  omega
theorem Vol.write_lenL {data : Clus} (h : Vol base V N0 E) (n : Int) (hd : data.length = 64) : (writeV V n data).1.L.length ≤ V.L.length + 60 := by
  have h7 := h.file.seven
  unfold writeV writeR
  by_cases hb : blockB n = true
  · have hlt := blockB_lt hb
    rw [if_neg (by rw [hb]; decide), h.place n]
    obtain ⟨p1, p2, p3, p4, p5⟩ := placed (V := V) (N0 := N0) n.toNat
    rw [p1, p2]
    by_cases h2 : nm V.C N0 (n.toNat / 32) < 32768
    · rw [if_pos h2]
      by_cases hf : 2 ≤ (lowFree (cntsOf V.C) 2).length
      · rw [if_pos hf]
        obtain ⟨s, n', hF, hsn, hn, h0, h1⟩ := lowFree_two hf
        rw [byteAt_cnts h.file.lens (by omega) _ (by omega)] at h0 h1
        obtain ⟨e, c1, c2, _⟩ := h.tab3 hlt hF hsn hn h0 h1 hd
        have hl := c1.letGo_lenL c2 (h.writeTable hlt hF hsn hn h0 h1 hd).1
        have hw := wntV_lenL' V (findR V.C N0 n.toNat) data
        generalize letGoV (wntV V (findR V.C N0 n.toNat) data) (toldBy [nm V.C N0 (n.toNat / 32), numAt V.C N0 n.toNat]) = W at *
        dsimp only
        omega
      · rw [if_neg hf]; dsimp only; omega
    · rw [if_neg h2]
      by_cases h3 : numAt V.C N0 n.toNat < 32768
      · rw [if_pos h3]
        by_cases hf : 0 < (lowFree (cntsOf V.C) 1).length
        · rw [if_pos hf]
          obtain ⟨n', hF, hn, h0⟩ := lowFree_one hf
          rw [byteAt_cnts h.file.lens (by omega) _ (by omega)] at h0
          obtain ⟨e, c1, c2, _⟩ := h.blk3 hlt hF hn h0 hd (by omega)
          have hl := c1.letGo_lenL c2 (h.writeBlock hlt hF hn h0 hd (by omega)).1
          have hw := wnbV_lenL' V (findR V.C N0 n.toNat) data
          generalize letGoV (wnbV V (findR V.C N0 n.toNat) data) (toldBy [numAt V.C N0 n.toNat]) = W at *
          dsimp only
          omega
        · rw [if_neg hf]; dsimp only; omega
      · rw [if_neg h3]
        have h4 := putV_lenL V (numAt V.C N0 n.toNat % 32768) data
        have h5 := flushV_lenL (putV V (numAt V.C N0 n.toNat % 32768) data)
        dsimp only
        omega
  · have hb' : blockB n = false := by simpa using hb
    rw [if_pos hb']; dsimp only; omega
end
end Go.Proofs.YtknjjjenklfeoaaGreatDoor

/-
  Plain: what a first table tells, as a list; counts that go up; the marks of a first table's tables taken off.
-/
namespace Go.Proofs.YtknjjjenklfeoaaGreatDoor
theorem numsOf_two (c : Clus) : numsOf c = [num c 0, num c 2] ++ (List.range 30).map (fun i => num c (2 * (i + 2))) := by
  apply List.ext_getElem?
  intro i
  unfold numsOf
  rw [List.getElem?_map]
  by_cases hi : i < 32
  · rw [List.getElem?_range hi]
    match i, hi with
    | 0, _ => rfl
    | 1, _ => rfl
    | k + 2, hk => rw [List.getElem?_append_right (by simp), List.getElem?_map, List.getElem?_range (by simp; omega)]; simp
  · rw [List.getElem?_eq_none (by simpa using hi), List.getElem?_eq_none (by simp; omega)]; rfl
theorem toldBy_two (c : Clus) (h : ∀ i, 1 < i → i < 32 → num c (2 * i) = 0) : toldBy (numsOf c) = toldBy [num c 0, num c 2] := by
  unfold toldBy
  rw [numsOf_two, List.filter_append]
  have e2 : ((List.range 30).map (fun i => num c (2 * (i + 2)))).filter (· != 0) = [] := by
    rw [List.filter_eq_nil_iff]
    intro a ha
    obtain ⟨i, hi, rfl⟩ := List.mem_map.1 ha
    have := List.mem_range.1 hi
    rw [h (i + 2) (by omega) (by omega)]
    decide
  rw [e2, List.append_nil]
theorem sum_sumFrom (f : Nat → Nat) : ∀ m k, ((List.range m).map fun i => f (k + i)).sum = sumFrom f m k
  | 0, _ => rfl
  | m + 1, k => by
    rw [sumFrom, List.range_succ_eq_map, List.map_cons, List.sum_cons, List.map_map, ← sum_sumFrom f m (k + 1)]
    congr 2
    apply List.map_congr_left
    intro i _
    simp only [Function.comp]
    congr 1
    omega
theorem count_nums (C : List Clus) (s m : Nat) : (toldBy (numsOf (cl C s))).count m = inOcc C s m := by
  rw [count_toldBy]
  unfold numsOf inOcc nm
  rw [List.map_map]
  have := sum_sumFrom (fun k => hit (num (cl C s) (2 * k)) m) 32 0
  rw [← this]
  congr 1
theorem count_told {C : List Clus} {f : Nat} (hz : ∀ i, 1 < i → i < 32 → nm C f i = 0) (m : Nat) : (toldAll C f).count m = secOcc C f 0 m + secOcc C f 1 m := by
  unfold toldAll
  rw [toldBy_two _ hz]
  have key : ∀ x : Nat, ((toldBy [x]).flatMap fun s => s :: toldBy (numsOf (cl C s))).count m = if x = 0 then 0 else hit x m + inOcc C (x % 32768) m := by
    intro x
    unfold toldBy
    by_cases h : x = 0
    · subst h; simp
    · have e : ([x].filter (· != 0)) = [x] := by simp [h]
      rw [e, List.map_cons, List.map_nil, List.flatMap_cons, List.flatMap_nil, List.append_nil, if_neg h, List.count_cons]
      have := count_nums C (x % 32768) m
      unfold toldBy at this
      rw [this, Nat.add_comm]
      congr 1
      by_cases e2 : x % 32768 = m
      · rw [hit_one h e2, if_pos (by simp [e2])]
      · rw [if_neg (by simp [e2])]
        unfold hit
        rw [if_neg (fun z => e2 z.2)]
  have e : toldBy [num (cl C f) 0, num (cl C f) 2] = toldBy [num (cl C f) 0] ++ toldBy [num (cl C f) 2] := by
    unfold toldBy
    rw [← List.map_append, ← List.filter_append]; rfl
  rw [e, List.flatMap_append, List.count_append, key, key]
  rfl
theorem count_held {C : List Clus} {f : Nat} (hz : ∀ i, 1 < i → i < 32 → nm C f i = 0) (m : Nat) : (heldAll C f).count m = treeOcc C f m := by
  unfold heldAll treeOcc
  rw [List.count_cons, count_told hz, Nat.add_comm]
  congr 1
  by_cases e : f = m
  · rw [if_pos e, if_pos (by simp [e])]
  · rw [if_neg e, if_neg (by simp [e])]
theorem mem_toldAll {C : List Clus} {f c : Nat} (hz : ∀ i, 1 < i → i < 32 → nm C f i = 0) (h : c ∈ toldAll C f) :
    ∃ j, j < 2 ∧ nm C f j ≠ 0 ∧ (nm C f j % 32768 = c ∨ ∃ k, k < 32 ∧ nm C (nm C f j % 32768) k ≠ 0 ∧ nm C (nm C f j % 32768) k % 32768 = c) := by
  unfold toldAll at h
  obtain ⟨s, hs, hc⟩ := List.mem_flatMap.1 h
  obtain ⟨i, hi, h0, e⟩ := mem_toldBy hs
  have hi2 : i < 2 := by
    by_cases h2 : i < 2
    · exact h2
    · exact absurd (hz i (by omega) hi) h0
  refine ⟨i, hi2, h0, ?_⟩
  rcases List.mem_cons.1 hc with x | x
  · exact Or.inl (e.trans x.symm)
  · obtain ⟨k, hk, hk0, e2⟩ := mem_toldBy x
    refine Or.inr ⟨k, hk, ?_, ?_⟩
    · show num (cl C (num (cl C f) (2 * i) % 32768)) (2 * k) ≠ 0
      rw [e]; exact hk0
    · show num (cl C (num (cl C f) (2 * i) % 32768)) (2 * k) % 32768 = c
      rw [e]; exact e2
theorem toldAll_mem1 {C : List Clus} {f j : Nat} (hj : j < 2) (h0 : nm C f j ≠ 0) : nm C f j % 32768 ∈ toldAll C f :=
  List.mem_flatMap.2 ⟨_, toldBy_mem (by omega) h0, by simp⟩
theorem toldAll_mem2 {C : List Clus} {f j k : Nat} (hj : j < 2) (h0 : nm C f j ≠ 0) (hk : k < 32) (h1 : nm C (nm C f j % 32768) k ≠ 0) : nm C (nm C f j % 32768) k % 32768 ∈ toldAll C f :=
  List.mem_flatMap.2 ⟨_, toldBy_mem (by omega) h0, List.mem_cons.2 (Or.inr (toldBy_mem hk h1))⟩

/-- The marks are taken off. -/
def sharedOf (n : Nat) : Nat := n % 32768
theorem sharedOf_marks : Marks sharedOf := fun n _ _ _ => ⟨by unfold sharedOf; omega, by unfold sharedOf; omega⟩
def bareTab (c : Clus) : Clus := bytesOf (chgT sharedOf (numsOf c))
theorem bare_num (c : Clus) (q : Nat) (hq : q < 32) : num (bareTab c) (2 * q) = num c (2 * q) % 32768 := by
  have := chg_num sharedOf c (fun q _ _ => by unfold sharedOf; omega) q hq
  unfold bareTab
  rw [this]
  by_cases h : num c (2 * q) = 0
  · rw [if_pos h, h]
  · rw [if_neg h]; rfl
theorem bareTab_length (c : Clus) : (bareTab c).length = 64 := bytesOf_length _
theorem nums_ext {a b : Clus} (h : ∀ q, q < 32 → num a (2 * q) = num b (2 * q)) : numsOf a = numsOf b := by
  unfold numsOf
  apply List.map_congr_left
  intro i hi
  exact h i (List.mem_range.1 hi)
theorem bareTab_twice (c : Clus) : bareTab (bareTab c) = bareTab c := by
  have e : chgT sharedOf (numsOf (bareTab c)) = chgT sharedOf (numsOf c) := by
    apply list_ext_getD
    · rw [chgT_length, chgT_length, numsOf_length, numsOf_length]
    · intro i hi
      rw [chgT_length, numsOf_length] at hi
      rw [chgT_get, chgT_get, numsOf_get _ _ hi, numsOf_get _ _ hi, bare_num _ _ hi]
      unfold sharedOf
      by_cases h : num c (2 * i) = 0
      · simp [h]
      · by_cases h2 : num c (2 * i) % 32768 = 0
        · simp [h2]
        · rw [if_neg h2, if_neg h]; omega
  show bytesOf (chgT sharedOf (numsOf (bareTab c))) = bytesOf (chgT sharedOf (numsOf c))
  rw [e]
theorem renumTab_bare (V : VolR) (t : Nat) : renumTab sharedOf V t = putV V t (bareTab (cl V.C t)) := rfl
theorem bare_puts (C0 : List Clus) (ts : List Nat) : ∀ V : VolR, (∀ t ∈ ts, t < V.C.length) → (∀ t, t < V.C.length → cl V.C t = cl C0 t ∨ cl V.C t = bareTab (cl C0 t)) →
    renumV sharedOf V ts = puts V (ts.map fun t => (t, bareTab (cl C0 t))) := by
  induction ts with
  | nil => intro V _ _; rfl
  | cons t r ih =>
    intro V ht hC
    have htl := ht t (by simp)
    have e : renumTab sharedOf V t = putV V t (bareTab (cl C0 t)) := by
      rw [renumTab_bare]
      rcases hC t htl with x | x
      · rw [x]
      · rw [x, bareTab_twice]
    rw [renumV_cons, e, List.map_cons, puts_cons]
    dsimp only
    have hlen := putV_lenC V t (bareTab (cl C0 t))
    refine ih (putV V t (bareTab (cl C0 t))) (fun x hx => by rw [hlen]; have := ht x (by simp [hx]); omega) (fun x hx => ?_)
    by_cases ex : t = x
    · subst ex; rw [cl_putV_at]; exact Or.inr rfl
    · rw [cl_putV_ne _ _ _ _ (by rw [hlen] at hx; omega) ex]
      exact hC x (by rw [hlen] at hx; omega)
def bareList (C0 : List Clus) (f : Nat) : List (Nat × Clus) := (f :: toldBy (numsOf (cl C0 f))).map fun t => (t, bareTab (cl C0 t))
end Go.Proofs.YtknjjjenklfeoaaGreatDoor
