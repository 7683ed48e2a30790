import Derived.Test.YtknjjjenklfeoaaP13
import Derived.Test.YtknjjjenklfeoaaP06
import Derived.Test.YtknjjjenklfeoaaP07
/-
  The program's shared: the counts with one use more of all that a first table tells.
-/
namespace Go.Proofs.Ytknjjjenklfeoaa
open Go.RowKit Go.Shelf
attribute [local go_sem ↓] loadVar_clus storeVar_clus zeroValue_clus loadVar_tab storeVar_tab zeroValue_tab loadVar_cnt storeVar_cnt zeroValue_cnt loadVar_head storeVar_head zeroValue_head build_head buildSlice_clus loadVar_wr storeVar_wr zeroValue_wr build_wr buildSlice_wr equalIn_clus loadVar_place storeVar_place zeroValue_place build_place
attribute [local go_sem] run_loadClus run_storeClus run_zeroClus run_storeClus_new run_loadClus_new zc_length run_loadTab run_storeTab run_zeroTab run_storeTab_new run_loadTab_new zt_length run_loadCnt run_storeCnt run_zeroCnt run_storeCnt_new run_loadCnt_new zk_length run_loadHead run_storeHead run_zeroHead run_storeHead_new run_bHead HasAt_drew cellsAt_drew HasAt_drewN cellsAt_drewN run_bsClus run_loadWr run_zeroWr run_storeWr run_storeWr_new run_bWr0 run_bsWr run_loadPlace run_storePlace run_zeroPlace run_storePlace_new run_bPlace
attribute [local go_sem] field_head1 field_head0 Oper.semAt_some
def bCnt (parts : Array (Nat × Value)) : Sem Value := Instr.build 86 parts
theorem build_cnt (parts : Array (Nat × Value)) : Instr.build 86 parts = bCnt parts := rfl
theorem run_bCnt0 (w : World) : (bCnt #[]).run Try.prog w = .ok (.agg (cv zk).toArray) w := by
  unfold bCnt Instr.build
  simp only [zeroValue_cnt]
  simp [run_zeroCnt]
  rfl
attribute [local go_sem ↓] build_cnt
attribute [local go_sem] run_bCnt0
theorem results_cells {fn : Func} {p q : Tmp} {ty tz : TypeId} (h : fn.results = #[.cell p ty, .cell q tz]) {tmps : Array Value} {P : Program} {w : World} (a b : Addr) {v u : Value} (ht : tmps.getD p undef = .pointer (some a)) (hq : tmps.getD q undef = .pointer (some b)) (hl : (loadVar ty a).run P w = .ok v w) (hm : (loadVar tz b).run P w = .ok u w) :
    (results fn tmps).run P w = .ok (.tuple #[v, u]) w := by
  simp only [results, h]
  simp [-Array.getD_eq_getD_getElem?, asAddr, ht, hq, hl, hm]

def sharedR (C : List Clus) (f : Nat) : List UInt8 × Bool := if fitsB (cntsOf C) (toldAll C f) then (plus (cntsOf C) (toldAll C f), true) else (zk, false)

theorem Locs.shut {w W : World} {os : List Obj} {D : Nat} (h : Locs w W os) (hD : w.heap.size + os.length ≤ D) : Locs w (W.putObj D (.deferred none)) os := by
  have hg := grownBy_putObj' W D (.deferred none)
  have hk : Kept (fun k => k = D) W (W.putObj D (.deferred none)) := ⟨hg.os, hg.tape, hg.output, hg.size, fun k hk hs => hg.block k hk (fun e => hs (by injection e))⟩
  refine ⟨fun i o ho => hk.blk ?_ (h.objs i o ho), h.below.grown hg h.below.size (fun k e => by cases e; omega)⟩
  have := (List.getElem?_eq_some_iff.1 ho).1
  omega
theorem load_bool {w : World} {b : Nat} {x : Bool} {t : TypeId} {fr : Nat × Nat} (h : w.heap[b]? = some (.cells #[.bool x] t fr)) : (loadVar 4 ⟨b, 0, none⟩).run Try.prog w = .ok (.bool x) w := by
  have c : w.cell? ⟨b, 0, none⟩ = some (.bool x) := (cell_blk h 0).trans rfl
  simp [go_sem, c]

set_option maxHeartbeats 4000000 in
set_option maxRecDepth 100000 in
theorem shared_any (w : World) (v : Nat) (Cv Lv : Value) (V : VolR) (h : VolAt w v Cv Lv V) (h5 : 5 < V.C.length) (hC : V.C.length ≤ 256) (first : Nat) (hF : FirstOK V first) :
    CallsIn Fence.wide 100 Try.prog 57 #[.pointer (some ⟨v, 0, none⟩), .int .i64 (first : Nat)] w fun e w' => e = .returned (.tuple #[.agg (cv (sharedR V.C first).1).toArray, .bool (sharedR V.C first).2]) ∧ Below w.heap.size w w' := by
  have L0 := Locs.two w (.cells (cv zk).toArray 86) (.cells #[.bool false] 4)
  have Hc := hide (counts_vol _ v Cv Lv V (h.below L0.below) (by omega))
  have hcl := cntsOf_length V.C h.lenC (by omega)
  have HR : Hid (sharedR V.C first = if fitsB (cntsOf V.C) (toldAll V.C first) then (plus (cntsOf V.C) (toldAll V.C first), true) else (zk, false)) := rfl
  have H := hide h
  have L0 := hide L0
  have hvl : v < w.heap.size := h.lt
  have hfl : ∀ j, foot v Cv Lv j → j < w.heap.size := h.foot_lt
  clear h
  generalize cntsOf V.C = k at *
  refine callsIn_of_wp_marks Try.func57 rfl trivial ?_ rfl
  simp only [Try.ntmps57, List.size_toArray, List.length_cons, List.length_nil, Nat.reduceAdd, Nat.reduceSub, Array.replicate_succ, Array.replicate_zero, List.push_toArray, List.append_toArray, List.nil_append, List.cons_append]
  gi_wp2_with fail
  refine ⟨trivial, (callsIn_wide.2 (unhide Hc)).mono ?_⟩
  rintro e w1 ⟨rfl, hb1⟩
  have L1 := (unhide L0).later hb1
  have hw1 : w.heap.size + 1 < w1.heap.size := blk_lt L1.o1
  have L2 := hide (L1.alloc (.cells (cv k).toArray 86))
  have k2 : (w1.alloc (.cells (cv k).toArray 86)).heap[w1.heap.size]? = some (.cells (cv k).toArray 86 (0, 0)) := heap_alloc_new _ _
  have Ht := hide (told_make (w1.alloc (.cells (cv k).toArray 86)) v first)
  simp only [World.size_alloc] at Ht
  clear Hc hb1 L1 L0
  gi_wp2_with fail
  refine ⟨trivial, (callsIn_wide.2 (unhide Ht)).mono ?_⟩
  rintro e w3 ⟨rfl, hw3⟩
  have L3 := ((unhide L2).alloc (.cells #[.pointer (some ⟨v, 0, none⟩)] 48)).alloc (.cells #[.int .i64 (first : Nat)] 3)
  rw [← hw3] at L3
  have hs3 : w3.heap.size = w1.heap.size + 3 := by rw [hw3]; simp
  have k3 : w3.heap[w1.heap.size]? = some (.cells (cv k).toArray 86 (0, 0)) := by
    rw [hw3, heap_alloc_old _ _ (by simp; omega), heap_alloc_old _ _ (by simp)]; exact k2
  have v3 : w3.heap[w1.heap.size + 1]? = some (.cells #[.pointer (some ⟨v, 0, none⟩)] 48 (0, 0)) := by
    rw [hw3, heap_alloc_old _ _ (by simp)]
    have := heap_alloc_new (w1.alloc (.cells (cv k).toArray 86)) (.cells #[.pointer (some ⟨v, 0, none⟩)] 48)
    rwa [World.size_alloc] at this
  have f3 : w3.heap[w1.heap.size + 1 + 1]? = some (.cells #[.int .i64 (first : Nat)] 3 (0, 0)) := by
    rw [hw3]
    have := heap_alloc_new ((w1.alloc (.cells (cv k).toArray 86)).alloc (.cells #[.pointer (some ⟨v, 0, none⟩)] 48)) (.cells #[.int .i64 (first : Nat)] 3)
    rwa [World.size_alloc, World.size_alloc] at this
  have hTA := told_any 99 (by omega) (fun j => j = w1.heap.size ∨ j = w.heap.size ∨ j = w.heap.size + 1) v (w1.heap.size + 1) (w1.heap.size + 1 + 1) first (w3.heap.size + 2) V Cv Lv w3 ((unhide H).below L3.below) v3 f3 (by omega) (by omega) (fun hf => by have := hfl _ hf; omega) (fun hf => by have := hfl _ hf; omega) (by rintro j (rfl | rfl | rfl) <;> omega) hF
  have L3 := hide L3
  clear L2 k2 v3 f3 Ht hw3
  gi_wp2_with fail
  refine range_any (by omega) (gf := 84) (lb := #[.pointer (some ⟨w1.heap.size + 1, 0, none⟩), .pointer (some ⟨w1.heap.size + 1 + 1, 0, none⟩)]) rfl (enters_of Try.func84 (by kernel_rfl) rfl) hTA
    (fun A B C h k => KeepV.trans (R := EqV) (fun _ _ _ a b => Eq.trans a b) h k) (fun W o o' hl hc => KeepV.turn (R := EqV) (fun _ => rfl) W _ o o' hl hc (by omega)) (Below.refl _ _) (fun _ => rfl)
    (fun pre W => Locs w W [.cells (cv zk).toArray 86, .cells #[.bool false] 4] ∧ W.heap[w1.heap.size]? = some (.cells (cv (plus k (numsS pre))).toArray 86 (0, 0)) ∧ fitsB k (numsS pre) = true)
    (fun pre W => Locs w W [.cells (cv zk).toArray 86, .cells #[.bool false] 4] ∧ fitsB k (numsS pre) = false)
    ?ownI ?ownX
    ⟨unhide L3, k3, rfl⟩
    (fun x a' W' => ∃ bx, w1.heap.size < bx ∧ W'.heap[bx]? = some (.cells #[.int .i64 ((x.table : Nat) : Int), .int .i64 ((x.index : Nat) : Int), .int .u16 ((x.number : Nat) : Int)] 121 (0, 0)) ∧ a' = { tmps := #[.pointer (some ⟨v, 0, none⟩), .int .i64 (first : Nat), undef, undef, .pointer (some ⟨w.heap.size, 0, none⟩), .pointer (some ⟨w.heap.size + 1, 0, none⟩), .pointer (some ⟨w1.heap.size, 0, none⟩), .pointer (some ⟨bx, 0, none⟩), undef, .pointer (some ⟨v, 0, none⟩), .agg (cv k).toArray, .pointer (some ⟨v, 0, none⟩), .int .i64 (first : Nat), .func (.func 84) #[] #[.pointer (some ⟨w1.heap.size + 1, 0, none⟩), .pointer (some ⟨w1.heap.size + 1 + 1, 0, none⟩)], spotVal x, undef, undef, undef, undef, undef, undef, undef, undef, undef, undef, undef, undef, undef, undef], defers := [] })
    ?ownA ?assign ?body ?done ?stop
  case ownI =>
    intro pre A B row hs hg hr
    refine ⟨⟨fun i o ho => blk_turn hg hr (hs.1.objs i o ho) ?_, hs.1.below.grown hg hs.1.below.size (fun k e => by have := (hr k e).1; omega)⟩, blk_turn hg hr hs.2.1 (by omega), hs.2.2⟩
    have := (List.getElem?_eq_some_iff.1 ho).1
    simp only [List.length_cons, List.length_nil] at this
    omega
  case ownX =>
    intro pre A B row hs hg hr
    refine ⟨⟨fun i o ho => blk_turn hg hr (hs.1.objs i o ho) ?_, hs.1.below.grown hg hs.1.below.size (fun k e => by have := (hr k e).1; omega)⟩, hs.2⟩
    have := (List.getElem?_eq_some_iff.1 ho).1
    simp only [List.length_cons, List.length_nil] at this
    omega
  case ownA =>
    intro x a' _ A' B' row hs hg hr
    obtain ⟨bx, h1, h2, h3⟩ := hs
    refine ⟨bx, h1, ?_, h3⟩
    rw [hg.block bx (blk_lt h2) (fun e => by
      obtain ⟨_, o, ho, hc⟩ := hr bx e.symm
      rw [h2] at ho
      injection ho with ho
      subst ho
      cases hc)]
    exact h2
  case assign =>
    rintro l pre x W K ⟨hL, hk, hf⟩ hK
    unfold spotVal
    gi_wp2
    have hb : Below W.heap.size W (W.alloc (.cells #[.int .i64 ((x.table : Nat) : Int), .int .i64 ((x.index : Nat) : Int), .int .u16 ((x.number : Nat) : Int)] 121)) := (Below.refl _ _).alloc (Nat.le_refl _) _
    exact hK _ _ ((KeepsOthers.alloc _ _).from _) (KeepV.below (R := EqV) (fun _ => rfl) hb) ⟨hL.alloc _, (hb.block _ (blk_lt hk)).trans hk, hf⟩ ⟨_, blk_lt hk, heap_alloc_new _ _, rfl⟩
  case body =>
    rintro l pre x a' W hl _ ⟨hL, hk, hf⟩ ⟨bx, hbx0, hbx, rfl⟩ hlen
    have hV := (unhide H).below hL.below
    have hxl : x.number % 32768 < 256 := by have := x.hc.2; omega
    have hkl : (plus k (numsS pre)).length = 256 := by rw [plus_length]; exact hcl
    have hsn : plus k (numsS (pre ++ [x])) = plus1 (plus k (numsS pre)) (x.number % 32768) := by rw [numsS_snoc, plus_snoc]
    have hfn : fitsB k (numsS (pre ++ [x])) = decide (byteAt (plus k (numsS pre)) (x.number % 32768) < 254) := by rw [numsS_snoc, fitsB_snoc, hf, Bool.true_and]
    have c2 : W.cell? ⟨bx, 2, none⟩ = some (.int .u16 ((x.number : Nat) : Int)) := (cell_blk hbx 2).trans rfl
    have Hc : Hid (∀ W, _) := fun W => cluster_of x.number x.hn W
    generalize plus k (numsS pre) = kk at *
    generalize x.number % 32768 = n at *
    have hni : (n : Int) < 256 := by omega
    have c1 : W.cell? ⟨w1.heap.size, n, none⟩ = some (.int .u8 (byteAt kk n : Nat)) := by
      rw [cell_blk hk, List.getElem?_toArray, cv_get _ _ (by omega)]
    have f1 := frozen_blk hk
    have hbl := byteAt_lt kk n
    have nf : ∀ j, w.heap.size ≤ j → ¬ foot v Cv Lv j := fun j hj hf => by have := hfl j hf; omega
    by_cases hfit : byteAt kk n < 254
    · rw [decide_eq_true hfit] at hfn
      have hwr : IntKind.u8.wrap (((byteAt kk n : Nat) : Int) + 1) = (((byteAt kk n + 1) % 256 : Nat) : Int) := by
        rw [IntKind.wrap_u8]; omega
      have K3 : KeepV (fun j => j = w1.heap.size ∨ j = w.heap.size ∨ j = w.heap.size + 1) (fun k => w3.heap.size + 2 ≤ k) v EqV W (W.setCell ⟨w1.heap.size, n, none⟩ (.int .u8 (((byteAt kk n + 1) % 256 : Nat) : Int))) :=
        KeepV.own hV (Kept.only _ _ _ _) (by rintro j rfl; exact ⟨Or.inl rfl, nf _ (by omega), _, hk, rfl⟩) rfl
      have hset : (cv kk).toArray.setIfInBounds n (.int .u8 (((byteAt kk n + 1) % 256 : Nat) : Int)) = (cv (plus1 kk n)).toArray := by
        rw [List.setIfInBounds_toArray, plus1, cv_setB kk n _ (Nat.mod_lt _ (by omega))]
      have hk3 := heap_setCell_same W w1.heap.size n (.int .u8 (((byteAt kk n + 1) % 256 : Nat) : Int)) _ _ _ hk
      rw [hset, ← hsn] at hk3
      have L3 : Locs w (W.setCell ⟨w1.heap.size, n, none⟩ (.int .u8 (((byteAt kk n + 1) % 256 : Nat) : Int))) [.cells (cv zk).toArray 86, .cells #[.bool false] 4] := by
        have hkp := Kept.only W w1.heap.size n (.int .u8 (((byteAt kk n + 1) % 256 : Nat) : Int))
        refine ⟨fun i o ho => hkp.blk ?_ (hL.objs i o ho), hL.below.setCell (by show w.heap.size ≤ w1.heap.size; omega) _⟩
        have := (List.getElem?_eq_some_iff.1 ho).1
        simp only [List.length_cons, List.length_nil] at this
        omega
      have L3 := hide L3
      have K3 := hide K3
      have dg : ¬ ((254 : Int) ≤ ((byteAt kk n : Nat) : Int)) := by omega
      clear hset hsn hL hV
      generalize byteAt kk n = bb at *
      generalize (bb + 1) % 256 = b2 at *
      gi_wp2_with fail
      refine ⟨trivial, (CallsIn.inRound l (callsIn_wide.2 (unhide Hc _))).mono ?_⟩
      rintro e W2 ⟨rfl, rfl⟩
      gi_wp2
      exact ⟨(KeepsOthers.setCell _ _ _).from _, unhide K3, unhide L3, hk3, hfn⟩
    · rw [decide_eq_false hfit] at hfn
      have hge : (254 : Int) ≤ ((byteAt kk n : Nat) : Int) := by omega
      have th := there_blk hL.o0 0 256 (by simp [cv_length, zk_length])
      have L2 := hL.setCells 0 rfl 0 (cv zk)
      rw [Nat.add_zero, setList_all _ _ (by simp [cv_length, zk_length])] at L2
      simp only [List.set_cons_zero] at L2
      have KA : KeepV (fun j => j = w1.heap.size ∨ j = w.heap.size ∨ j = w.heap.size + 1) (fun k => w3.heap.size + 2 ≤ k) v EqV W (W.setCells w.heap.size 0 (cv zk)) :=
        KeepV.own hV (Kept.onlys _ _ _ _) (by rintro j rfl; exact ⟨Or.inr (Or.inl rfl), nf _ (Nat.le_refl _), _, hL.o0, rfl⟩) rfl
      have FA : KeepsFrom w3.heap.size W (W.setCells w.heap.size 0 (cv zk)) := ⟨(Kept.onlys W w.heap.size 0 (cv zk)).size, fun j o hB hj _ => (Kept.onlys W w.heap.size 0 (cv zk)).blk (by omega) hj⟩
      generalize hWA : W.setCells w.heap.size 0 (cv zk) = WA at *
      have r1 : WA.cell? ⟨w.heap.size + 1, 0, none⟩ = some (.bool false) := (cell_blk L2.o1 0).trans rfl
      have f2 := frozen_blk L2.o1
      have L3 := L2.setCell 1 rfl 0 (.bool false)
      have KB : KeepV (fun j => j = w1.heap.size ∨ j = w.heap.size ∨ j = w.heap.size + 1) (fun k => w3.heap.size + 2 ≤ k) v EqV WA (WA.setCell ⟨w.heap.size + 1, 0, none⟩ (.bool false)) :=
        KeepV.own ((unhide H).below L2.below) (Kept.only _ _ _ _) (by rintro j rfl; exact ⟨Or.inr (Or.inr rfl), nf _ (by omega), _, L2.o1, rfl⟩) rfl
      have FB : KeepsFrom w3.heap.size WA (WA.setCell ⟨w.heap.size + 1, 0, none⟩ (.bool false)) := (KeepsOthers.setCell _ _ _).from _
      have K3 := hide (KeepV.trans (R := EqV) (fun _ _ _ a b => Eq.trans a b) KA KB)
      have F3 := hide (FA.trans FB)
      have L3 : Locs w (WA.setCell ⟨w.heap.size + 1, 0, none⟩ (.bool false)) [.cells (cv zk).toArray 86, .cells #[.bool false] 4] := L3
      have L3 := hide L3
      clear KA KB FA FB L2 hL hV hsn
      generalize byteAt kk n = bb at *
      gi_wp2_with fail
      refine ⟨trivial, (CallsIn.inRound l (callsIn_wide.2 (unhide Hc _))).mono ?_⟩
      rintro e W2 ⟨rfl, rfl⟩
      gi_wp2
      exact ⟨unhide F3, unhide K3, unhide L3, hfn⟩
  case done =>
    rintro D xs W hD hS ⟨hL, hk, hf⟩ hK
    have hS' : numsS xs = toldAll V.C first := by rw [hS, told_nums]
    rw [hS'] at hk hf
    have hR : sharedR V.C first = (plus k (toldAll V.C first), true) := by rw [unhide HR, if_pos hf]
    have hR := hide hR
    have hkl : (plus k (toldAll V.C first)).length = 256 := by rw [plus_length]; exact hcl
    generalize plus k (toldAll V.C first) = kk at *
    have l1 := blk_has hk (n := 256) (by rw [cv_length, hkl])
    have l2 := blk_cells hk (n := 256) (by rw [cv_length, hkl])
    have th := there_blk hL.o0 0 256 (by simp [cv_length, zk_length])
    have L2 := hL.setCells 0 rfl 0 (cv kk)
    rw [Nat.add_zero, setList_all _ _ (by simp [cv_length, zk_length, hkl])] at L2
    simp only [List.set_cons_zero] at L2
    have hK2 : (W.setCells w.heap.size 0 (cv kk)).heap[D]? = some (.deferred (some [])) := (Kept.onlys W w.heap.size 0 (cv kk)).blk (by omega) hK
    generalize hWA : W.setCells w.heap.size 0 (cv kk) = WA at *
    have r1 : WA.cell? ⟨w.heap.size + 1, 0, none⟩ = some (.bool false) := (cell_blk L2.o1 0).trans rfl
    have f2 := frozen_blk L2.o1
    have L3 : Locs w (WA.setCell ⟨w.heap.size + 1, 0, none⟩ (.bool true)) [.cells (cv kk).toArray 86, .cells #[.bool true] 4] := L2.setCell 1 rfl 0 (.bool true)
    have hK3 : (WA.setCell ⟨w.heap.size + 1, 0, none⟩ (.bool true)).heap[D]? = some (.deferred (some [])) := (Kept.only WA (w.heap.size + 1) 0 (.bool true)).blk (by omega) hK2
    have L3 := hide L3
    clear L2 hL hk hK hK2 hTA hS
    gi_wp2
    refine ⟨by simp, .inl ⟨_, _, rfl, run_takeDeferred hK3, ?_⟩⟩
    have L5 := (unhide L3).shut (D := D) (by simp; omega)
    have n3 := blk_has L5.o0 (n := 256) (by rw [cv_length, hkl])
    have n4 := blk_cells L5.o0 (n := 256) (by rw [cv_length, hkl])
    refine ⟨_, results_cells rfl ⟨w.heap.size, 0, none⟩ ⟨w.heap.size + 1, 0, none⟩ rfl rfl (v := .agg (cv kk).toArray) (u := .bool true) (by rw [loadVar_cnt, run_loadCnt n3, n4]) (load_bool L5.o1), ?_, L5.below⟩
    rw [unhide hR]
  case stop =>
    rintro D pre W hD hSp ⟨hL, hf⟩ hK
    have hff : fitsB k (toldAll V.C first) = false := by
      rw [← told_nums V first hF]
      refine fitsB_pre (pre := numsS pre) ?_ hf
      obtain ⟨r, hr⟩ := hSp
      exact ⟨numsS r, by rw [← hr]; simp [numsS]⟩
    have hR : sharedR V.C first = (zk, false) := by rw [unhide HR, hff]; rfl
    have hR := hide hR
    clear hTA
    gi_wp2
    refine ⟨by simp, .inl ⟨_, _, rfl, run_takeDeferred hK, ?_⟩⟩
    have L5 := hL.shut (D := D) (by simp; omega)
    have n3 := blk_has L5.o0 (n := 256) (by rw [cv_length, zk_length])
    have n4 := blk_cells L5.o0 (n := 256) (by rw [cv_length, zk_length])
    refine ⟨_, results_cells rfl ⟨w.heap.size, 0, none⟩ ⟨w.heap.size + 1, 0, none⟩ rfl rfl (v := .agg (cv zk).toArray) (u := .bool false) (by rw [loadVar_cnt, run_loadCnt n3, n4]) (load_bool L5.o1), ?_, L5.below⟩
    rw [unhide hR]
end Go.Proofs.Ytknjjjenklfeoaa

/-
  The program's writeNewBlock.
-/
namespace Go.Proofs.Ytknjjjenklfeoaa
open Go.RowKit
attribute [local go_sem ↓] loadVar_clus storeVar_clus zeroValue_clus loadVar_tab storeVar_tab zeroValue_tab loadVar_cnt storeVar_cnt zeroValue_cnt loadVar_head storeVar_head zeroValue_head build_head buildSlice_clus loadVar_wr storeVar_wr zeroValue_wr build_wr buildSlice_wr equalIn_clus loadVar_place storeVar_place zeroValue_place build_place
attribute [local go_sem] run_loadClus run_storeClus run_zeroClus run_storeClus_new run_loadClus_new zc_length run_loadTab run_storeTab run_zeroTab run_storeTab_new run_loadTab_new zt_length run_loadCnt run_storeCnt run_zeroCnt run_storeCnt_new run_loadCnt_new zk_length run_loadHead run_storeHead run_zeroHead run_storeHead_new run_bHead HasAt_drew cellsAt_drew HasAt_drewN cellsAt_drewN run_bsClus run_loadWr run_zeroWr run_storeWr run_storeWr_new run_bWr0 run_bsWr run_loadPlace run_storePlace run_zeroPlace run_storePlace_new run_bPlace
attribute [local go_sem] field_head1 field_head0
/-- What letGo does of a volume, when it is handed the clusters that some numbers tell. -/
def LetsGo (v : Nat) (V V' : VolR) (ns : List Nat) : Prop :=
  ∀ W C1 L1 bx bs, VolAt W v C1 L1 V → W.heap[bx]? = some (.cells #[.slice (some ⟨bs, 0, none⟩) ns.length ns.length] 136 (0, 0)) → W.heap[bs]? = some (.cells (tv ns).toArray 92 (0, 0)) → ¬ foot v C1 L1 bs →
    Calls Try.prog 39 #[.pointer (some ⟨v, 0, none⟩), .func (.func 87) #[] #[.pointer (some ⟨bx, 0, none⟩)]] W fun e w' => e = .returned (.tuple #[]) ∧ ∃ C2 L2, VStep W w' v C1 L1 C2 L2 V'

def wnb1 (V : VolR) (data : Clus) : VolR := flushV (putV (claimV V (lowFree (cntsOf V.C) 1)) ((lowFree (cntsOf V.C) 1).getD 0 0) data)
def wnbV (V : VolR) (p : PlaceR) (data : Clus) : VolR := flushV (putNumV (wnb1 V data) (p.second % 32768) p.inSecond ((lowFree (cntsOf V.C) 1).getD 0 0 + 32768))
theorem lowTo_lt (c : List UInt8) (want : Nat) : ∀ k, ∀ n ∈ lowTo c want k, n < k
  | 0, n, hn => by simp [lowTo] at hn
  | k + 1, n, hn => by
    rw [lowTo] at hn
    split at hn
    · have := lowTo_lt c want k n hn; omega
    · split at hn
      · rcases List.mem_append.1 hn with h | h
        · have := lowTo_lt c want k n h; omega
        · rw [List.mem_singleton.1 h]; omega
      · have := lowTo_lt c want k n hn; omega
theorem lowFree_lt (c : List UInt8) (want : Nat) : ∀ n ∈ lowFree c want, n < 256 := lowTo_lt c want 256
theorem lastOf_lt {F : List Nat} (hF : 0 < F.length) (h : ∀ n ∈ F, n < 256) : lastOf F < 256 := by
  unfold lastOf
  rw [List.getD_eq_getElem?_getD, List.getElem?_eq_getElem (by omega)]
  exact h _ (List.getElem_mem _)
theorem claimV_lenC (V : VolR) (F : List Nat) (h5 : 5 ≤ V.C.length) : (claimV V F).C.length = V.C.length := by
  unfold claimV
  simp only [putCnt, putV_lenC, lengthenV_lenC V F (by omega)]
  omega
theorem claimV_lenL (V : VolR) (F : List Nat) : (claimV V F).L.length ≤ V.L.length + 11 := by
  unfold claimV
  have h1 := putCnt_lenL (lengthenV V F) (ones (cntsOf (lengthenV V F).C) F) 4
  have h2 := lengthenV_lenL V F
  omega
theorem ints_get {w : World} {g cap : Nat} {F : List Nat} {base : Nat} (hx : w.ownsRow base 3 1 (.slice (some ⟨g, 0, none⟩) F.length cap) F.length (iv F)) (k : Nat) (hk : k < F.length) : w.cell? ⟨g, k, none⟩ = some (.int .i64 ((F.getD k 0 : Nat) : Int)) := by
  rw [hx.cellAt k (by omega)]
  unfold iv
  rw [List.getElem?_map, List.getD_eq_getElem?_getD, List.getElem?_eq_getElem hk]
  rfl
theorem row_base {w : World} {b1 b2 : Nat} {e : TypeId} {size : Nat} {v : Value} {n : Nat} {xs : List Value} (h : w.ownsRow b1 e size v n xs) (hb : b2 ≤ b1) : w.ownsRow b2 e size v n xs := by
  obtain ⟨h1, h2⟩ := h
  refine ⟨h1, ?_⟩
  rcases h2 with h2 | ⟨g, cap, cur, rfl, hg, r⟩
  · exact Or.inl h2
  · exact Or.inr ⟨g, cap, cur, rfl, Nat.le_trans hb hg, r⟩
def bsNum (parts : Array (Nat × Value)) : Sem Value := Instr.buildSlice 136 1 parts
theorem buildSlice_num (parts : Array (Nat × Value)) : Instr.buildSlice 136 1 parts = bsNum parts := rfl
theorem run_bsNum {w : World} {n : Nat} : (bsNum #[(0, .int .u16 (n : Nat))]).run Try.prog w = .ok (.slice (some ⟨w.heap.size, 0, none⟩) 1 1) (w.alloc (.cells (tv [n]).toArray 92)) :=
  run_buildSlice_one w 136 92 1 (.int .u16 0) (.int .u16 (n : Nat)) Try.underlying136 (by kernel_rfl) (by omega) (by omega) (by rfl)
attribute [local go_sem ↓] buildSlice_num
attribute [local go_sem] run_bsNum
set_option maxHeartbeats 4000000 in
set_option maxRecDepth 100000 in
theorem writeNewBlock_any (w : World) (v : Nat) (Cv Lv : Value) (V V' : VolR) (h : VolAt w v Cv Lv V) (h5 : 5 < V.C.length) (hC : V.C.length ≤ 256) (hL : V.L.length ≤ 500000000) (p : PlaceR) (hps : p.second < 65536) (hpc : p.second % 32768 < V.C.length) (hpi : p.inSecond < 32) (data : Clus) (hd : data.length = 64)
    (hLG : 0 < (lowFree (cntsOf V.C) 1).length → LetsGo v (wnbV V p data) V' [p.block]) :
    Calls Try.prog 51 #[.pointer (some ⟨v, 0, none⟩), .agg (placeCells p).toArray, .agg (cv data).toArray] w fun e w' =>
      if 0 < (lowFree (cntsOf V.C) 1).length then e = .returned (.int .i64 0) ∧ ∃ C1 L1, VStep w w' v Cv Lv C1 L1 V' else e = .returned (.int .i64 5) ∧ Below w.heap.size w w' := by
  have E0 := ((Env.start h).lay (.cells (placeCells p).toArray 96)).lay (.cells (cv data).toArray 26)
  simp only [World.size_alloc] at E0
  have Hf := hide (lowestFree_any _ v Cv Lv V E0.at' (by omega) 1 (by omega))
  have HB : Hid (Below w.heap.size w ((w.alloc (.cells (placeCells p).toArray 96)).alloc (.cells (cv data).toArray 26))) := ((Below.refl _ w).alloc (Nat.le_refl _) _).alloc (by simp) _
  have hFlt := lowFree_lt (cntsOf V.C) 1
  have hFle := (lowTo_le (cntsOf V.C) 1 256).1
  have H1 : Hid (wnb1 V data = flushV (putV (claimV V (lowFree (cntsOf V.C) 1)) ((lowFree (cntsOf V.C) 1).getD 0 0) data)) := rfl
  have H2 : Hid (wnbV V p data = flushV (putNumV (wnb1 V data) (p.second % 32768) p.inSecond ((lowFree (cntsOf V.C) 1).getD 0 0 + 32768))) := rfl
  have E0 := hide E0
  change (lowFree (cntsOf V.C) 1).length ≤ 1 at hFle
  generalize lowFree (cntsOf V.C) 1 = F at *
  by_cases hF : 0 < F.length
  · simp only [if_pos hF]
    have hlt := lastOf_lt hF hFlt
    have hF1 : F.length = 1 := by omega
    have hLG := hLG hF
    have hb0 : F.getD 0 0 < 256 := by rw [List.getD_eq_getElem?_getD, List.getElem?_eq_getElem hF]; exact hFlt _ (List.getElem_mem _)
    have hcC := claimV_lenC V F (by omega)
    have hcL := claimV_lenL V F
    have HC : Hid (∀ W C1 L1 x, VolAt W v C1 L1 V → W.ownsRow 0 3 1 x F.length (iv F) → _) := fun W C1 L1 x hW hx => claim_any W v C1 L1 V hW F hF (by omega) hlt hFlt x hx (by omega) (by omega) (by omega)
    generalize claimV V F = V1 at *
    generalize hbb : F.getD 0 0 = b at *
    have hpC := putV_lenC V1 b data
    have hpL := putV_lenL V1 b data
    have HP1 : Hid (∀ W C1 L1, VolAt W v C1 L1 V1 → _) := fun W C1 L1 hW => put_any W v C1 L1 V1 hW b (by omega) data hd (by omega) (by omega)
    generalize putV V1 b data = V2 at *
    have hf2 := flushV_lenL V2
    have hf2c : (flushV V2).C.length = V2.C.length := by rw [flushV_C]
    rw [← unhide H1] at hf2 hf2c
    have HF2 : Hid (∀ W C1 L1, VolAt W v C1 L1 V2 → _) := fun W C1 L1 hW => flush_any W v C1 L1 V2 hW (by omega)
    rw [← unhide H1] at HF2
    generalize wnb1 V data = V3 at *
    have HN : Hid (∀ W C1 L1, VolAt W v C1 L1 V3 → _) := fun W C1 L1 hW => putNumber_vol W v C1 L1 V3 hW (p.second % 32768) p.inSecond (b + 32768) (by omega) hpi (by omega) (by omega) (by omega)
    have hn4 := putV_lenL V3 (p.second % 32768) (bytesOf ((numsOf (cl V3.C (p.second % 32768))).set p.inSecond (b + 32768)))
    change (putNumV V3 (p.second % 32768) p.inSecond (b + 32768)).L.length ≤ _ at hn4
    generalize hV4 : putNumV V3 (p.second % 32768) p.inSecond (b + 32768) = V4 at *
    have HF4 : Hid (∀ W C1 L1, VolAt W v C1 L1 V4 → _) := fun W C1 L1 hW => flush_any W v C1 L1 V4 hW (by omega)
    rw [← unhide H2] at HF4
    generalize wnbV V p data = V5 at *
    have HO : Hid (∀ W, _) := fun W => own_of b (by omega) W
    have HCl : Hid (∀ W, _) := fun W => cluster_of p.second hps W
    have HLG := hide hLG
    clear hLG h H1 H2 hV4 hFlt hlt
    generalize p.second % 32768 = c2 at *
    go_enter Try.func51, Try.ntmps51
    go_wp2_with fail
    refine (unhide Hf).mono ?_
    rintro e w1 ⟨x, rfl, hx, hb1⟩
    obtain ⟨g, cap, rfl, _⟩ := row_some hx hF
    have E1 := hide ((unhide E0).later hb1)
    have cx : w1.cell? ⟨g, 0, none⟩ = some (.int .i64 (b : Nat)) := by rw [← hbb]; exact ints_get hx 0 hF
    have Hx := hide (row_base hx (Nat.zero_le _))
    clear hx hb1 Hf E0 HB
    rw [hF1] at HC Hx ⊢
    go_wp2_with fail
    refine (unhide HC w1 _ _ _ (unhide E1).at' (unhide Hx)).mono ?_
    rintro e w2 ⟨rfl, C2, L2, hS2⟩
    have E2 := (unhide E1).does hS2
    have l1 := box_has E2.drew.o0 hd
    have l2 := box_cells E2.drew.o0 hd
    have E2 := hide E2
    clear hS2 E1 Hx cx HC
    go_wp2
    go_region_law (go_simp
                   go_at_call 46
                   refine (unhide HP1 _ _ _ (unhide E2).drew.at').mono ?_
                   rintro e w3 ⟨rfl, C3, L3, hS3⟩
                   have E3 := hide ((unhide E2).drew.does hS3)
                   clear hS3)
    go_wp2_with fail
    refine (unhide HF2 _ _ _ (unhide E3).at').mono ?_
    rintro e w4 ⟨rfl, C4, L4, hS4⟩
    have E4 := (unhide E3).does hS4
    have d1 : w4.drew.cell? ⟨w.heap.size, 3, none⟩ = some (.int .u16 (p.second : Nat)) := (cell_blk E4.drew.o1 3).trans rfl
    have d2 : w4.drew.cell? ⟨w.heap.size, 2, none⟩ = some (.int .i64 (p.inSecond : Nat)) := (cell_blk E4.drew.o1 2).trans rfl
    have E4 := hide E4
    clear hS4 E3 E2 HP1 HF2 l1 l2
    go_wp2
    go_region_law (first
      | (go_simp
         go_at_call 52
         refine (unhide HCl _).mono ?_
         rintro e w5 ⟨rfl, rfl⟩)
      | (go_simp
         go_at_call 73
         refine (unhide HO _).mono ?_
         rintro e w5 ⟨rfl, rfl⟩)
      | (go_simp
         go_at_call 76
         refine (unhide HN _ _ _ (unhide E4).drew.at').mono ?_
         rintro e w5 ⟨rfl, C5, L5, hS5⟩
         have E5 := hide ((unhide E4).drew.does hS5)
         clear hS5))
    all_goals
      clear E4 d1 d2 HN HO HCl
      go_wp2_with fail
      refine (unhide HF4 _ _ _ (unhide E5).at').mono ?_
      rintro e w6 ⟨rfl, C6, L6, hS6⟩
      have E6 := (unhide E5).does hS6
      have d3 : w6.cell? ⟨w.heap.size, 4, none⟩ = some (.int .u16 (p.block : Nat)) := (cell_blk E6.o1 4).trans rfl
      have E7 := E6.lay (.cells (tv [p.block]).toArray 92)
      have Hm := hide (clusters_make (w6.alloc (.cells (tv [p.block]).toArray 92)) (some ⟨w6.heap.size, 0, none⟩) 1 1)
      have E8 := E7.lay (.cells #[.slice (some ⟨w6.heap.size, 0, none⟩) 1 1] 136)
      simp only [World.size_alloc] at E8
      have Hg := hide (unhide HLG _ C6 L6 (w6.heap.size + 1) w6.heap.size E8.at' E8.o0 E8.o1 (E8.objs (w6.heap.size, .cells (tv [p.block]).toArray 92 (0, 0)) (by simp)).2.2)
      have E8 := hide E8
      clear hS6 E6 E7 E5 HF4 HLG
      go_wp2_with fail
      refine (unhide Hm).mono ?_
      rintro e w8 ⟨rfl, rfl⟩
      simp only [World.size_alloc]
      go_wp2_with fail
      refine (unhide Hg).mono ?_
      rintro e w9 ⟨rfl, C9, L9, hS9⟩
      have E9 := hide ((unhide E8).does hS9).step
      go_wp2
      go_ret
      exact ⟨rfl, C9, L9, unhide E9⟩
  · simp only [if_neg hF]
    have hF0 : F.length = 0 := by omega
    go_enter Try.func51, Try.ntmps51
    go_wp2_with fail
    refine (unhide Hf).mono ?_
    rintro e w1 ⟨x, rfl, hx, hb1⟩
    obtain ⟨g, cap, rfl⟩ := row_form hx
    rw [hF0]
    have HB1 := hide ((unhide HB).trans (hb1.mono (unhide HB).size))
    go_wp2
    go_ret
    exact ⟨rfl, unhide HB1⟩
end Go.Proofs.Ytknjjjenklfeoaa
