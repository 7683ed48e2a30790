import Derived.Test.YtknjjjenklfeoaaGreatDoorP09
import Derived.RangeFuncNested
import Derived.RangeFuncBound
import Derived.RangeFuncCalls
import Derived.RangeFuncLeaves
import Derived.Shelf.Abstract
import Derived.Shelf.RegionOpen
import Derived.WalkKit
import Derived.OwnWalkIn
import Derived.TacticsInMore
import Derived.LoopNIn
import Derived.LoopIn
/-
  The program's iterators: the numbers of one table.
-/
namespace Go.Proofs.YtknjjjenklfeoaaGreatDoor
open Go.RowKit Go.Shelf
attribute [local go_sem ↓] loadVar_clus storeVar_clus zeroValue_clus loadVar_tab storeVar_tab zeroValue_tab loadVar_cnt storeVar_cnt zeroValue_cnt loadVar_head storeVar_head zeroValue_head build_head buildSlice_clus loadVar_wr storeVar_wr zeroValue_wr build_wr buildSlice_wr equalIn_clus loadVar_place storeVar_place zeroValue_place build_place
attribute [local go_sem] run_loadClus run_storeClus run_zeroClus run_storeClus_new run_loadClus_new zc_length run_loadTab run_storeTab run_zeroTab run_storeTab_new run_loadTab_new zt_length run_loadCnt run_storeCnt run_zeroCnt run_storeCnt_new run_loadCnt_new zk_length run_loadHead run_storeHead run_zeroHead run_storeHead_new run_bHead HasAt_drew cellsAt_drew HasAt_drewN cellsAt_drewN run_bsClus run_loadWr run_zeroWr run_storeWr run_storeWr_new run_bWr0 run_bsWr run_loadPlace run_storePlace run_zeroPlace run_storePlace_new run_bPlace
attribute [local go_sem] field_head1 field_head0 Oper.semAt_some
/-- A number that may stand in a table. -/
def OKN (Pc : Nat → Prop) (n : Nat) : Prop := n < 65536 ∧ (n ≠ 0 → Pc (n % 32768))
/-- A place in a table where a number stands. -/
structure SpotR (Pc : Nat → Prop) where
  table : Nat
  index : Nat
  number : Nat
  hi : index < 32
  hn : number < 65536
  h0 : number ≠ 0
  hc : Pc (number % 32768)
def spotVal {Pc : Nat → Prop} (s : SpotR Pc) : Value := .agg #[.int .i64 ((s.table : Nat) : Int), .int .i64 ((s.index : Nat) : Int), .int .u16 ((s.number : Nat) : Int)]
/-- The spots of a table, up to the k-th number. -/
def spotsTo {Pc : Nat → Prop} (t : Nat) (T : List Nat) (hT : ∀ i, OKN Pc (T.getD i 0)) : (k : Nat) → k ≤ 32 → List (SpotR Pc)
  | 0, _ => []
  | k + 1, hk => spotsTo t T hT k (by omega) ++ if h : T.getD k 0 ≠ 0 then [⟨t, k, T.getD k 0, by omega, (hT k).1, h, (hT k).2 h⟩] else []
theorem spotsTo_zero {Pc : Nat → Prop} (t : Nat) (T : List Nat) (hT : ∀ i, OKN Pc (T.getD i 0)) (k : Nat) (hk : k + 1 ≤ 32) (h : T.getD k 0 = 0) : spotsTo t T hT (k + 1) hk = spotsTo t T hT k (by omega) := by
  rw [spotsTo, dif_neg (by simpa using h), List.append_nil]
theorem spotsTo_some {Pc : Nat → Prop} (t : Nat) (T : List Nat) (hT : ∀ i, OKN Pc (T.getD i 0)) (k : Nat) (hk : k + 1 ≤ 32) (h : T.getD k 0 ≠ 0) : spotsTo t T hT (k + 1) hk = spotsTo t T hT k (by omega) ++ [⟨t, k, T.getD k 0, by omega, (hT k).1, h, (hT k).2 h⟩] := by
  rw [spotsTo, dif_pos h]
theorem spotsTo_length {Pc : Nat → Prop} (t : Nat) (T : List Nat) (hT : ∀ i, OKN Pc (T.getD i 0)) : ∀ k hk, (spotsTo t T hT k hk).length ≤ k
  | 0, _ => by simp [spotsTo]
  | k + 1, hk => by
    have := spotsTo_length t T hT k (by omega)
    rw [spotsTo]
    split <;> simp <;> omega

theorem spotsTo_prefix {Pc : Nat → Prop} (t : Nat) (T : List Nat) (hT : ∀ i, OKN Pc (T.getD i 0)) (k : Nat) (hk : k ≤ 32) : spotsTo t T hT k hk <+: spotsTo t T hT 32 (Nat.le_refl _) := by
  have : ∀ j (hj : k + j ≤ 32), spotsTo t T hT k hk <+: spotsTo t T hT (k + j) hj := by
    intro j
    induction j with
    | zero => intro _; exact List.prefix_refl _
    | succ j ih => intro hj; exact (ih (by omega)).trans (by show _ <+: spotsTo t T hT ((k + j) + 1) hj; rw [spotsTo]; exact List.prefix_append _ _)
  have h := this (32 - k) (by omega)
  have e : k + (32 - k) = 32 := by omega
  simpa [e] using h

set_option maxHeartbeats 2000000 in
set_option maxRecDepth 100000 in
theorem numbers1_in {Pc : Nat → Prop} (n : Nat) (hn : 3 ≤ n) (l bv bt v table : Nat) (V : VolR) (J Jx : List (SpotR Pc) → World → Prop) (P : World → Prop)
    (hT : ∀ i, OKN Pc ((numsOf (cl V.C table)).getD i 0))
    (hY : ∀ pre x W, J pre W → pre.length < 32 → YieldAt Fence.wide (n - 1) Tryz.prog l #[spotVal x] W fun e W' =>
      (e = .returned (.bool true) ∧ J (pre ++ [x]) W' ∧ (P W → P W')) ∨ (e = .returned (.bool false) ∧ Jx (pre ++ [x]) W'))
    (hPc : ∀ W, P W → W.cell? ⟨bt, 0, none⟩ = some (.int .i64 (table : Nat))) (hPb : ∀ W W', P W → Below W.heap.size W W' → P W')
    (W : World) (hJ : AbidesFrom W.heap.size J) (hP : P W) (hbv : W.cell? ⟨bv, 0, none⟩ = some (.pointer (some ⟨v, 0, none⟩))) (Cv Lv : Value) (hV : VolAt W v Cv Lv V) (ht : table < V.C.length) (h0 : J [] W) :
    CallsIn Fence.wide n Tryz.prog 182 #[.func (.yield l) #[] #[], .pointer (some ⟨bv, 0, none⟩), .pointer (some ⟨bt, 0, none⟩)] W fun e W' => (∃ v, e = .returned v) ∧
      ((∃ ys, ys = spotsTo table (numsOf (cl V.C table)) hT 32 (Nat.le_refl _) ∧ J ys W') ∨ (∃ pre, pre <+: spotsTo table (numsOf (cl V.C table)) hT 32 (Nat.le_refl _) ∧ Jx pre W')) := by
  have c1 := hPc W hP
  have Ht := hide (table_vol W v Cv Lv V hV table ht)
  have hTl := numsOf_length (cl V.C table)
  generalize numsOf (cl V.C table) = T at *
  refine callsIn_of_wp Tryz.func182 rfl trivial ?_ rfl
  simp only [Tryz.ntmps182, List.size_toArray, List.length_cons, List.length_nil, Nat.reduceAdd, Nat.reduceSub, Array.replicate_succ, Array.replicate_zero, List.push_toArray, List.append_toArray, List.nil_append, List.cons_append]
  gi_wp2_with fail
  refine ⟨trivial, fun _ => by omega, (callsIn_wide.2 (unhide Ht)).mono ?_⟩
  rintro e W1 ⟨rfl, hb1⟩
  have HP1 := hide (hPb W W1 hP hb1)
  have HJ1 := hide (hJ [] W W1 none h0 ⟨hb1.os, hb1.tape, hb1.output, hb1.size, fun k hk _ => hb1.block k hk⟩ (fun r e => by cases e))
  clear hP h0 c1 Ht hb1 hbv hV hJ
  gi_wp2
  gi_loopw [4, 5, 9] (fun _ _ i wr => ∃ (k : Nat) (hk : k ≤ 32), i = .int .i64 k ∧ P wr ∧ J (spotsTo table T hT k hk) wr) (fun _ _ i _ => 32 - (intOf i).toNat)
  case atStart => exact ⟨0, by omega, rfl, unhide HP1, unhide HJ1⟩
  case round =>
    obtain ⟨k, hk, rfl, hPk, hJk⟩ := hrel
    clear HP1 HJ1
    have c1 := hPc wr hPk
    by_cases hlt : k < 32
    · have hki : (k : Int) < 32 := by omega
      have hix := run_index_tab wr T hTl k hlt
      have hlen := spotsTo_length table T hT k hk
      by_cases h0 : T.getD k 0 = 0
      · have Hs := hide (spotsTo_zero table T hT k hlt h0)
        rw [h0] at hix
        gi_wp2
        refine ⟨fun _ h => (by cases h), ?_⟩
        gi_wp2
        go_roundw
        case rel => exact ⟨k + 1, by omega, by go_num, hPk, by rw [unhide Hs]; exact hJk⟩
        case measure => simp [intOf]; omega
      · obtain ⟨x, hs1, hs2, hs3, hs4⟩ : ∃ x : SpotR Pc, x.table = table ∧ x.index = k ∧ x.number = T.getD k 0 ∧ spotsTo table T hT (k + 1) hlt = spotsTo table T hT k hk ++ [x] := ⟨⟨table, k, T.getD k 0, hlt, (hT k).1, h0, (hT k).2 h0⟩, rfl, rfl, rfl, spotsTo_some table T hT k hlt h0⟩
        have Hs := hide hs4
        obtain ⟨fn, tmps, assign, body, hy, hR⟩ := hY _ x wr hJk (by omega)
        rw [spotVal, hs1, hs2, hs3] at hy
        have hnl := (hT k).1
        have d0 : ((((T.getD k 0 : Nat)) : Int) != 0) = true := by rw [bne_iff_ne]; omega
        clear hs4 hs1 hs2 hs3
        generalize T.getD k 0 = nn at *
        gi_wp2
        refine ⟨fun _ => by omega, hR.mono ?_⟩
        rintro e W3 (⟨rfl, hJ3, hP3⟩ | ⟨rfl, hJx3⟩)
        · have HP3 := hide (hP3 hPk)
          clear hP3 c1 hPk
          gi_wp2
          go_roundw
          case rel => exact ⟨k + 1, by omega, by go_num, unhide HP3, by rw [unhide Hs]; exact hJ3⟩
          case measure => simp [intOf]; omega
        · gi_wp2
          refine bodyPost_ret (results_none rfl _ _ _) rfl ?_
          exact ⟨⟨_, rfl⟩, .inr ⟨_, by rw [← unhide Hs]; exact spotsTo_prefix table T hT _ hlt, hJx3⟩⟩
    · have hk32 : k = 32 := by omega
      subst hk32
      gi_wp2
      go_end0
      exact ⟨⟨_, rfl⟩, .inl ⟨_, rfl, hJk⟩⟩
end Go.Proofs.YtknjjjenklfeoaaGreatDoor

/-
  What the rounds of a loop over one of the program's iterators keep.
-/
namespace Go.Proofs.YtknjjjenklfeoaaGreatDoor
open Go.RowKit Go.Shelf
attribute [local go_sem ↓] loadVar_clus storeVar_clus zeroValue_clus loadVar_tab storeVar_tab zeroValue_tab loadVar_cnt storeVar_cnt zeroValue_cnt loadVar_head storeVar_head zeroValue_head build_head buildSlice_clus loadVar_wr storeVar_wr zeroValue_wr build_wr buildSlice_wr equalIn_clus loadVar_place storeVar_place zeroValue_place build_place
attribute [local go_sem] run_loadClus run_storeClus run_zeroClus run_storeClus_new run_loadClus_new zc_length run_loadTab run_storeTab run_zeroTab run_storeTab_new run_loadTab_new zt_length run_loadCnt run_storeCnt run_zeroCnt run_storeCnt_new run_loadCnt_new zk_length run_loadHead run_storeHead run_zeroHead run_storeHead_new run_bHead HasAt_drew cellsAt_drew HasAt_drewN cellsAt_drewN run_bsClus run_loadWr run_zeroWr run_storeWr run_storeWr_new run_bWr0 run_bsWr run_loadPlace run_storePlace run_zeroPlace run_storePlace_new run_bPlace
attribute [local go_sem] field_head1 field_head0 Oper.semAt_some
theorem cv_inj {a b : List UInt8} (h : cv a = cv b) : a = b := by
  unfold cv at h
  refine List.map_inj_right (fun x y hxy => ?_) |>.1 h
  injection hxy with _ h2
  exact UInt8.toNat_inj.1 (by omega)
theorem flatC_inj : ∀ {A B : List Clus}, (∀ c ∈ A, c.length = 64) → (∀ c ∈ B, c.length = 64) → flatC A = flatC B → A = B
  | [], [], _, _, _ => rfl
  | [], b :: r, _, hB, h => by
    have h1 := hB b (by simp)
    have := congrArg List.length h
    simp [flatC, cv_length, h1] at this
    omega
  | a :: r, [], hA, _, h => by
    have h1 := hA a (by simp)
    have := congrArg List.length h
    simp [flatC, cv_length, h1] at this
  | a :: r, b :: q, hA, hB, h => by
    have h1 := hA a (by simp)
    have h2 := hB b (by simp)
    simp only [flatC, List.flatMap_cons] at h
    have h3 := List.append_inj h (by rw [cv_length, cv_length, h1, h2])
    rw [cv_inj h3.1, flatC_inj (fun c hc => hA c (by simp [hc])) (fun c hc => hB c (by simp [hc])) h3.2]
theorem flatW_inj : ∀ {A B : List WrR}, (∀ c ∈ A, c.data.length = 64) → (∀ c ∈ B, c.data.length = 64) → flatW A = flatW B → A = B
  | [], [], _, _, _ => rfl
  | [], b :: r, _, _, h => by
    have := congrArg List.length h
    simp [flatW, wrCells] at this
  | a :: r, [], _, _, h => by
    have := congrArg List.length h
    simp [flatW, wrCells] at this
  | a :: r, b :: q, hA, hB, h => by
    have h1 := hA a (by simp)
    have h2 := hB b (by simp)
    simp only [flatW, List.flatMap_cons] at h
    have h3 := List.append_inj h (by rw [wrCells_length h1, wrCells_length h2])
    have h4 := h3.1
    simp only [wrCells, List.cons.injEq] at h4
    have h5 : a = b := by
      obtain ⟨ac, ad⟩ := a
      obtain ⟨bc, bd⟩ := b
      have e1 := h4.1
      injection e1 with _ e1
      have e2 := cv_inj h4.2
      dsimp only at e1 e2
      rw [e1, e2]
    rw [h5, flatW_inj (fun c hc => hA c (by simp [hc])) (fun c hc => hB c (by simp [hc])) h3.2]
theorem row_unique {w : World} {b1 b2 : Nat} {e : TypeId} {size : Nat} {v : Value} {n1 n2 : Nat} {xs ys : List Value} (h1 : w.ownsRow b1 e size v n1 xs) (h2 : w.ownsRow b2 e size v n2 ys) : n1 = n2 ∧ xs = ys := by
  obtain ⟨a1, c1, e1⟩ := row_form h1
  obtain ⟨a2, c2, e2⟩ := row_form h2
  rw [e1] at e2
  injection e2 with e3 e4 e5
  subst e4
  refine ⟨rfl, ?_⟩
  rcases h1.2 with ⟨f1, f2⟩ | ⟨g, cap, cur, rfl, _, hh, _, _, _, ht⟩
  · have := h1.1; have h22 := h2.1
    rw [f2, Nat.zero_mul] at this h22
    rw [List.length_eq_zero_iff.1 this, List.length_eq_zero_iff.1 h22]
  · rcases h2.2 with ⟨f1, f2⟩ | ⟨g', cap', cur', e', _, hh', _, _, _, ht'⟩
    · cases f1
    · injection e' with x1 _ _
      injection x1 with x1
      injection x1 with x1 _ _
      subst x1
      rw [hh] at hh'
      simp only [Option.some.injEq, Obj.cells.injEq] at hh'
      rw [← ht, ← ht', hh'.1]
theorem VolAt.unique {w : World} {v : Nat} {C1 L1 C2 L2 : Value} {V1 V2 : VolR} (h : VolAt w v C1 L1 V1) (k : VolAt w v C2 L2 V2) : C1 = C2 ∧ L1 = L2 ∧ V1 = V2 := by
  have hb := h.blk
  rw [k.blk] at hb
  simp only [volCells, Option.some.injEq, Obj.cells.injEq, Array.mk.injEq, List.cons.injEq, Value.bool.injEq, and_true] at hb
  obtain ⟨e1, e2, e3⟩ := hb
  subst e1
  subst e2
  have a1 := flatC_inj h.lenC k.lenC (row_unique h.rowC k.rowC).2
  have a2 := flatW_inj h.lenL k.lenL (row_unique h.rowL k.rowL).2
  obtain ⟨c, l, o, s⟩ := V1
  obtain ⟨c', l', o', s'⟩ := V2
  dsimp only at a1 a2 e3
  obtain ⟨e3, e4⟩ := e3
  subst a1
  subst a2
  subst e3
  subst e4
  exact ⟨rfl, rfl, rfl⟩

/-- A round keeps what is the program's own: the volume but for R, all cells but the volume's and those of X, and what is no cells and of Y. -/
def KeepV (X Y : Nat → Prop) (v : Nat) (R : VolR → VolR → Prop) (A B : World) : Prop :=
  A.heap.size ≤ B.heap.size ∧ (∀ k o, A.heap[k]? = some o → o.isCells = false → Y k → B.heap[k]? = some o) ∧ ∀ C1 L1 V1, VolAt A v C1 L1 V1 → ∃ C2 L2 V2, VolAt B v C2 L2 V2 ∧ R V1 V2 ∧
    (∀ k o, A.heap[k]? = some o → o.isCells = true → ¬ X k → ¬ foot v C1 L1 k → B.heap[k]? = some o) ∧ (∀ k, k < A.heap.size → foot v C2 L2 k → foot v C1 L1 k)
theorem VolAt.cells {w : World} {v : Nat} {C1 L1 : Value} {V1 : VolR} (hV : VolAt w v C1 L1 V1) {k : Nat} (hf : foot v C1 L1 k) : ∃ o, w.heap[k]? = some o ∧ o.isCells = true := by
  rcases hf with rfl | e | e
  · exact ⟨_, hV.blk, rfl⟩
  · rcases hV.rowC.2 with ⟨rfl, _⟩ | ⟨g', cap, cur, rfl, _, hh, _⟩
    · cases e
    · simp only [Value.ownBlock, Option.some.injEq] at e; subst e; exact ⟨_, hh, rfl⟩
  · rcases hV.rowL.2 with ⟨rfl, _⟩ | ⟨g', cap, cur, rfl, _, hh, _⟩
    · cases e
    · simp only [Value.ownBlock, Option.some.injEq] at e; subst e; exact ⟨_, hh, rfl⟩
theorem VolAt.notCells {w : World} {v : Nat} {C1 L1 : Value} {V1 : VolR} (hV : VolAt w v C1 L1 V1) {k : Nat} {o : Obj} (ho : w.heap[k]? = some o) (hc : o.isCells = false) : ¬ foot v C1 L1 k := by
  intro hf
  obtain ⟨q, hq, hqc⟩ := hV.cells hf
  rw [ho] at hq
  injection hq with hq
  subst hq
  rw [hc] at hqc
  cases hqc
section
variable {X Y : Nat → Prop} {v : Nat} {R : VolR → VolR → Prop}
theorem KeepV.trans (hR : ∀ a b c, R a b → R b c → R a c) {A B C : World} (h : KeepV X Y v R A B) (k : KeepV X Y v R B C) : KeepV X Y v R A C := by
  refine ⟨Nat.le_trans h.1 k.1, fun i o hi hc hy => k.2.1 i o (h.2.1 i o hi hc hy) hc hy, fun C1 L1 V1 hV => ?_⟩
  obtain ⟨C2, L2, V2, hV2, r2, o2, f2⟩ := h.2.2 C1 L1 V1 hV
  obtain ⟨C3, L3, V3, hV3, r3, o3, f3⟩ := k.2.2 C2 L2 V2 hV2
  exact ⟨C3, L3, V3, hV3, hR _ _ _ r2 r3, fun i o hi hc hx hf => o3 i o (o2 i o hi hc hx hf) hc hx (fun hf2 => hf (f2 i (blk_lt hi) hf2)), fun i hi hf => f2 i hi (f3 i (Nat.lt_of_lt_of_le hi h.1) hf)⟩
theorem KeepV.turn (hR : ∀ a, R a a) (W : World) (l : Nat) (o o' : Obj) (hl : W.heap[l]? = some o) (ho : o.isCells = false) (hy : ¬ Y l) : KeepV X Y v R W (W.putObj l o') := by
  have hg := grownBy_putObj' W l o'
  have hk : Kept (fun k => k = l) W (W.putObj l o') := ⟨hg.os, hg.tape, hg.output, hg.size, fun k hk hs => hg.block k hk (fun e => hs (by injection e))⟩
  refine ⟨hk.size, fun k q hq _ hyk => hk.blk (by rintro rfl; exact hy hyk) hq, fun C1 L1 V1 hV => ?_⟩
  have hn : ∀ k q, W.heap[k]? = some q → q.isCells = true → ¬ (k = l) := by
    rintro k q hq hc rfl
    rw [hl] at hq
    injection hq with hq
    subst hq
    rw [ho] at hc
    cases hc
  have hf : ∀ k, foot v C1 L1 k → ¬ (k = l) := by
    intro k hf
    obtain ⟨q, hq, hqc⟩ := hV.cells hf
    exact hn k q hq hqc
  exact ⟨C1, L1, V1, hV.kept hk hf, hR _, fun k q hq hc _ _ => hk.blk (hn k q hq hc) hq, fun _ _ hf => hf⟩
/-- A step on the volume, and what the body wrote of its own. -/
theorem KeepV.of {A B : World} {C1 L1 C2 L2 : Value} {V1 V2 : VolR} (h : VolAt A v C1 L1 V1) (hB : VolAt B v C2 L2 V2) (hs : A.heap.size ≤ B.heap.size) (r : R V1 V2)
    (y : ∀ k o, A.heap[k]? = some o → o.isCells = false → Y k → B.heap[k]? = some o)
    (o : ∀ k o, A.heap[k]? = some o → o.isCells = true → ¬ X k → ¬ foot v C1 L1 k → B.heap[k]? = some o) (f : ∀ k, k < A.heap.size → foot v C2 L2 k → foot v C1 L1 k) : KeepV X Y v R A B := by
  refine ⟨hs, y, fun C1' L1' V1' hV => ?_⟩
  obtain ⟨rfl, rfl, rfl⟩ := h.unique hV
  exact ⟨C2, L2, V2, hB, r, o, f⟩
theorem KeepV.step {A B : World} {C1 L1 C2 L2 : Value} {V1 V2 : VolR} (h : VolAt A v C1 L1 V1) (hs : VStep A B v C1 L1 C2 L2 V2) (r : R V1 V2) : KeepV X Y v R A B :=
  KeepV.of h hs.at' hs.kept.size r (fun _ _ ho hc _ => hs.kept.blk (h.notCells ho hc) ho) (fun _ _ ho _ _ hf => hs.kept.blk hf ho) (fun k hk hf => (hs.new k hf).elim id (by omega))
theorem KeepV.own {A B : World} {C1 L1 : Value} {V1 : VolR} (h : VolAt A v C1 L1 V1) {S : Nat → Prop} (hk : Kept S A B) (hS : ∀ k, S k → X k ∧ ¬ foot v C1 L1 k ∧ ∃ o, A.heap[k]? = some o ∧ o.isCells = true) (r : R V1 V1) : KeepV X Y v R A B :=
  KeepV.of h (h.kept hk (fun k hf hs => (hS k hs).2.1 hf)) hk.size r (fun k o ho hc _ => hk.blk (fun hs => by
    obtain ⟨q, hq, hqc⟩ := (hS k hs).2.2
    rw [ho] at hq
    injection hq with hq
    subst hq
    rw [hc] at hqc
    cases hqc) ho) (fun k _ ho _ hx _ => hk.blk (fun hs => hx (hS k hs).1) ho) (fun _ _ hf => hf)
theorem KeepV.below (hR : ∀ a, R a a) {A B : World} (h : Below A.heap.size A B) : KeepV X Y v R A B :=
  ⟨h.size, fun k _ ho _ _ => (h.block k (blk_lt ho)).trans ho, fun C1 L1 V1 hV => ⟨C1, L1, V1, hV.below h, hR _, fun k _ ho _ _ _ => (h.block k (blk_lt ho)).trans ho, fun _ _ hf => hf⟩⟩
theorem KeepV.weak {Y' : Nat → Prop} {A B : World} (h : KeepV X Y v R A B) (hy : ∀ k, Y' k → Y k) : KeepV X Y' v R A B := ⟨h.1, fun k o ho hc hy' => h.2.1 k o ho hc (hy k hy'), h.2.2⟩
/-- A box of an iterator's own, beside the volume as it is now. -/
structure Beside (X : Nat → Prop) (v b : Nat) (o : Obj) (P : VolR → Prop) (W : World) : Prop where
  vol : ∃ C1 L1 V1, VolAt W v C1 L1 V1 ∧ P V1 ∧ ¬ foot v C1 L1 b
  box : W.heap[b]? = some o
  cells : o.isCells = true
  free : ¬ X b
theorem Beside.keep {b : Nat} {o : Obj} {P : VolR → Prop} (hP : ∀ a b, P a → R a b → P b) {A B : World} (h : Beside X v b o P A) (k : KeepV X Y v R A B) : Beside X v b o P B := by
  obtain ⟨C1, L1, V1, hV, hp, hf⟩ := h.vol
  obtain ⟨C2, L2, V2, hV2, r, o2, f2⟩ := k.2.2 C1 L1 V1 hV
  exact ⟨⟨C2, L2, V2, hV2, hP _ _ hp r, fun hf2 => hf (f2 b (blk_lt h.box) hf2)⟩, o2 b o h.box h.cells h.free hf, h.cells, h.free⟩
theorem Beside.below {b : Nat} {o : Obj} {P : VolR → Prop} {A B : World} (h : Beside X v b o P A) (k : Below A.heap.size A B) : Beside X v b o P B := by
  obtain ⟨C1, L1, V1, hV, hp, hf⟩ := h.vol
  exact ⟨⟨C1, L1, V1, hV.below k, hp, hf⟩, (k.block b (blk_lt h.box)).trans h.box, h.cells, h.free⟩
theorem Beside.turned {b : Nat} {o : Obj} {P : VolR → Prop} {W W' : World} {row : Option Nat} (h : Beside X v b o P W) (hg : W.grownBy W' row) (hr : ∀ r, row = some r → ∃ o : Obj, W.heap[r]? = some o ∧ o.isCells = false) : Beside X v b o P W' := by
  obtain ⟨C1, L1, V1, hV, hp, hf⟩ := h.vol
  have hk : Kept (fun k => row = some k) W W' := ⟨hg.os, hg.tape, hg.output, hg.size, fun k hk hs => hg.block k hk (fun e => hs e.symm)⟩
  have hn : ∀ k q, W.heap[k]? = some q → q.isCells = true → ¬ (row = some k) := by
    intro k q hq hc e
    obtain ⟨q', hq', hc'⟩ := hr k e
    rw [hq] at hq'
    injection hq' with hq'
    subst hq'
    rw [hc] at hc'
    cases hc'
  refine ⟨⟨C1, L1, V1, hV.kept hk (fun k hf' => ?_), hp, hf⟩, hk.blk (hn b o h.box h.cells) h.box, h.cells, h.free⟩
  obtain ⟨q, hq, hqc⟩ := hV.cells hf'
  exact hn k q hq hqc
end
end Go.Proofs.YtknjjjenklfeoaaGreatDoor

/-
  The program's iterators: their makers, and the words of two of them.
-/
namespace Go.Proofs.YtknjjjenklfeoaaGreatDoor
open Go.RowKit Go.Shelf
attribute [local go_sem ↓] loadVar_clus storeVar_clus zeroValue_clus loadVar_tab storeVar_tab zeroValue_tab loadVar_cnt storeVar_cnt zeroValue_cnt loadVar_head storeVar_head zeroValue_head build_head buildSlice_clus loadVar_wr storeVar_wr zeroValue_wr build_wr buildSlice_wr equalIn_clus loadVar_place storeVar_place zeroValue_place build_place
attribute [local go_sem] run_loadClus run_storeClus run_zeroClus run_storeClus_new run_loadClus_new zc_length run_loadTab run_storeTab run_zeroTab run_storeTab_new run_loadTab_new zt_length run_loadCnt run_storeCnt run_zeroCnt run_storeCnt_new run_loadCnt_new zk_length run_loadHead run_storeHead run_zeroHead run_storeHead_new run_bHead HasAt_drew cellsAt_drew HasAt_drewN cellsAt_drewN run_bsClus run_loadWr run_zeroWr run_storeWr run_storeWr_new run_bWr0 run_bsWr run_loadPlace run_storePlace run_zeroPlace run_storePlace_new run_bPlace
attribute [local go_sem] field_head1 field_head0 Oper.semAt_some
theorem numbers_make (w : World) (v table : Nat) : Calls Tryz.prog 172 #[.pointer (some ⟨v, 0, none⟩), .int .i64 (table : Nat)] w fun e w' =>
    e = .returned (.func (.func 182) #[] #[.pointer (some ⟨w.heap.size, 0, none⟩), .pointer (some ⟨w.heap.size + 1, 0, none⟩)]) ∧ w' = (w.alloc (.cells #[.pointer (some ⟨v, 0, none⟩)] 82)).alloc (.cells #[.int .i64 (table : Nat)] 3) := by
  go_enter Tryz.func172, Tryz.ntmps172
  go_wp2
  go_ret
  exact ⟨rfl, rfl⟩
theorem firsts_make (w : World) (v : Nat) : Calls Tryz.prog 150 #[.pointer (some ⟨v, 0, none⟩)] w fun e w' =>
    e = .returned (.func (.func 173) #[] #[.pointer (some ⟨w.heap.size, 0, none⟩)]) ∧ w' = w.alloc (.cells #[.pointer (some ⟨v, 0, none⟩)] 82) := by
  go_enter Tryz.func150, Tryz.ntmps150
  go_wp2
  go_ret
  exact ⟨rfl, rfl⟩
def NumsOK (Pc : Nat → Prop) (C : List Clus) (t : Nat) : Prop := ∀ i, OKN Pc ((numsOf (cl C t)).getD i 0)
def spots {Pc : Nat → Prop} (V : VolR) (t : Nat) (hT : NumsOK Pc V.C t) : List (SpotR Pc) := spotsTo t (numsOf (cl V.C t)) hT 32 (Nat.le_refl _)
theorem yield_mono {F : Fence} {m : Nat} {P : Program} {l : Nat} {args : Array Value} {W : World} {R R' : Ending → World → Prop} (h : YieldAt F m P l args W R) (hr : ∀ e w, R e w → R' e w) : YieldAt F m P l args W R' := by
  obtain ⟨fn, tmps, assign, body, hy, hR⟩ := h
  exact ⟨fn, tmps, assign, body, hy, hR.mono hr⟩

theorem numbers_stops {Pc : Nat → Prop} (n : Nat) (hn : 3 ≤ n) (X Y : Nat → Prop) (R : VolR → VolR → Prop) (v bv bt table : Nat) (V : VolR) (Cv Lv : Value) (w : World) (hV : VolAt w v Cv Lv V)
    (hbv : w.heap[bv]? = some (.cells #[.pointer (some ⟨v, 0, none⟩)] 82 (0, 0))) (hbt : w.heap[bt]? = some (.cells #[.int .i64 (table : Nat)] 3 (0, 0))) (hX : ¬ X bt) (hf : ¬ foot v Cv Lv bt) (ht : table < V.C.length)
    (hT : NumsOK Pc V.C table) :
    SeqStopsK Fence.wide n Tryz.prog 182 #[.pointer (some ⟨bv, 0, none⟩), .pointer (some ⟨bt, 0, none⟩)] (fun s : SpotR Pc => #[spotVal s]) (KeepV X Y v R) (fun ys => ys = spots V table hT) (fun pre => pre <+: spots V table hT) 32 w :=
  fun l J Jx W hW hJ _ hY h0 =>
    numbers1_in n hn l bv bt v table V J Jx (Beside X v bt (.cells #[.int .i64 (table : Nat)] 3 (0, 0)) (fun _ => True)) hT
      (fun pre x W1 hJ1 hl => yield_mono (hY pre x W1 hJ1 hl) (by
        rintro e W' (⟨a, b, c⟩ | h)
        · exact Or.inl ⟨a, b, fun hp => hp.keep (fun _ _ _ _ => trivial) c⟩
        · exact Or.inr h))
      (fun W1 hp => (cell_blk hp.box 0).trans rfl) (fun _ _ hp hb => hp.below hb) W hJ
      ⟨⟨Cv, Lv, V, hV.below hW, trivial, hf⟩, (hW.block bt (blk_lt hbt)).trans hbt, rfl, hX⟩ ((cell_blk ((hW.block bv (blk_lt hbv)).trans hbv) 0).trans rfl) Cv Lv (hV.below hW) ht h0

abbrev U256 := { n : Nat // n < 256 }
/-- The clusters that some numbers tell. -/
def toldBy (ns : List Nat) : List Nat := (ns.filter (· != 0)).map (· % 32768)

end Go.Proofs.YtknjjjenklfeoaaGreatDoor

/-
  A loop over an iterator whose own body holds a loop over another: all of its rounds go on.
-/
namespace Go.Proofs.YtknjjjenklfeoaaGreatDoor
open Go.RowKit Go.Shelf
attribute [local go_sem ↓] loadVar_clus storeVar_clus zeroValue_clus loadVar_tab storeVar_tab zeroValue_tab loadVar_cnt storeVar_cnt zeroValue_cnt loadVar_head storeVar_head zeroValue_head build_head buildSlice_clus loadVar_wr storeVar_wr zeroValue_wr build_wr buildSlice_wr equalIn_clus loadVar_place storeVar_place zeroValue_place build_place
attribute [local go_sem] run_loadClus run_storeClus run_zeroClus run_storeClus_new run_loadClus_new zc_length run_loadTab run_storeTab run_zeroTab run_storeTab_new run_loadTab_new zt_length run_loadCnt run_storeCnt run_zeroCnt run_storeCnt_new run_loadCnt_new zk_length run_loadHead run_storeHead run_zeroHead run_storeHead_new run_bHead HasAt_drew cellsAt_drew HasAt_drewN cellsAt_drewN run_bsClus run_loadWr run_zeroWr run_storeWr run_storeWr_new run_bWr0 run_bsWr run_loadPlace run_storePlace run_zeroPlace run_storePlace_new run_bPlace
attribute [local go_sem] field_head1 field_head0 Oper.semAt_some
/-- The iterator's word, where every round goes on: what the rounds carry may be whatever abides turns of what is no cells, from the call's beginning on. -/
def SeqAll {α : Type} (n gf : Nat) (lb : Array Value) (encs : α → Array Value) (Kp : World → World → Prop) (S : List α → Prop) (N B : Nat) (w : World) : Prop :=
  ∀ (l : Nat) (J : List α → World → Prop) (W : World), Below w.heap.size w W → B ≤ W.heap.size → OwnFrom W.heap.size J →
    (∀ pre x W1, J pre W1 → pre.length < N → YieldAt Fence.wide (n - 1) Tryz.prog l (encs x) W1 fun e W' => e = .returned (.bool true) ∧ J (pre ++ [x]) W' ∧ Kp W1 W') →
    J [] W → CallsIn Fence.wide n Tryz.prog gf (#[.func (.yield l) #[] #[]] ++ lb) W fun e W' => (∃ v, e = .returned v) ∧ ∃ xs, S xs ∧ J xs W'

theorem ownFrom_up {β : Type} {B C : Nat} {I : β → World → Prop} (h : OwnFrom B I) (hc : B ≤ C) : OwnFrom C I := fun s W W' row hs hg hr => h s W W' row hs hg (fun r e => ⟨Nat.le_trans hc (hr r e).1, (hr r e).2⟩)
theorem blk_turn {W W' : World} {row : Option Nat} {B k : Nat} {o : Obj} (hg : W.grownBy W' row) (hr : ∀ r, row = some r → B ≤ r ∧ ∃ o : Obj, W.heap[r]? = some o ∧ o.isCells = false) (hk : W.heap[k]? = some o) (hlt : k < B) : W'.heap[k]? = some o := by
  rw [hg.block k (blk_lt hk) (fun e => by have := (hr k e.symm).1; omega)]; exact hk

section
variable {α : Type} {g : Operand} {ps : Array Tmp} {assign body : Code} {Q : Exit → Act → World → Prop} {a : Act} {w : World} {n : Nat}
/-- The record of a loop, as it is between two rounds or within one. -/
def recOf (fn : FuncId) (a : Act) (ps : Array Tmp) (assign body : Code) (d : Nat) (st : LoopState) : Loop := { state := st, pending := none, fn := fn, tmps := a.tmps, params := ps, assign := assign, body := body, defers := d }
structure Booked (fn : FuncId) (a : Act) (ps : Array Tmp) (assign body : Code) (d : Nat) (st : LoopState) (W : World) : Prop where
  rcd : W.heap[d + 1]? = some (.loop (recOf fn a ps assign body d st))
  def' : W.heap[d]? = some (.deferred (some []))
theorem Booked.keep {fn : FuncId} {d : Nat} {st : LoopState} {W W' : World} (h : Booked fn a ps assign body d st W) (hk : KeepsFrom d W W') : Booked fn a ps assign body d st W' :=
  ⟨hk.same _ _ (by omega) h.rcd rfl, hk.same _ _ (Nat.le_refl _) h.def' rfl⟩
theorem Booked.turn {fn : FuncId} {d : Nat} {st st' : LoopState} {W : World} (h : Booked fn a ps assign body d st W) : Booked fn a ps assign body d st' (W.putObj (d + 1) (.loop (recOf fn a ps assign body d st'))) :=
  ⟨World.putObj_heap_same (blk_lt h.rcd), (World.putObj_heap_other (by omega)).trans h.def'⟩

theorem range_all (h1 : 1 ≤ n) {gf : Nat} {lb : Array Value} (hg : a.eval g = .func (.func gf) #[] lb) (eg : ∀ args w, (callFunc gf args).run Tryz.prog w = .ok (.enter gf args) w)
    {encs : α → Array Value} {Kp : World → World → Prop} {S : List α → Prop} {N : Nat} {w0 : World} (hseq : SeqAll (n - 1) gf lb encs Kp S N (w.heap.size + 2) w0)
    (hKt : ∀ A B C : World, Kp A B → Kp B C → Kp A C) (hKb : ∀ (W : World) (o o' : Obj), W.heap[w.heap.size + 1]? = some o → o.isCells = false → Kp W (W.putObj (w.heap.size + 1) o')) (hb0 : Below w0.heap.size w0 w) (hps : ∀ x, (encs x).size = ps.size)
    (I : List α → World → Prop) (hI : OwnFrom w.heap.size I) (h0 : I [] w) (Ax : α → Act → World → Prop) (hAx : ∀ x a', OwnFrom w.heap.size (fun (_ : Unit) W => Ax x a' W))
    (hassign : ∀ (l : Nat) (pre : List α) (x : α) (W : World) (K : Act → World → Prop), I pre W → (∀ a' W', KeepsFrom w.heap.size W W' → Kp W W' → I pre W' → Ax x a' W' → K a' W') →
      assign.wpIn (Fence.wide.inRound l) (n - 1 - 1) Tryz.prog (Exit.then K (fun _ _ _ => False)) { tmps := (ps.zip (encs x)).foldl (fun t (p, v) => t.setIfInBounds p v) a.tmps, defers := [] } W)
    (hbody : ∀ (l : Nat) (pre : List α) (x : α) (a' : Act) (W : World), w.heap.size ≤ l → (∃ r, W.heap[l]? = some (.loop r)) → I pre W → Ax x a' W → pre.length < N → body.wpIn (Fence.wide.inRound l) (n - 1 - 1) Tryz.prog (fun e _ W' => e = .normal ∧ KeepsFrom w.heap.size W W' ∧ Kp W W' ∧ I (pre ++ [x]) W') a' W)
    (hdone : ∀ (D : Nat) (xs : List α) (W : World), w.heap.size ≤ D → S xs → I xs W → W.heap[D]? = some (.deferred (some [])) → Q .normal { a with defers := { target := .collected D, args := #[] } :: a.defers } W) :
    (Code.rangeFunc g ps assign body).wpIn Fence.wide n Tryz.prog Q a w := by
  refine wpIn_rangeFunc fun fn hfn => ?_
  let d := w.heap.size
  let W1 := (w.alloc (.deferred (some []))).alloc (.loop (recOf fn a ps assign body d .ready))
  have hB1 : Booked fn a ps assign body d .ready W1 :=
    ⟨by have := heap_alloc_new (w.alloc (.deferred (some []))) (.loop (recOf fn a ps assign body d .ready)); rwa [World.size_alloc] at this, (Below.heap_alloc _ _ _ (by simp [d])).trans (heap_alloc_new w _)⟩
  have hI1 : I [] W1 := hI.alloc _ (hI.alloc _ h0)
  have hsz : W1.heap.size = d + 2 := by simp [W1, d]
  have hw1 : Below w0.heap.size w0 W1 := hb0.trans ((((Below.refl _ w).alloc (Nat.le_refl _) _).alloc (by simp) _).mono hb0.size)
  refine ⟨d + 1, [{ target := .collected d, args := #[] }], W1, { target := .fn (.func gf) lb, args := #[.func (.yield (d + 1)) #[] #[]] }, W1, gf, #[.func (.yield (d + 1)) #[] #[]] ++ lb, W1,
    run_enterLoop_outer _ _ _ _ _, ?_, fun _ _ => trivial, ?_, fun _ => h1, ?_⟩
  · simp only [resolve, hg]; simp [go_sem]
  · simp [invoke, go_sem, eg]
  have hJ : OwnFrom W1.heap.size (fun (pre : List α) W => I pre W ∧ Booked fn a ps assign body d .ready W) := fun s A B row hs hg' hr =>
    ⟨hI s A B row hs.1 hg' (fun r e => ⟨by have := (hr r e).1; omega, (hr r e).2⟩), blk_turn hg' hr hs.2.rcd (by omega), blk_turn hg' hr hs.2.def' (by omega)⟩
  refine (hseq (d + 1) (fun pre W => I pre W ∧ Booked fn a ps assign body d .ready W) W1 hw1 (by omega) hJ ?_ ⟨hI1, hB1⟩).mono ?_
  · rintro pre x W ⟨hi, hb⟩ hlen
    refine ⟨fn, _, assign, body, run_yield hb.rcd (hps x), roundIn_of_wpIn hfn (hassign (d + 1) pre x W _ hi fun a' Wa hkf hkp hia hax => ?_)⟩
    have hba := hb.keep hkf
    refine ⟨_, run_beginRound hba.rcd rfl, ?_⟩
    have hbb : Booked fn a ps assign body d .busy (Wa.putObj (d + 1) (.loop (recOf fn a ps assign body d .busy))) := hba.turn
    have hkb : Kp Wa (Wa.putObj (d + 1) (.loop (recOf fn a ps assign body d .busy))) := hKb _ _ _ hba.rcd rfl
    refine wpIn_mono (hbody (d + 1) pre x a' _ (by omega) ⟨_, hbb.rcd⟩ (hI.putObj _ hia (by omega) hba.rcd rfl) ((hAx x a').putObj (s := ()) _ hax (by omega) hba.rcd rfl) hlen) ?_
    rintro e a3 W3 ⟨rfl, hkf3, hkp3, hi3⟩
    have hb3 := hbb.keep hkf3
    have hb4 : Booked fn a ps assign body d .ready (W3.putObj (d + 1) (.loop (recOf fn a ps assign body d .ready))) := hb3.turn
    exact ⟨_, _, run_endRound none hb3.rcd, rfl, ⟨hI.putObj _ hi3 (by omega) hb3.rcd rfl, hb4⟩, hKt _ _ _ hkp (hKt _ _ _ hkb (hKt _ _ _ hkp3 (hKb _ _ _ hb3.rcd rfl)))⟩
  · rintro e W2 ⟨⟨v, rfl⟩, xs, hS, hi, hb⟩
    exact ⟨none, _, run_endLoop hb.rcd (by simp [recOf]), hdone d xs _ (Nat.le_refl _) hS (hI.putObj _ hi (by omega) hb.rcd rfl) ((World.putObj_heap_other (by omega)).trans hb.def')⟩
end
end Go.Proofs.YtknjjjenklfeoaaGreatDoor

/-
  The program's iterator over a first table and its second tables.
-/
namespace Go.Proofs.YtknjjjenklfeoaaGreatDoor
open Go.RowKit Go.Shelf
attribute [local go_sem ↓] loadVar_clus storeVar_clus zeroValue_clus loadVar_tab storeVar_tab zeroValue_tab loadVar_cnt storeVar_cnt zeroValue_cnt loadVar_head storeVar_head zeroValue_head build_head buildSlice_clus loadVar_wr storeVar_wr zeroValue_wr build_wr buildSlice_wr equalIn_clus loadVar_place storeVar_place zeroValue_place build_place
attribute [local go_sem] run_loadClus run_storeClus run_zeroClus run_storeClus_new run_loadClus_new zc_length run_loadTab run_storeTab run_zeroTab run_storeTab_new run_loadTab_new zt_length run_loadCnt run_storeCnt run_zeroCnt run_storeCnt_new run_loadCnt_new zk_length run_loadHead run_storeHead run_zeroHead run_storeHead_new run_bHead HasAt_drew cellsAt_drew HasAt_drewN cellsAt_drewN run_bsClus run_loadWr run_zeroWr run_storeWr run_storeWr_new run_bWr0 run_bsWr run_loadPlace run_storePlace run_zeroPlace run_storePlace_new run_bPlace
attribute [local go_sem] field_head1 field_head0 Oper.semAt_some
/-- The same numbers but for marks; the head, the counts and the list the same. -/
structure SameNum (V1 V2 : VolR) : Prop where
  len : V2.C.length = V1.C.length
  low : ∀ t, t < 6 → cl V2.C t = cl V1.C t
  zero : ∀ t i, i < 32 → (num (cl V2.C t) (2 * i) = 0 ↔ num (cl V1.C t) (2 * i) = 0)
  same : ∀ t i, i < 32 → num (cl V2.C t) (2 * i) % 32768 = num (cl V1.C t) (2 * i) % 32768
theorem SameNum.refl (V : VolR) : SameNum V V := ⟨rfl, fun _ _ => rfl, fun _ _ _ => Iff.rfl, fun _ _ _ => rfl⟩
theorem SameNum.trans {A B C : VolR} (h : SameNum A B) (k : SameNum B C) : SameNum A C :=
  ⟨k.len.trans h.len, fun t ht => (k.low t ht).trans (h.low t ht), fun t i hi => (k.zero t i hi).trans (h.zero t i hi), fun t i hi => (k.same t i hi).trans (h.same t i hi)⟩
theorem toldBy_cons (n : Nat) (ns : List Nat) : toldBy (n :: ns) = (if n = 0 then [] else [n % 32768]) ++ toldBy ns := by
  unfold toldBy
  by_cases h : n = 0
  · simp [h]
  · simp [h]
theorem toldBy_congr : ∀ {A B : List Nat}, A.length = B.length → (∀ i, i < A.length → (A.getD i 0 = 0 ↔ B.getD i 0 = 0) ∧ A.getD i 0 % 32768 = B.getD i 0 % 32768) → toldBy A = toldBy B
  | [], [], _, _ => rfl
  | [], _ :: _, h, _ => by simp at h
  | _ :: _, [], h, _ => by simp at h
  | a :: r, b :: q, h, hs => by
    rw [toldBy_cons, toldBy_cons]
    have h1 := hs 0 (by simp)
    simp only [List.getD_cons_zero] at h1
    have h2 := toldBy_congr (A := r) (B := q) (by simpa using h) (fun i hi => by have := hs (i + 1) (by simp; omega); simpa using this)
    rw [h2]
    congr 1
    by_cases h0 : a = 0
    · rw [if_pos h0, if_pos (h1.1.1 h0)]
    · rw [if_neg h0, if_neg (fun e => h0 (h1.1.2 e)), h1.2]
theorem SameNum.told {A B : VolR} (h : SameNum A B) (t : Nat) : toldBy (numsOf (cl B.C t)) = toldBy (numsOf (cl A.C t)) := by
  refine toldBy_congr (by rw [numsOf_length, numsOf_length]) (fun i hi => ?_)
  rw [numsOf_length] at hi
  rw [numsOf_get _ _ hi, numsOf_get _ _ hi]
  exact ⟨h.zero t i hi, h.same t i hi⟩
theorem SameNum.ok {A B : VolR} (h : SameNum A B) {Pc : Nat → Prop} {t : Nat} (hT : NumsOK Pc A.C t) : NumsOK Pc B.C t := by
  intro i
  by_cases hi : i < 32
  · have h1 := (hT i).2
    rw [numsOf_get _ _ hi] at h1 ⊢
    exact ⟨num_lt _ _, fun h0 => by rw [h.same t i hi]; exact h1 (fun e => h0 ((h.zero t i hi).2 e))⟩
  · rw [List.getD_eq_getElem?_getD, List.getElem?_eq_none (by rw [numsOf_length]; omega)]
    exact ⟨by decide, fun e => absurd rfl e⟩
theorem spots_told {Pc : Nat → Prop} (t : Nat) (T : List Nat) (hT : ∀ i, OKN Pc (T.getD i 0)) (hl : T.length = 32) : ∀ k hk, (spotsTo t T hT k hk).map (fun s => s.number % 32768) = toldBy (T.take k)
  | 0, _ => rfl
  | k + 1, hk => by
    have ih := spots_told t T hT hl k (by omega)
    have hlt : k < T.length := by omega
    have hg : T.getD k 0 = T[k] := by rw [List.getD_eq_getElem?_getD, List.getElem?_eq_getElem hlt]; rfl
    have ht : toldBy (T.take (k + 1)) = toldBy (T.take k) ++ (if T.getD k 0 = 0 then [] else [T.getD k 0 % 32768]) := by
      rw [List.take_succ_eq_append_getElem hlt, hg]
      unfold toldBy
      rw [List.filter_append, List.map_append]
      congr 1
      by_cases h : T[k] = 0
      · simp [h]
      · simp [h]
    rw [ht]
    by_cases h0 : T.getD k 0 = 0
    · rw [spotsTo_zero t T hT k hk h0, ih, if_pos h0, List.append_nil]
    · rw [spotsTo_some t T hT k hk h0, List.map_append, ih, if_neg h0]; rfl
def tabsOf (V : VolR) (first : Nat) : List Nat := first :: toldBy (numsOf (cl V.C first))

/-- Boxes of a call's own, beside the volume as it is now. -/
structure Besides (X : Nat → Prop) (v : Nat) (bs : List (Nat × Obj)) (P : VolR → Prop) (W : World) : Prop where
  vol : ∃ C1 L1 V1, VolAt W v C1 L1 V1 ∧ P V1 ∧ ∀ x ∈ bs, ¬ foot v C1 L1 x.1
  box : ∀ x ∈ bs, W.heap[x.1]? = some x.2
  cells : ∀ x ∈ bs, x.2.isCells = true
  free : ∀ x ∈ bs, ¬ X x.1
section
variable {X Y : Nat → Prop} {v : Nat} {R : VolR → VolR → Prop} {bs : List (Nat × Obj)} {P : VolR → Prop}
theorem Besides.keep (hP : ∀ a b, P a → R a b → P b) {A B : World} (h : Besides X v bs P A) (k : KeepV X Y v R A B) : Besides X v bs P B := by
  obtain ⟨C1, L1, V1, hV, hp, hf⟩ := h.vol
  obtain ⟨C2, L2, V2, hV2, r, o2, f2⟩ := k.2.2 C1 L1 V1 hV
  exact ⟨⟨C2, L2, V2, hV2, hP _ _ hp r, fun x hx hf2 => hf x hx (f2 x.1 (blk_lt (h.box x hx)) hf2)⟩, fun x hx => o2 x.1 x.2 (h.box x hx) (h.cells x hx) (h.free x hx) (hf x hx), h.cells, h.free⟩
theorem Besides.below {A B : World} (h : Besides X v bs P A) (k : Below A.heap.size A B) : Besides X v bs P B := by
  obtain ⟨C1, L1, V1, hV, hp, hf⟩ := h.vol
  exact ⟨⟨C1, L1, V1, hV.below k, hp, hf⟩, fun x hx => (k.block x.1 (blk_lt (h.box x hx))).trans (h.box x hx), h.cells, h.free⟩
theorem Besides.lay {A : World} (h : Besides X v bs P A) (o : Obj) (ho : o.isCells = true) (hx : ¬ X A.heap.size) : Besides X v ((A.heap.size, o) :: bs) P (A.alloc o) := by
  have h2 := h.below ((Below.refl _ A).alloc (Nat.le_refl _) o)
  obtain ⟨C1, L1, V1, hV, hp, hf⟩ := h.vol
  refine ⟨⟨C1, L1, V1, hV.alloc o, hp, fun x hx => ?_⟩, fun x hx => ?_, fun x hx => ?_, fun x hx => ?_⟩
  · rcases List.mem_cons.1 hx with rfl | hx
    · intro hf'; have := hV.foot_lt _ hf'; simp at this
    · exact hf x hx
  · rcases List.mem_cons.1 hx with rfl | hx
    · exact heap_alloc_new A o
    · exact h2.box x hx
  · rcases List.mem_cons.1 hx with rfl | hx
    · exact ho
    · exact h.cells x hx
  · rcases List.mem_cons.1 hx with rfl | hx
    · assumption
    · exact h.free x hx
theorem Besides.sub {cs : List (Nat × Obj)} {W : World} (h : Besides X v bs P W) (hs : ∀ x ∈ cs, x ∈ bs) : Besides X v cs P W := by
  obtain ⟨C1, L1, V1, hV, hp, hf⟩ := h.vol
  exact ⟨⟨C1, L1, V1, hV, hp, fun x hx => hf x (hs x hx)⟩, fun x hx => h.box x (hs x hx), fun x hx => h.cells x (hs x hx), fun x hx => h.free x (hs x hx)⟩
theorem Besides.b0 {W : World} {b : Nat} {o : Obj} (h : Besides X v ((b, o) :: bs) P W) : W.heap[b]? = some o := h.box (b, o) (by simp)
theorem Besides.b1 {W : World} {a b : Nat} {p o : Obj} (h : Besides X v ((a, p) :: (b, o) :: bs) P W) : W.heap[b]? = some o := h.box (b, o) (by simp)
theorem Besides.b2 {W : World} {a b c : Nat} {p q o : Obj} (h : Besides X v ((a, p) :: (c, q) :: (b, o) :: bs) P W) : W.heap[b]? = some o := h.box (b, o) (by simp)
theorem Besides.turned {W W' : World} {row : Option Nat} (h : Besides X v bs P W) (hg : W.grownBy W' row) (hr : ∀ r, row = some r → ∃ o : Obj, W.heap[r]? = some o ∧ o.isCells = false) : Besides X v bs P W' := by
  obtain ⟨C1, L1, V1, hV, hp, hf⟩ := h.vol
  have hk : Kept (fun k => row = some k) W W' := ⟨hg.os, hg.tape, hg.output, hg.size, fun k hk hs => hg.block k hk (fun e => hs e.symm)⟩
  have hn : ∀ k q, W.heap[k]? = some q → q.isCells = true → ¬ (row = some k) := by
    intro k q hq hc e
    obtain ⟨q', hq', hc'⟩ := hr k e
    rw [hq] at hq'
    injection hq' with hq'
    subst hq'
    rw [hc] at hc'
    cases hc'
  refine ⟨⟨C1, L1, V1, hV.kept hk (fun k hf' => ?_), hp, hf⟩, fun x hx => hk.blk (hn _ _ (h.box x hx) (h.cells x hx)) (h.box x hx), h.cells, h.free⟩
  obtain ⟨q, hq, hqc⟩ := hV.cells hf'
  exact hn k q hq hqc
end

abbrev UM (Pc : Nat → Prop) := { m : Nat // Pc m }
theorem room_any {F : Fence} (hd : F.depth = none) (k : Nat) : F.room k := fun d h => by rw [hd] at h; cases h
theorem yield_deep {m m' : Nat} {l : Nat} {args : Array Value} {W : World} {R : Ending → World → Prop} (h : YieldAt Fence.wide m Tryz.prog l args W R) : YieldAt Fence.wide m' Tryz.prog l args W R := by
  obtain ⟨fn, tmps, assign, body, hy, hf, hR⟩ := h
  exact ⟨fn, tmps, assign, body, hy, hf, fun c cs _ => hR c cs (room_any rfl _)⟩

end Go.Proofs.YtknjjjenklfeoaaGreatDoor
