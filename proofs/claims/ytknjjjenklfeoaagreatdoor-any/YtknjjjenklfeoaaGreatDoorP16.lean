import Derived.Test.YtknjjjenklfeoaaGreatDoorP15
import Derived.Test.YtknjjjenklfeoaaGreatDoorP14
import Derived.Test.YtknjjjenklfeoaaGreatDoorP06
/-
  The program's Write: the volume's, the disk's.
-/
namespace Go.Proofs.YtknjjjenklfeoaaGreatDoor
open Go.RowKit
attribute [local go_sem ↓] loadVar_clus storeVar_clus zeroValue_clus loadVar_tab storeVar_tab zeroValue_tab loadVar_cnt storeVar_cnt zeroValue_cnt loadVar_head storeVar_head zeroValue_head build_head buildSlice_clus loadVar_wr storeVar_wr zeroValue_wr build_wr buildSlice_wr equalIn_clus loadVar_place storeVar_place zeroValue_place build_place
attribute [local go_sem] run_loadClus run_storeClus run_zeroClus run_storeClus_new run_loadClus_new zc_length run_loadTab run_storeTab run_zeroTab run_storeTab_new run_loadTab_new zt_length run_loadCnt run_storeCnt run_zeroCnt run_storeCnt_new run_loadCnt_new zk_length run_loadHead run_storeHead run_zeroHead run_storeHead_new run_bHead HasAt_drew cellsAt_drew HasAt_drewN cellsAt_drewN run_bsClus run_loadWr run_zeroWr run_storeWr run_storeWr_new run_bWr0 run_bsWr run_loadPlace run_storePlace run_zeroPlace run_storePlace_new run_bPlace
attribute [local go_sem] field_head1 field_head0
def placeOf (V : VolR) (n : Int) : PlaceR := findR V.C (num (cl V.C 0) 6) n.toNat
end Go.Proofs.YtknjjjenklfeoaaGreatDoor

/-
  The program's Write: the disk's.
-/
namespace Go.Proofs.YtknjjjenklfeoaaGreatDoor
open Go.RowKit
attribute [local go_sem ↓] loadVar_clus storeVar_clus zeroValue_clus loadVar_tab storeVar_tab zeroValue_tab loadVar_cnt storeVar_cnt zeroValue_cnt loadVar_head storeVar_head zeroValue_head build_head buildSlice_clus loadVar_wr storeVar_wr zeroValue_wr build_wr buildSlice_wr equalIn_clus loadVar_place storeVar_place zeroValue_place build_place
attribute [local go_sem] run_loadClus run_storeClus run_zeroClus run_storeClus_new run_loadClus_new zc_length run_loadTab run_storeTab run_zeroTab run_storeTab_new run_loadTab_new zt_length run_loadCnt run_storeCnt run_zeroCnt run_storeCnt_new run_loadCnt_new zk_length run_loadHead run_storeHead run_zeroHead run_storeHead_new run_bHead HasAt_drew cellsAt_drew HasAt_drewN cellsAt_drewN run_bsClus run_loadWr run_zeroWr run_storeWr run_storeWr_new run_bWr0 run_bsWr run_loadPlace run_storePlace run_zeroPlace run_storePlace_new run_bPlace
end Go.Proofs.YtknjjjenklfeoaaGreatDoor

/-
  Plain: what is put and flushed. The log leads to the file, and ends with a flush where nothing is loose.
-/
namespace Go.Proofs.YtknjjjenklfeoaaGreatDoor
open Go.RowKit

/-- V' comes of V by clusters put, and by flushes. -/
def putsOne (V : VolR) : Option (Nat × Clus) → VolR
  | some x => putV V x.1 x.2
  | none => flushV V
def putsAll (V : VolR) (l : List (Option (Nat × Clus))) : VolR := l.foldl putsOne V
def Puts (V V' : VolR) : Prop := ∃ l, V' = putsAll V l
theorem Puts.refl (V : VolR) : Puts V V := ⟨[], rfl⟩
theorem Puts.put {V V1 : VolR} (h : Puts V V1) (n : Nat) (data : Clus) : Puts V (putV V1 n data) := by
  obtain ⟨l, rfl⟩ := h
  exact ⟨l ++ [some (n, data)], by simp [putsAll, putsOne]⟩
theorem Puts.flush {V V1 : VolR} (h : Puts V V1) : Puts V (flushV V1) := by
  obtain ⟨l, rfl⟩ := h
  exact ⟨l ++ [none], by simp [putsAll, putsOne]⟩
theorem Puts.trans {V V1 V2 : VolR} (h : Puts V V1) (k : Puts V1 V2) : Puts V V2 := by
  obtain ⟨l, rfl⟩ := h
  obtain ⟨m, rfl⟩ := k
  exact ⟨l ++ m, by simp [putsAll]⟩
/-- What every put and every flush keeps. -/
theorem Puts.keeps {V V' : VolR} (k : Puts V V') (Ok : VolR → Prop) (hp : ∀ V n d, Ok V → Ok (putV V n d)) (hf : ∀ V, Ok V → Ok (flushV V)) (h : Ok V) : Ok V' := by
  obtain ⟨l, rfl⟩ := k
  unfold putsAll
  induction l generalizing V with
  | nil => exact h
  | cons x r ih =>
    refine ih ?_
    cases x with
    | none => exact hf _ h
    | some y => exact hp _ _ _ h

/-- The log leads from base to the file. -/
structure Logged (base : List Clus) (V : VolR) : Prop where
  some : V.short = true → 0 < V.C.length
  rep : replay base V.L = V.C
  low : ∀ x ∈ V.L, x.cl < (V.C.length : Int)
  tail : V.loose = false → V.L = [] ∨ ∃ l, V.L = l ++ [flushW]
theorem replay_snoc (base : List Clus) (L : List WrR) (x : WrR) : replay base (L ++ [x]) = replayOne (replay base L) x := by simp [replay]
theorem set_same (C : List Clus) (n : Nat) (h : n < C.length) : C.set n (cl C n) = C := by
  apply List.ext_getElem?
  intro i
  rw [List.getElem?_set]
  by_cases e : n = i
  · subst e
    rw [if_pos rfl, if_pos h, cl, List.getD_eq_getElem?_getD, List.getElem?_eq_getElem h]
    rfl
  · rw [if_neg e]
theorem growTo_none (C : List Clus) (n : Nat) (h : n ≤ C.length) : growTo C n = C := by
  unfold growTo
  rw [show n - C.length = 0 by omega]
  simp
theorem Logged.complete {base : List Clus} {V : VolR} (h : Logged base V) : Logged base (completeV V) := by
  unfold completeV
  by_cases hs : V.short = true
  · have hp := h.some hs
    rw [if_pos hs]
    refine ⟨fun e => (by cases e), ?_, fun x hx => ?_, fun e => (by cases e)⟩
    · show replay base (V.L ++ [⟨((V.C.length - 1 : Nat) : Int), cl V.C (V.C.length - 1)⟩]) = V.C
      rw [replay_snoc, h.rep, replayOne, if_neg (by simp)]
      show (growTo V.C (((V.C.length - 1 : Nat) : Int).toNat + 1)).set ((V.C.length - 1 : Nat) : Int).toNat (cl V.C (V.C.length - 1)) = V.C
      rw [Int.toNat_natCast, growTo_none _ _ (by omega), set_same _ _ (by omega)]
    · rcases List.mem_append.1 (show x ∈ V.L ++ [⟨((V.C.length - 1 : Nat) : Int), cl V.C (V.C.length - 1)⟩] from hx) with y | y
      · exact h.low x y
      · rw [List.mem_singleton.1 y]
        show ((V.C.length - 1 : Nat) : Int) < (V.C.length : Int)
        omega
  · rw [if_neg hs]; exact h
theorem Logged.put {base : List Clus} {V : VolR} (h : Logged base V) (n : Nat) (data : Clus) : Logged base (putV V n data) := by
  unfold putV
  by_cases hc : n < V.C.length ∧ cl V.C n = data
  · rw [if_pos hc]; exact h
  · rw [if_neg hc]
    have hC := h.complete
    have el : (putW V n data).C.length = max V.C.length (n + 1) := by simp only [putW, List.length_set, growTo_length]
    refine ⟨fun e => (by cases e), ?_, fun x hx => ?_, fun hl => (by cases hl)⟩
    rotate_left
    · have hx' : x ∈ (completeV V).L ++ [⟨n, data⟩] := hx
      rw [el]
      rcases List.mem_append.1 hx' with y | y
      · have := hC.low x y
        rw [completeV_C] at this
        omega
      · rw [List.mem_singleton.1 y]; show ((n : Nat) : Int) < _; omega
    show replay base ((completeV V).L ++ [⟨n, data⟩]) = _
    rw [replay_snoc, hC.rep, completeV_C, replayOne, if_neg (by simp)]
    rfl
theorem Logged.flush {base : List Clus} {V : VolR} (h : Logged base V) : Logged base (flushV V) := by
  unfold flushV
  by_cases hc : V.loose = true
  · rw [if_pos hc]
    refine ⟨h.some, ?_, fun x hx => ?_, fun _ => Or.inr ⟨V.L, rfl⟩⟩
    rotate_left
    · rcases List.mem_append.1 (show x ∈ V.L ++ [flushW] from hx) with y | y
      · exact h.low x y
      · rw [List.mem_singleton.1 y]; show (-1 : Int) < _; omega
    show replay base (V.L ++ [flushW]) = _
    rw [replay_snoc, h.rep, replayOne, if_pos (by decide)]
  · rw [if_neg hc]; exact h
theorem Logged.puts {base : List Clus} {V V' : VolR} (h : Logged base V) (k : Puts V V') : Logged base V' :=
  k.keeps (Logged base) (fun _ n d h => h.put n d) (fun _ h => h.flush) h
theorem flushV_loose (V : VolR) : (flushV V).loose = false := by
  unfold flushV
  by_cases hc : V.loose = true
  · rw [if_pos hc]
  · rw [if_neg hc]; simpa using hc

theorem puts_putCnt {V V1 : VolR} (h : Puts V V1) (k : List UInt8) (p : Nat) : Puts V (putCnt V1 k p) := by
  induction p with
  | zero => exact h
  | succ p ih => exact ih.put _ _
theorem puts_lengthen {V V1 : VolR} (h : Puts V V1) (F : List Nat) : Puts V (lengthenV V1 F) := by
  unfold lengthenV
  split
  · exact (h.put _ _).flush
  · exact h
theorem puts_renum {V V1 : VolR} (h : Puts V V1) (ch : Nat → Nat) (ts : List Nat) : Puts V (renumV ch V1 ts) := by
  unfold renumV
  induction ts generalizing V1 with
  | nil => exact h
  | cons t r ih => exact ih (h.put _ _)
theorem puts_lone {V V1 : VolR} (h : Puts V V1) (k : List UInt8) (fs : List Nat) : Puts V (loneV k V1 fs) := by
  unfold loneV
  induction fs generalizing V1 with
  | nil => exact h
  | cons f r ih => exact ih (puts_renum h _ _)
theorem puts_letGo {V V1 : VolR} (h : Puts V V1) (us : List Nat) : Puts V (letGoV V1 us) := (puts_lone (puts_putCnt h _ 4).flush _ _).flush
theorem puts_new : Puts vol0 newV := (((((puts_putCnt (Puts.refl vol0) _ 4).put _ _).put _ _).flush).put _ _).flush
theorem logged_vol0 : Logged [] vol0 := ⟨fun e => (by cases e), rfl, fun x hx => (by cases hx), fun _ => Or.inl rfl⟩
theorem logged_new : Logged [] newV := logged_vol0.puts puts_new
theorem new_loose : newV.loose = false := flushV_loose _
end Go.Proofs.YtknjjjenklfeoaaGreatDoor

/-
  Plain: what a file tells, as lists of numbers with their kinds; where such a list is in order, the reader goes through it and counts it.
-/
namespace Go.Proofs.YtknjjjenklfeoaaGreatDoor

abbrev Tells := List (Nat × Nat)
/-- What a second table t tells, from its k-th number on, m of them. -/
def inTells (L : List Clus) (t : Nat) : Nat → Nat → Tells
  | 0, _ => []
  | m + 1, k => (if num (cl L t) (2 * k) = 0 then [] else [(num (cl L t) (2 * k) % 32768, 3)]) ++ inTells L t m (k + 1)
/-- What a first table t tells, from its i-th number on, m of them. -/
def outTells (L : List Clus) (t : Nat) : Nat → Nat → Tells
  | 0, _ => []
  | m + 1, i => (if num (cl L t) (2 * i) = 0 then [] else (num (cl L t) (2 * i) % 32768, 2) :: inTells L (num (cl L t) (2 * i) % 32768) 32 0) ++ outTells L t m (i + 1)
def treeTells (L : List Clus) (t : Nat) : Tells := (t, 1) :: outTells L t 32 0

/-- Tellings in order: in the file, of one kind each, a first table once. -/
structure OkT (L : List Clus) (ts : Tells) : Prop where
  lo : ∀ x ∈ ts, 6 ≤ x.1 ∧ x.1 < L.length ∧ x.2 ≠ 0
  kind : ∀ x ∈ ts, ∀ y ∈ ts, x.1 = y.1 → x.2 = y.2
  once : ∀ n, ts.count (n, 1) ≤ 1
theorem OkT.pre {L : List Clus} {a b : Tells} (h : OkT L (a ++ b)) : OkT L a :=
  ⟨fun x hx => h.lo x (by simp [hx]), fun x hx y hy => h.kind x (by simp [hx]) y (by simp [hy]), fun n => by have := h.once n; rw [List.count_append] at this; omega⟩

/-- The reader's record behind the tellings ts. -/
structure Told (L : List Clus) (rs : List RootR) (b : Int) (base : Nat → Nat) (ts : Tells) (R : FileR) : Prop where
  hL : R.L = L
  hR : R.roots = rs
  hB : R.bad = b
  tl : R.told.length = 256
  ul : R.used.length = 256
  told : ∀ x ∈ ts, R.told.getD x.1 0 = x.2
  none : ∀ n, (∀ x ∈ ts, x.1 ≠ n) → R.told.getD n 0 = 0
  used : ∀ n, n < 256 → R.used.getD n 0 = base n + (ts.map (·.1)).count n

theorem getD_setN (T : List Nat) (k n i : Nat) (hk : k < T.length) : (T.set k n).getD i 0 = if k = i then n else T.getD i 0 := by
  rw [List.getD_eq_getElem?_getD, List.getElem?_set]
  by_cases h : k = i
  · subst h; rw [if_pos rfl, if_pos hk, if_pos rfl]; rfl
  · rw [if_neg h, if_neg h, List.getD_eq_getElem?_getD]

theorem Told.step {L : List Clus} {rs : List RootR} {b : Int} {base : Nat → Nat} {ts : Tells} {R : FileR} (h : Told L rs b base ts R) (hLL : L.length ≤ 256) (n kind at' : Nat) (ok : OkT L (ts ++ [(n, kind)])) :
    (tell R n kind at').1 = true ∧ Told L rs b base (ts ++ [(n, kind)]) (tell R n kind at').2 := by
  obtain ⟨h6, hn, hk0⟩ := ok.lo (n, kind) (by simp)
  simp only at h6 hn hk0
  have hno : noTell R n kind = false := by
    have e1 : decide (n < 6) = false := by simp; omega
    have e2 : decide (R.L.length ≤ n) = false := by rw [h.hL]; simp; omega
    unfold noTell
    rw [e1, e2, Bool.false_or, Bool.false_or]
    by_cases hx : ∃ x ∈ ts, x.1 = n
    · obtain ⟨x, hx, he⟩ := hx
      have h1 := h.told x hx
      rw [he] at h1
      have h2 := ok.kind x (by simp [hx]) (n, kind) (by simp) he
      simp only at h2
      rw [h1, h2]
      have h3 : kind ≠ 1 := by
        intro hk
        have h4 := ok.once n
        rw [List.count_append, hk] at h4
        have h5 : 0 < ts.count (n, 1) := by
          rw [List.count_pos_iff]
          have : x = (n, 1) := by rw [← he, ← hk, ← h2]
          rw [← this]; exact hx
        simp at h4
        omega
      simp [h3]
    · have h1 := h.none n (fun x hx' e => hx ⟨x, hx', e⟩)
      rw [h1]; rfl
  unfold tell
  rw [hno]
  refine ⟨rfl, ⟨h.hL, h.hR, h.hB, by simp [h.tl], by simp [h.ul], ?_, ?_, ?_⟩⟩
  · intro x hx
    show (R.told.set n kind).getD x.1 0 = x.2
    rw [getD_setN _ _ _ _ (by rw [h.tl]; omega)]
    by_cases e : n = x.1
    · rw [if_pos e]
      exact ok.kind (n, kind) (by simp) x hx e
    · rw [if_neg e]
      rcases List.mem_append.1 hx with y | y
      · exact h.told x y
      · exact absurd (by rw [List.mem_singleton.1 y]) e
  · intro m hm
    show (R.told.set n kind).getD m 0 = 0
    rw [getD_setN _ _ _ _ (by rw [h.tl]; omega), if_neg (hm (n, kind) (by simp))]
    exact h.none m (fun x hx => hm x (by simp [hx]))
  · intro m hm
    show (R.used.set n (R.used.getD n 0 + 1)).getD m 0 = _
    rw [getD_setN _ _ _ _ (by rw [h.ul]; omega), List.map_append, List.count_append]
    by_cases e : n = m
    · subst e
      rw [if_pos rfl, h.used n hm]
      simp
      omega
    · rw [if_neg e, h.used m hm]
      simp [e]

theorem treeIn_told {L : List Clus} {rs : List RootR} {b : Int} {base : Nat → Nat} (hLL : L.length ≤ 256) (t : Nat) : ∀ (m k : Nat) (ts : Tells) (R : FileR), Told L rs b base ts R → OkT L (ts ++ inTells L t m k) →
    (treeIn t m k R).1 = true ∧ Told L rs b base (ts ++ inTells L t m k) (treeIn t m k R).2
  | 0, _, ts, R, h, _ => ⟨rfl, by rw [inTells, List.append_nil]; exact h⟩
  | m + 1, k, ts, R, h, ok => by
    by_cases h0 : num (cl R.L t) (2 * k) = 0
    · rw [treeIn_zero _ _ _ _ h0]
      have h0' : num (cl L t) (2 * k) = 0 := by rw [← h.hL]; exact h0
      have e : inTells L t (m + 1) k = inTells L t m (k + 1) := by rw [inTells, if_pos h0']; rfl
      rw [e] at ok ⊢
      exact treeIn_told hLL t m (k + 1) ts R h ok
    · have h0' : ¬ num (cl L t) (2 * k) = 0 := by rw [← h.hL]; exact h0
      have e : ts ++ inTells L t (m + 1) k = (ts ++ [(num (cl L t) (2 * k) % 32768, 3)]) ++ inTells L t m (k + 1) := by rw [inTells, if_neg h0', List.append_assoc]
      rw [e] at ok ⊢
      obtain ⟨h1, h2⟩ := h.step hLL (num (cl L t) (2 * k) % 32768) 3 t ok.pre
      rw [treeIn_yes _ _ _ _ h0 (by rw [h.hL]; exact h1), h.hL]
      exact treeIn_told hLL t m (k + 1) _ _ h2 ok

theorem treeOut_told {L : List Clus} {rs : List RootR} {b : Int} {base : Nat → Nat} (hLL : L.length ≤ 256) (t : Nat) (hz : ∀ i, 1 < i → i < 32 → num (cl L t) (2 * i) = 0) : ∀ (m i : Nat) (ts : Tells) (R : FileR), i + m ≤ 32 → Told L rs b base ts R → OkT L (ts ++ outTells L t m i) →
    (treeOut t m i R).1 = true ∧ Told L rs b base (ts ++ outTells L t m i) (treeOut t m i R).2
  | 0, _, ts, R, _, h, _ => ⟨rfl, by rw [outTells, List.append_nil]; exact h⟩
  | m + 1, i, ts, R, hm, h, ok => by
    rw [treeOut, h.hL]
    by_cases h0 : num (cl L t) (2 * i) = 0
    · rw [if_pos h0]
      have e : outTells L t (m + 1) i = outTells L t m (i + 1) := by rw [outTells, if_pos h0]; rfl
      rw [e] at ok ⊢
      exact treeOut_told hLL t hz m (i + 1) ts R (by omega) h ok
    · have hi : ¬ 1 < i := fun hi => h0 (hz i hi (by omega))
      have e : ts ++ outTells L t (m + 1) i = ((ts ++ [(num (cl L t) (2 * i) % 32768, 2)]) ++ inTells L (num (cl L t) (2 * i) % 32768) 32 0) ++ outTells L t m (i + 1) := by
        rw [outTells, if_neg h0]; simp
      rw [e] at ok ⊢
      obtain ⟨h1, h2⟩ := h.step hLL (num (cl L t) (2 * i) % 32768) 2 t ok.pre.pre
      obtain ⟨h3, h4⟩ := treeIn_told hLL (num (cl L t) (2 * i) % 32768) 32 0 _ _ h2 ok.pre
      rw [if_neg h0, if_neg hi, if_pos h1, if_pos h3]
      exact treeOut_told hLL t hz m (i + 1) _ _ (by omega) h4 ok

theorem tree_told {L : List Clus} {rs : List RootR} {b : Int} {base : Nat → Nat} (hLL : L.length ≤ 256) (r : RootR) (hz : ∀ i, 1 < i → i < 32 → num (cl L r.N) (2 * i) = 0) (ts : Tells) (R : FileR) (h : Told L rs b base ts R) (ok : OkT L (ts ++ treeTells L r.N)) :
    (tree R r).1 = true ∧ Told L rs b base (ts ++ treeTells L r.N) (tree R r).2 := by
  have e : ts ++ treeTells L r.N = (ts ++ [(r.N, 1)]) ++ outTells L r.N 32 0 := by rw [treeTells]; simp
  rw [e] at ok ⊢
  obtain ⟨h1, h2⟩ := h.step hLL r.N 1 r.At ok.pre
  unfold tree
  rw [if_pos h1]
  exact treeOut_told hLL r.N hz 32 0 _ _ (by omega) h2 ok

/-- All that the first tables rs tell, from the i-th on, m of them. -/
def allTells (L : List Clus) (rs : List RootR) : Nat → Nat → Tells
  | 0, _ => []
  | m + 1, i => treeTells L (rs.getD i ⟨0, 0, []⟩).N ++ allTells L rs m (i + 1)
theorem treesFrom_told {L : List Clus} {rs : List RootR} {b : Int} {base : Nat → Nat} (hLL : L.length ≤ 256) (hz : ∀ r ∈ rs, ∀ i, 1 < i → i < 32 → num (cl L r.N) (2 * i) = 0) : ∀ (m i : Nat) (ts : Tells) (R : FileR), i + m ≤ rs.length → Told L rs b base ts R → OkT L (ts ++ allTells L rs m i) →
    (treesFrom m i R).1 = true ∧ Told L rs b base (ts ++ allTells L rs m i) (treesFrom m i R).2
  | 0, _, ts, R, _, h, _ => ⟨rfl, by rw [allTells, List.append_nil]; exact h⟩
  | m + 1, i, ts, R, hm, h, ok => by
    have hr : rootOf R i = rs.getD i ⟨0, 0, []⟩ := by unfold rootOf; rw [h.hR]
    have hmem : rs.getD i ⟨0, 0, []⟩ ∈ rs := by
      rw [List.getD_eq_getElem?_getD, List.getElem?_eq_getElem (by omega)]
      exact List.getElem_mem _
    have e : ts ++ allTells L rs (m + 1) i = (ts ++ treeTells L (rs.getD i ⟨0, 0, []⟩).N) ++ allTells L rs m (i + 1) := by rw [allTells, List.append_assoc]
    rw [e] at ok ⊢
    obtain ⟨h1, h2⟩ := tree_told hLL (rs.getD i ⟨0, 0, []⟩) (hz _ hmem) ts R h ok.pre
    rw [treesFrom, hr, if_pos h1]
    exact treesFrom_told hLL hz m (i + 1) _ _ (by omega) h2 ok
theorem countsFrom_good {R : FileR} : ∀ (m n : Nat), (∀ j, n ≤ j → j < n + m → badCount R j = false) → countsFrom R m n = -1
  | 0, _, _ => rfl
  | m + 1, n, h => by
    rw [countsFrom, h n (by omega) (by omega)]
    exact countsFrom_good m (n + 1) (fun j h1 h2 => h j (by omega) (by omega))
end Go.Proofs.YtknjjjenklfeoaaGreatDoor

/-
  Plain: an exact file, said of its tables and counts; the reader finds it sound and exact.
-/
namespace Go.Proofs.YtknjjjenklfeoaaGreatDoor

def base6 (n : Nat) : Nat := used6.getD n 0
theorem used6_length : used6.length = 256 := by kernel_rfl
theorem zeros256_length : zeros256.length = 256 := by kernel_rfl
theorem base6_eq (n : Nat) : base6 n = if n < 6 then 1 else 0 := by
  unfold base6
  by_cases h : n < 256
  · have : ∀ k : Fin 256, used6.getD k.val 0 = if k.val < 6 then 1 else 0 := by decide +kernel
    exact this ⟨n, h⟩
  · rw [List.getD_eq_getElem?_getD, List.getElem?_eq_none (by rw [used6_length]; omega), if_neg (by omega)]; rfl

theorem inTells_mem (L : List Clus) (t : Nat) : ∀ (m k j : Nat), k ≤ j → j < k + m → num (cl L t) (2 * j) ≠ 0 → (num (cl L t) (2 * j) % 32768, 3) ∈ inTells L t m k
  | 0, _, _, h1, h2, _ => by omega
  | m + 1, k, j, h1, h2, hj => by
    rw [inTells]
    by_cases e : j = k
    · subst e; rw [if_neg hj]; simp
    · exact List.mem_append.2 (Or.inr (inTells_mem L t m (k + 1) j (by omega) (by omega) hj))
theorem outTells_mem (L : List Clus) (t : Nat) : ∀ (m i j : Nat), i ≤ j → j < i + m → num (cl L t) (2 * j) ≠ 0 → ∀ x, (x = (num (cl L t) (2 * j) % 32768, 2) ∨ x ∈ inTells L (num (cl L t) (2 * j) % 32768) 32 0) → x ∈ outTells L t m i
  | 0, _, _, h1, h2, _, _, _ => by omega
  | m + 1, i, j, h1, h2, hj, x, hx => by
    rw [outTells]
    by_cases e : j = i
    · subst e; rw [if_neg hj]
      rcases hx with rfl | hx
      · simp
      · simp [hx]
    · exact List.mem_append.2 (Or.inr (outTells_mem L t m (i + 1) j (by omega) (by omega) hj x hx))
theorem allTells_mem (L : List Clus) (rs : List RootR) : ∀ (m i j : Nat), i ≤ j → j < i + m → ∀ x ∈ treeTells L (rs.getD j ⟨0, 0, []⟩).N, x ∈ allTells L rs m i
  | 0, _, _, h1, h2, _, _ => by omega
  | m + 1, i, j, h1, h2, x, hx => by
    rw [allTells]
    by_cases e : j = i
    · subst e; exact List.mem_append.2 (Or.inl hx)
    · exact List.mem_append.2 (Or.inr (allTells_mem L rs m (i + 1) j (by omega) (by omega) x hx))

/-- A number that is marked just where its cluster is used once. -/
def Right (L : List Clus) (x : Nat) : Prop := x ≠ 0 → (32768 ≤ x ↔ countOf L (x % 32768) = 1)
/-- The numbers of a tree are marked as they should be. -/
def RightTree (L : List Clus) (t : Nat) : Prop := ∀ i, i < 2 → Right L (num (cl L t) (2 * i)) ∧ (num (cl L t) (2 * i) ≠ 0 → ∀ k, k < 32 → Right L (num (cl L (num (cl L t) (2 * i) % 32768)) (2 * k)))

/-- Counts and marks are exact. -/
structure ExactL (L : List Clus) (rs : List RootR) : Prop where
  len : L.length ≤ 256
  six : 6 ≤ L.length
  ok : OkT L (allTells L rs rs.length 0)
  zero : ∀ r ∈ rs, ∀ i, 1 < i → i < 32 → num (cl L r.N) (2 * i) = 0
  cnt : ∀ n, n < 256 → countOf L n = base6 n + ((allTells L rs rs.length 0).map (·.1)).count n
  top : ∀ n, n < 256 → countOf L n < 255
  mark : ∀ i, i < rs.length → RightTree L (rs.getD i ⟨0, 0, []⟩).N

section
variable {L : List Clus} {rs : List RootR} {b : Int} {R : FileR}
theorem ExactL.used (h : ExactL L rs) (hT : Told L rs b base6 (allTells L rs rs.length 0) R) (n : Nat) (hn : n < 256) : R.used.getD n 0 = countOf R.L n := by
  rw [hT.used n hn, hT.hL, h.cnt n hn]
theorem ExactL.none (h : ExactL L rs) (n : Nat) (hn : n < 256) (hL : L.length ≤ n) : countOf L n = 0 := by
  rw [h.cnt n hn, base6_eq, if_neg (by have := h.six; omega), Nat.zero_add, List.count_eq_zero]
  intro hm
  obtain ⟨x, hx, rfl⟩ := List.mem_map.1 hm
  have := (h.ok.lo x hx).2.1
  omega
theorem ExactL.counts (h : ExactL L rs) (hT : Told L rs b base6 (allTells L rs rs.length 0) R) : countsFrom R 256 0 = -1 := by
  refine countsFrom_good 256 0 fun j _ hj => ?_
  have h1 := h.used hT j (by omega)
  have h2 := h.top j (by omega)
  unfold badCount usedOf
  rw [h1, hT.hL]
  have e1 : decide (countOf L j < countOf L j) = false := by simp
  have e2 : (countOf L j == 255) = false := by rw [beq_eq_false_iff_ne]; omega
  rw [e1, e2, Bool.and_false, Bool.false_or, Bool.false_or]
  by_cases hl : L.length ≤ j
  · rw [h.none j (by omega) hl]; simp
  · rw [decide_eq_false hl]; rfl
theorem right_not_bad (hu : ∀ n, n < 256 → R.used.getD n 0 = countOf R.L n) (x : Nat) (hx0 : x ≠ 0) (hx : x % 32768 < 256) (hr : Right R.L x) : markBad R x = false ∧ markNone R x = 0 := by
  have h := hr hx0
  have h1 := hu _ hx
  unfold markBad markNone
  by_cases hm : 32768 ≤ x
  · rw [if_pos hm, if_pos hm, h1, h.1 hm]; exact ⟨rfl, rfl⟩
  · rw [if_neg hm, if_neg hm, h1, if_neg (fun e => hm (h.2 e))]; exact ⟨rfl, rfl⟩
theorem markedIn_right (hu : ∀ n, n < 256 → R.used.getD n 0 = countOf R.L n) (t : Nat) (hx : ∀ k, k < 32 → num (cl R.L t) (2 * k) ≠ 0 → num (cl R.L t) (2 * k) % 32768 < 256 ∧ Right R.L (num (cl R.L t) (2 * k))) : ∀ (m k acc : Nat), k + m ≤ 32 → markedIn R t m k acc = some acc
  | 0, _, _, _ => rfl
  | m + 1, k, acc, hm => by
    rw [markedIn]
    by_cases h0 : num (cl R.L t) (2 * k) = 0
    · rw [if_pos h0]; exact markedIn_right hu t hx m (k + 1) acc (by omega)
    · obtain ⟨h1, h2⟩ := hx k (by omega) h0
      obtain ⟨h3, h4⟩ := right_not_bad hu _ h0 h1 h2
      rw [if_neg h0, h3, h4]
      exact markedIn_right hu t hx m (k + 1) _ (by omega)
theorem markedOut_right (hu : ∀ n, n < 256 → R.used.getD n 0 = countOf R.L n) (t : Nat) (hx : ∀ i, i < 2 → num (cl R.L t) (2 * i) ≠ 0 → num (cl R.L t) (2 * i) % 32768 < 256 ∧ Right R.L (num (cl R.L t) (2 * i)) ∧
    ∀ k, k < 32 → num (cl R.L (num (cl R.L t) (2 * i) % 32768)) (2 * k) ≠ 0 → num (cl R.L (num (cl R.L t) (2 * i) % 32768)) (2 * k) % 32768 < 256 ∧ Right R.L (num (cl R.L (num (cl R.L t) (2 * i) % 32768)) (2 * k))) : ∀ (m i acc : Nat), i + m ≤ 2 → markedOut R t m i acc = (-1, acc)
  | 0, _, _, _ => rfl
  | m + 1, i, acc, hm => by
    rw [markedOut]
    by_cases h0 : num (cl R.L t) (2 * i) = 0
    · rw [if_pos h0]; exact markedOut_right hu t hx m (i + 1) acc (by omega)
    · obtain ⟨h1, h2, h5⟩ := hx i (by omega) h0
      obtain ⟨h3, h4⟩ := right_not_bad hu _ h0 h1 h2
      rw [if_neg h0, h3, h4, Nat.add_zero, markedIn_right hu _ h5 32 0 acc (by omega)]
      exact markedOut_right hu t hx m (i + 1) acc (by omega)
theorem ExactL.marked (h : ExactL L rs) (hT : Told L rs b base6 (allTells L rs rs.length 0) R) (i : Nat) (hi : i < rs.length) : marked R (rootOf R i) = (-1, 0) := by
  have hu := fun n hn => h.used hT n hn
  have hr : rootOf R i = rs.getD i ⟨0, 0, []⟩ := by unfold rootOf; rw [hT.hR]
  unfold Go.Proofs.YtknjjjenklfeoaaGreatDoor.marked
  refine markedOut_right hu _ (fun j hj h0 => ?_) 2 0 0 (by omega)
  rw [hr] at h0 ⊢
  rw [hT.hL] at h0 ⊢
  have hm := h.mark i hi j hj
  have hin : ∀ x ∈ treeTells L (rs.getD i ⟨0, 0, []⟩).N, x.1 < 256 := fun x hx => by
    have := (h.ok.lo x (allTells_mem L rs rs.length 0 i (by omega) (by omega) x hx)).2.1
    have := h.len
    omega
  refine ⟨hin (_, 2) (List.mem_cons.2 (Or.inr (outTells_mem L _ 32 0 j (by omega) (by omega) h0 _ (Or.inl rfl)))), hm.1, fun k hk hy => ⟨?_, hm.2 h0 k hk⟩⟩
  exact hin (_, 3) (List.mem_cons.2 (Or.inr (outTells_mem L _ 32 0 j (by omega) (by omega) h0 _ (Or.inr (inTells_mem L _ 32 0 k (by omega) (by omega) hy)))))
theorem ExactL.marks (h : ExactL L rs) (hT : Told L rs b base6 (allTells L rs rs.length 0) R) : ∀ (m i : Nat), i + m ≤ rs.length → marksFrom R m i (-1) = -1
  | 0, _, _ => rfl
  | m + 1, i, hm => by
    rw [marksFrom, if_pos (by decide), h.marked hT i (by omega)]
    exact h.marks hT m (i + 1) (by omega)
theorem cntTo_zero (p : Nat → Bool) : ∀ k, (∀ j, j < k → p j = false) → cntTo p k = 0
  | 0, _ => rfl
  | k + 1, h => by rw [cntTo, cntTo_zero p k (fun j hj => h j (by omega)), h k (by omega)]; rfl
theorem ExactL.exact (h : ExactL L rs) (hT : Told L rs b base6 (allTells L rs rs.length 0) R) : exactB R = true := by
  have hu := fun n hn => h.used hT n hn
  have hl := h.len
  have e1 : cntTo (lostB R) R.L.length = 0 := cntTo_zero _ _ fun j hj => by
    unfold lostB
    rw [hu j (by rw [hT.hL] at hj; omega)]
    by_cases hc : countOf R.L j = 0
    · rw [hc]; rfl
    · rw [show (countOf R.L j == 0) = false by rw [beq_eq_false_iff_ne]; exact hc]; rfl
  have e2 : cntTo (overB R) R.L.length = 0 := cntTo_zero _ _ fun j hj => by
    unfold overB
    rw [hu j (by rw [hT.hL] at hj; omega)]
    simp
  have e3 : ∀ k, k ≤ rs.length → unmTo R k = 0 := by
    intro k
    induction k with
    | zero => intro _; rfl
    | succ k ih =>
      intro hk
      rw [unmTo, ih (by omega), h.marked hT k (by omega)]
      rfl
  unfold exactB stateOf
  simp only [e1, e2, hT.hR, e3 rs.length (Nat.le_refl _)]
  rfl

/-- Of a file whose head and list are good, and that is exact, the reader says so. -/
theorem look_exact {file : List Clus} (hh : headGood file = true) (hl : (listOf (R1of file)).1 = true) (hx : ExactL (R1of file).L (listOf (R1of file)).2) :
    (look file).bad = -1 ∧ (look file).L = (R1of file).L ∧ (look file).roots = (listOf (R1of file)).2 ∧ exactB (look file) = true ∧ Low 1000 (look file) := by
  have T0 : Told (R1of file).L (listOf (R1of file)).2 (-1) base6 [] (R2of file) :=
    ⟨rfl, rfl, rfl, zeros256_length, used6_length, fun x hx => by simp at hx, fun n _ => by
      show zeros256.getD n 0 = 0
      unfold zeros256
      rw [List.getD_eq_getElem?_getD, List.getElem?_replicate]
      split <;> rfl, fun n _ => rfl⟩
  obtain ⟨h1, h2⟩ := treesFrom_told hx.len hx.zero (listOf (R1of file)).2.length 0 [] (R2of file) (by omega) T0 hx.ok
  rw [List.nil_append] at h2
  have h1' : (R3of file).1 = true := h1
  have h2' : Told (R1of file).L (listOf (R1of file)).2 (-1) base6 (allTells (R1of file).L (listOf (R1of file)).2 (listOf (R1of file)).2.length 0) (R3of file).2 := h2
  have e : look file = { (R3of file).2 with bad := marksFrom (R3of file).2 (R3of file).2.roots.length 0 (countsFrom (R3of file).2 256 0) } := by
    unfold look
    rw [if_neg (by rw [hh]; decide), if_neg (by rw [hl]; decide), if_neg (by rw [h1']; decide)]
  clear h1 h2 T0 h1'
  generalize R3of file = Q at h2' e
  have h3 : Told (R1of file).L (listOf (R1of file)).2 (-1) base6 (allTells (R1of file).L (listOf (R1of file)).2 (listOf (R1of file)).2.length 0) (look file) := by
    rw [e, hx.counts h2', h2'.hR, hx.marks h2' _ 0 (by omega)]
    exact ⟨h2'.hL, h2'.hR, rfl, h2'.tl, h2'.ul, h2'.told, h2'.none, h2'.used⟩
  refine ⟨h3.hB, h3.hL, h3.hR, hx.exact h3, fun n => ?_⟩
  by_cases hn : n < 256
  · rw [hx.used h3 n hn, h3.hL]
    have := hx.top n hn
    omega
  · rw [List.getD_eq_getElem?_getD, List.getElem?_eq_none (by rw [h3.ul]; omega)]
    exact Nat.zero_le _
end
end Go.Proofs.YtknjjjenklfeoaaGreatDoor

/-
  Plain: a file that differs from an exact one in blocks alone is exact.
-/
namespace Go.Proofs.YtknjjjenklfeoaaGreatDoor

theorem first_told (L : List Clus) (rs : List RootR) (i : Nat) (hi : i < rs.length) : ((rs.getD i ⟨0, 0, []⟩).N, 1) ∈ allTells L rs rs.length 0 :=
  allTells_mem L rs rs.length 0 i (by omega) (by omega) _ (by unfold treeTells; simp)
theorem second_told (L : List Clus) (rs : List RootR) (i : Nat) (hi : i < rs.length) (j : Nat) (hj : j < 32) (h0 : num (cl L (rs.getD i ⟨0, 0, []⟩).N) (2 * j) ≠ 0) : (num (cl L (rs.getD i ⟨0, 0, []⟩).N) (2 * j) % 32768, 2) ∈ allTells L rs rs.length 0 :=
  allTells_mem L rs rs.length 0 i (by omega) (by omega) _ (List.mem_cons.2 (Or.inr (outTells_mem L _ 32 0 j (by omega) (by omega) h0 _ (Or.inl rfl))))
theorem block_told (L : List Clus) (rs : List RootR) (i : Nat) (hi : i < rs.length) (j : Nat) (hj : j < 32) (h0 : num (cl L (rs.getD i ⟨0, 0, []⟩).N) (2 * j) ≠ 0) (k : Nat) (hk : k < 32) (h1 : num (cl L (num (cl L (rs.getD i ⟨0, 0, []⟩).N) (2 * j) % 32768)) (2 * k) ≠ 0) :
    (num (cl L (num (cl L (rs.getD i ⟨0, 0, []⟩).N) (2 * j) % 32768)) (2 * k) % 32768, 3) ∈ allTells L rs rs.length 0 :=
  allTells_mem L rs rs.length 0 i (by omega) (by omega) _ (List.mem_cons.2 (Or.inr (outTells_mem L _ 32 0 j (by omega) (by omega) h0 _ (Or.inr (inTells_mem L _ 32 0 k (by omega) (by omega) h1)))))

end Go.Proofs.YtknjjjenklfeoaaGreatDoor

/-
  Plain: counts and numbers as bytes and back; letting nothing go leaves an exact volume as it is.
-/
namespace Go.Proofs.YtknjjjenklfeoaaGreatDoor
open Go.RowKit

theorem setPart_get (k : List UInt8) (p : Nat) (c : Clus) (hk : k.length = 256) (hc : c.length = 64) (hp : p < 4) (j : Nat) : (setPart k p c)[j]? = if j < 64 * p then k[j]? else if j < 64 * p + 64 then c[j - 64 * p]? else k[j]? := by
  unfold setPart
  have hl : (k.take (64 * p)).length = 64 * p := by rw [List.length_take, hk]; omega
  rw [List.append_assoc, List.getElem?_append, hl]
  by_cases h1 : j < 64 * p
  · rw [if_pos h1, if_pos h1, List.getElem?_take, if_pos h1]
  · rw [if_neg h1, if_neg h1, List.getElem?_append, hc]
    by_cases h2 : j < 64 * p + 64
    · rw [if_pos h2, if_pos (by omega)]
    · rw [if_neg h2, if_neg (by omega), List.getElem?_drop]
      congr 1
      omega
theorem cntsTo_get (C : List Clus) (hl : ∀ c ∈ C, c.length = 64) (h5 : 5 ≤ C.length) : ∀ k, k ≤ 4 → ∀ j, j < 64 * k → (cntsTo C k)[j]? = (cl C (1 + j / 64))[j % 64]?
  | 0, _, j, hj => by omega
  | k + 1, hk, j, hj => by
    rw [cntsTo, setPart_get _ _ _ (cntsTo_length C hl h5 k (by omega)) (cl_length hl (by omega)) (by omega)]
    by_cases h1 : j < 64 * k
    · rw [if_pos h1]; exact cntsTo_get C hl h5 k (by omega) j h1
    · rw [if_neg h1, if_pos (by omega), show j / 64 = k by omega, show j % 64 = j - 64 * k by omega]
theorem byteAt_cnts {C : List Clus} (hl : ∀ c ∈ C, c.length = 64) (h5 : 5 ≤ C.length) (n : Nat) (hn : n < 256) : byteAt (cntsOf C) n = countOf C n := by
  unfold byteAt countOf cntsOf byteAt
  rw [List.getD_eq_getElem?_getD, cntsTo_get C hl h5 4 (by omega) n (by omega), List.getD_eq_getElem?_getD]
theorem clus_ext {c d : Clus} (hc : c.length = 64) (hd : d.length = 64) (h : ∀ i, i < 32 → num c (2 * i) = num d (2 * i)) : c = d := by
  have hb : ∀ i, i < 32 → byteAt c (2 * i) = byteAt d (2 * i) ∧ byteAt c (2 * i + 1) = byteAt d (2 * i + 1) := fun i hi => by
    have h0 := h i hi
    have h1 := byteAt_lt c (2 * i + 1)
    have h2 := byteAt_lt d (2 * i + 1)
    unfold num at h0
    omega
  refine List.ext_getElem (by rw [hc, hd]) fun j h1 h2 => ?_
  have hj : byteAt c j = byteAt d j := by
    obtain ⟨x, y⟩ := hb (j / 2) (by omega)
    by_cases e : j % 2 = 0
    · rw [show j = 2 * (j / 2) by omega]; exact x
    · rw [show j = 2 * (j / 2) + 1 by omega]; exact y
  unfold byteAt at hj
  rw [List.getD_eq_getElem?_getD, List.getD_eq_getElem?_getD, List.getElem?_eq_getElem h1, List.getElem?_eq_getElem h2] at hj
  exact UInt8.toNat_inj.1 hj
end Go.Proofs.YtknjjjenklfeoaaGreatDoor

/-
  Plain: what an exact file gives the walks: all numbers lie in the file, tables are tables; a block written over is the content's.
-/
namespace Go.Proofs.YtknjjjenklfeoaaGreatDoor
open Go.RowKit

section
variable {L : List Clus} {rs : List RootR}
theorem ExactL.two (h : ExactL L rs) (i : Nat) (hi : i < rs.length) (j : Nat) (hj : j < 32) (h0 : num (cl L (rs.getD i ⟨0, 0, []⟩).N) (2 * j) ≠ 0) : j < 2 := by
  have hz := h.zero (rs.getD i ⟨0, 0, []⟩) (by rw [List.getD_eq_getElem?_getD, List.getElem?_eq_getElem hi]; exact List.getElem_mem hi)
  rcases Nat.lt_or_ge j 2 with x | x
  · exact x
  · exact absurd (hz j (by omega) hj) h0
theorem ExactL.inFile (h : ExactL L rs) (i : Nat) (hi : i < rs.length) : InFile L (rs.getD i ⟨0, 0, []⟩).N := by
  have h6 := h.six
  refine ⟨(h.ok.lo _ (first_told L rs i hi)).2.1, fun j hj h0 => (h.ok.lo _ (second_told L rs i hi j (by omega) h0)).2.1, fun j hj h0 k hk => ?_⟩
  by_cases h1 : num (cl L (num (cl L (rs.getD i ⟨0, 0, []⟩).N) (2 * j) % 32768)) (2 * k) = 0
  · rw [h1]; omega
  · exact (h.ok.lo _ (block_told L rs i hi j (by omega) h0 k hk h1)).2.1
end
theorem ExactL.firstOK {V : VolR} {rs : List RootR} (h : ExactL V.C rs) (i : Nat) (hi : i < rs.length) : FirstOK V (rs.getD i ⟨0, 0, []⟩).N := by
  have h256 := h.len
  have hf := h.ok.lo _ (first_told V.C rs i hi)
  simp only at hf
  have hsec : ∀ j, j < 32 → num (cl V.C (rs.getD i ⟨0, 0, []⟩).N) (2 * j) ≠ 0 → 6 ≤ num (cl V.C (rs.getD i ⟨0, 0, []⟩).N) (2 * j) % 32768 ∧ num (cl V.C (rs.getD i ⟨0, 0, []⟩).N) (2 * j) % 32768 < V.C.length := fun j hj h0 => by
    have := h.ok.lo _ (second_told V.C rs i hi j hj h0)
    exact ⟨this.1, this.2.1⟩
  have hblk : ∀ j, j < 32 → num (cl V.C (rs.getD i ⟨0, 0, []⟩).N) (2 * j) ≠ 0 → ∀ k, k < 32 → num (cl V.C (num (cl V.C (rs.getD i ⟨0, 0, []⟩).N) (2 * j) % 32768)) (2 * k) ≠ 0 → InR V (num (cl V.C (num (cl V.C (rs.getD i ⟨0, 0, []⟩).N) (2 * j) % 32768)) (2 * k) % 32768) := fun j hj h0 k hk h1 => by
    have := h.ok.lo _ (block_told V.C rs i hi j hj h0 k hk h1)
    exact ⟨this.1, this.2.1⟩
  have nums : ∀ (Pc : Nat → Prop) (t : Nat), (∀ j, j < 32 → num (cl V.C t) (2 * j) ≠ 0 → Pc (num (cl V.C t) (2 * j) % 32768)) → NumsOK Pc V.C t := by
    intro Pc t hp j
    by_cases hj : j < 32
    · rw [numsOf_get _ _ hj]; exact ⟨num_lt _ _, hp j hj⟩
    · rw [List.getD_eq_getElem?_getD, List.getElem?_eq_none (by rw [numsOf_length]; omega)]
      exact ⟨by decide, fun x => absurd rfl x⟩
  exact ⟨⟨⟨hf.1, hf.2.1⟩, nums _ _ hsec⟩, nums _ _ fun j hj h0 => ⟨hsec j hj h0, nums _ _ (hblk j hj h0)⟩⟩

end Go.Proofs.YtknjjjenklfeoaaGreatDoor

/-
  Plain: a cluster that is counted once is told in one place.
-/
namespace Go.Proofs.YtknjjjenklfeoaaGreatDoor
open Go.RowKit

/-- The number that stands for block b below the first table t. -/
def numAt (L : List Clus) (t b : Nat) : Nat := if num (cl L t) (2 * (b / 32)) = 0 then 0 else num (cl L (num (cl L t) (2 * (b / 32)) % 32768)) (2 * (b % 32))
def secOf (L : List Clus) (t i : Nat) : Tells := if num (cl L t) (2 * i) = 0 then [] else (num (cl L t) (2 * i) % 32768, 2) :: inTells L (num (cl L t) (2 * i) % 32768) 32 0
theorem outTells_two (L : List Clus) (t : Nat) : outTells L t 32 0 = secOf L t 0 ++ (secOf L t 1 ++ outTells L t 30 2) := rfl
def occ (ts : Tells) (n : Nat) : Nat := (ts.map (·.1)).count n
theorem occ_append (a b : Tells) (n : Nat) : occ (a ++ b) n = occ a n + occ b n := by unfold occ; rw [List.map_append, List.count_append]
theorem numAt_ne {L : List Clus} {t b : Nat} (h : numAt L t b ≠ 0) : num (cl L t) (2 * (b / 32)) ≠ 0 ∧ numAt L t b = num (cl L (num (cl L t) (2 * (b / 32)) % 32768)) (2 * (b % 32)) := by
  unfold numAt at h ⊢
  by_cases e : num (cl L t) (2 * (b / 32)) = 0
  · rw [if_pos e] at h; exact absurd rfl h
  · rw [if_neg e]; exact ⟨e, rfl⟩
end Go.Proofs.YtknjjjenklfeoaaGreatDoor

/-
  Plain: a block's own cluster is written over: the content turns at that block.
-/
namespace Go.Proofs.YtknjjjenklfeoaaGreatDoor
open Go.RowKit

theorem blkOf_numAt (L : List Clus) (t b : Nat) : blkOf L t b = if numAt L t b = 0 then zc else cl L (numAt L t b % 32768) := by
  unfold blkOf numAt
  by_cases h0 : num (cl L t) (2 * (b / 32)) = 0
  · rw [if_pos h0, if_pos h0, if_pos rfl]
  · rw [if_neg h0, if_neg h0]
theorem cl_setN (L : List Clus) (n : Nat) (data : Clus) (t : Nat) (hn : n < L.length) : cl (L.set n data) t = if n = t then data else cl L t := by
  unfold cl
  rw [List.getD_eq_getElem?_getD, List.getElem?_set]
  by_cases e : n = t
  · subst e; rw [if_pos rfl, if_pos hn, if_pos rfl]; rfl
  · rw [if_neg e, if_neg e, List.getD_eq_getElem?_getD]
theorem contentOf_get (L : List Clus) (t b : Nat) (hb : b < 64) : (contentOf L t)[b]? = some (blkOf L t b) := by
  unfold contentOf
  rw [List.getElem?_map, List.getElem?_range hb]; rfl
theorem contentOf_length (L : List Clus) (t : Nat) : (contentOf L t).length = 64 := by unfold contentOf; simp

end Go.Proofs.YtknjjjenklfeoaaGreatDoor
