import Derived.Test.YtknjjjenklfeoaaP36
import Derived.Test.YtknjjjenklfeoaaP32
import Derived.Test.YtknjjjenklfeoaaP34
import Derived.ChangeSame
import Derived.ProofKit
import Derived.Below
import Derived.Test.YtknjjjenklfeoaaChecked
import Derived.Test.YtknjjjenklfeoaaRows
import Derived.Deep.Slices
import Derived.Deep.DeepHandedRow
import Derived.OpenShut
import Derived.WalkKit
import Derived.JoinedCond
/-
  vellumkeep: Spared.
-/
namespace Go.Proofs.Ytknjjjenklfeoaa
open Go.RowKit
attribute [local go_sem ↓] loadVar_co storeVar_co zeroValue_co loadVar_st storeVar_st
attribute [local go_sem] run_loadCo run_zeroCo run_loadSt
/-- How many clusters a disk uses. -/
def usedN (V : VolR) : Nat := cntTo (cntB V) 256
theorem Av.counts {w W : World} {d v : Nat} {Cv Lv : Value} {V : VolR} {N0 : Nat} {E : List EntR} {D : DiskR} (h : Av w W d v Cv Lv V N0 E D) :
    Calls Try.prog 12 #[.pointer (some ⟨d, 0, none⟩)] W fun e W' => (∃ q : Nat, e = .returned (.agg (stateCells ⟨q, usedN V, 0, 0, 0⟩).toArray)) ∧ Below W.heap.size W W' := by
  have h7 := h.vol.file.seven
  refine (diskCheck_any W d v Cv Lv V h.dsk (by omega) h.vol.file.most (fun f hf => by rw [h.vol.firsts] at hf; exact h.vol.sound.firstOK hf)).mono ?_
  rintro e W' ⟨rfl, hb⟩
  refine ⟨⟨num (cl V.C 0) 4, ?_⟩, hb⟩
  have hu := h.vol.used_cnt h.exact
  rw [h.vol.check h.exact] at hu ⊢
  dsimp only at hu
  rw [hu]
  rfl
theorem field_st1 (s : StateR) (w : World) : (Instr.field 36 (.agg (stateCells s).toArray) 1).run Try.prog w = .ok (.int .i64 (s.used : Nat)) w := by kernel_rfl
attribute [local go_sem] field_st1
set_option maxHeartbeats 4000000 in
set_option maxRecDepth 100000 in
theorem spared_any (w : World) (a1 a2 : Option Addr) (n1 n2 c1 c2 : Nat) (s1 s2 : Nat → StepR) (r1 : KRow w a1 n1 s1) (r2 : KRow w a2 n2 s2) (l1 : n1 ≤ 524288) (l2 : n2 ≤ 524288) (hc2 : n2 ≤ c2) :
    Calls Try.prog 4 #[.slice a1 n1 c1, .slice a2 n2 c2] w fun e w' => e = .returned (.bool true) ∧ Below w.heap.size w w' := by
  go_enter Try.func4, Try.ntmps4
  go_wp2_with fail
  refine (keepBegun_any w).mono ?_
  rintro e w1 ⟨d, v, Cv, Lv, rfl, hD, b1, f1⟩
  have K1 : KAt w (w1.alloc (.cells (flatC zD).toArray 28)) d v w1.heap.size Cv Lv newV zDisk.C := by
    have hb : Below w1.heap.size w1 (w1.alloc (.cells (flatC zD).toArray 28)) := (Below.refl _ _).alloc (Nat.le_refl _) _
    exact ⟨hD.below hb, ⟨heap_alloc_new _ _, ⟨zD_all, zD_length⟩⟩, b1.trans (hb.mono b1.size), f1, b1.size⟩
  have G1 : Hid (At w (w1.alloc (.cells (flatC zD).toArray 28)) d v w1.heap.size Cv Lv newV 6 [] 1 zDisk) := ⟨K1, new_held, new_disk⟩
  have lg0 := new_logL
  clear hD b1 f1 K1
  go_wp2_with fail
  generalize w1.heap.size = bc at *
  generalize w1.alloc (.cells (flatC zD).toArray 28) = w2 at *
  refine (written_any w w2 d v bc Cv Lv newV 6 [] 1 (Nat.le_refl _) (by rw [new_disk]; exact (unhide G1).at') (unhide G1).held a1 n1 c1 s1 r1 (by omega) (by omega)).mono ?_
  rintro e w3 ⟨rfl, C3, L3, V3, hw3⟩
  obtain ⟨⟨Ca, La⟩, g3, e3⟩ := (unhide G1).wrote hw3
  obtain rfl : La = [] := e3
  have lg3 := hw3.log
  have G3 := hide g3
  clear hw3 g3 G1
  go_wp2_with fail
  refine (unhide G3).av.counts.mono ?_
  rintro e w4 ⟨⟨q4, rfl⟩, b4⟩
  have G4 := hide ((unhide G3).later b4)
  clear b4 G3
  go_wp2_with fail
  obtain ⟨q1, q2, q3, qF⟩ := (unhide G4).hyps
  refine (diskTake_any w4 d v C3 L3 V3 q1 q2 q3 (by omega) qF ⟨#[111, 110, 101]⟩ (by unfold maxLen; decide)).mono ?_
  rintro e w5 ⟨rfl, C5, L5, hs5⟩
  have t4 : refTakeR ⟨Ca, []⟩ ⟨#[111, 110, 101]⟩ = (⟨Ca, [⟨[111, 110, 101], Ca⟩]⟩, 0) := rfl
  obtain ⟨z5, lg5, E5, g5, n5⟩ := (unhide G4).taken (by omega) (by omega) (by simp) _ t4 hs5
  have hu5 : usedN (takeR V3 ⟨#[111, 110, 101]⟩).1 = usedN V3 + 1 := (unhide G4).held.takeUsed _ z5
  rw [z5]
  have hub : usedN V3 ≤ 256 := cntTo_le _ _
  have G5 := hide g5
  clear q1 qF hs5 g5 G4 z5
  generalize (takeR V3 ⟨#[111, 110, 101]⟩).1 = V5 at *
  go_wp2_with fail
  refine (unhide G5).av.counts.mono ?_
  rintro e w6 ⟨⟨q6, rfl⟩, b6⟩
  have G6 := hide ((unhide G5).later b6)
  have n5' : E5.length ≤ 1 := n5
  rw [hu5]
  clear b6 G5 hu5
  generalize usedN V3 = u3 at *
  have du : (((u3 + 1 : Nat) : Int) != (u3 : Int) + 1) = false := by rw [bne_eq_false_iff_eq]; omega
  have hui : (u3 : Int) ≤ 256 := by omega
  go_wp2_with fail
  clear du
  generalize u3 + 1 = u4 at *
  have lg6 : V5.L.length ≤ 40000000 := by omega
  have hn2 : (n2 : Int) ≤ 524288 := by omega
  go_loopw [11] (fun i w' => ∃ k : Nat, k ≤ n2 ∧ i = .int .i64 k ∧ ∃ C L V Cc, V.L.length ≤ 40000000 + 60 * k ∧ At w w' d v bc C L V 6 E5 2 ⟨Cc, [⟨[111, 110, 101], Ca⟩]⟩) (fun i _ => n2 - (intOf i).toNat)
  case atStart => exact ⟨0, by omega, rfl, _, _, _, _, by omega, unhide G6⟩
  case round =>
    obtain ⟨k, hk, rfl, C, L, V, Cc, lgk, g⟩ := hrel
    clear G6
    by_cases hlt : k < n2
    · have hki : (k : Int) < (n2 : Int) := by omega
      obtain ⟨gg, o, rfl, hg, hrg⟩ := r2.some (by omega)
      have G := hide g
      clear g
      go_wp2_with fail
      refine (unhide G).av.counts.mono ?_
      rintro e w7 ⟨⟨q7, rfl⟩, b7⟩
      have G7 := hide ((unhide G).later b7)
      clear b7 G
      have hci : (k : Int) + 1 ≤ (c2 : Int) := by omega
      have hcj : (k : Int) ≤ (c2 : Int) := by omega
      go_wp2_with fail
      have rk : KRow w (some ⟨gg, o + k * 2, none⟩) 1 (fun _ => s2 k) := ⟨fun _ => ⟨gg, o + k * 2, rfl, hg, fun i hi => by
        obtain rfl : i = 0 := by omega
        rw [Nat.zero_mul, Nat.add_zero]
        exact hrg k hlt⟩, fun i _ => r2.fits k hlt⟩
      refine (written_any w w7 d v bc C L V 6 E5 2 (by omega) (by rw [(unhide G7).disk]; exact (unhide G7).at') (unhide G7).held (some ⟨gg, o + k * 2, none⟩) 1 (c2 - k) (fun _ => s2 k) rk (by omega) (by omega)).mono ?_
      rintro e w8 ⟨rfl, C8, L8, V8, hw8⟩
      obtain ⟨⟨C', L'⟩, g8, e8⟩ := (unhide G7).wrote hw8
      obtain rfl : L' = [⟨[111, 110, 101], Ca⟩] := e8
      have lg8 := hw8.log
      have us8 : usedN V8 ≤ usedN V + 2 := hw8.used
      have G8 := hide g8
      clear hw8 g8 G7 rk
      go_wp2_with fail
      refine (unhide G8).av.counts.mono ?_
      rintro e w9 ⟨⟨q9, rfl⟩, b9⟩
      have G9 := hide ((unhide G8).later b9)
      have uV : usedN V ≤ 256 := cntTo_le _ _
      clear b9 G8
      generalize usedN V = uu at *
      generalize usedN V8 = u8' at *
      have dd : decide ((uu : Int) + 2 < (u8' : Int)) = false := by simp; omega
      have hui2 : (uu : Int) ≤ 256 := by omega
      go_wp2
      go_roundw
      case rel => exact ⟨k + 1, by omega, by go_num, _, _, _, _, by omega, unhide G9⟩
      case measure => simp [intOf]; omega
    · have hki : ¬ (k : Int) < (n2 : Int) := by omega
      have G := hide g
      clear g
      go_wp2_with fail
      refine ((unhide G).av.dropped (D' := ⟨Cc, []⟩) ⟨#[111, 110, 101]⟩ (by unfold maxLen; decide) (by omega) rfl).mono ?_
      rintro e w7 ⟨rfl, C7, L7, V7, E7, hs7, lg7, a7⟩
      have A7 := hide a7
      have M7 := hide ((unhide G).av.box hs7 (unhide G).at'.cont)
      clear hs7 a7 G
      go_wp2_with fail
      refine ((unhide A7).holds (unhide M7)).mono ?_
      rintro e w8 ⟨rfl, b8⟩
      have A8 := hide ((unhide A7).later b8)
      clear b8 A7 M7
      go_wp2_with fail
      refine (unhide A8).checks.mono ?_
      rintro e w9 ⟨⟨q9, u9, hu9, rfl⟩, b9⟩
      have B9 := hide ((unhide A8).later b9).below
      have d9 : decide ((u9 : Int) ≤ 73) = true := by simp; omega
      clear b9 A8
      go_wp2
      go_ret
      exact ⟨rfl, unhide B9⟩
end Go.Proofs.Ytknjjjenklfeoaa

/-
  vellumlaw's begun: a pair behind New or Open.
-/
namespace Go.Proofs.Ytknjjjenklfeoaa
open Go.RowKit
end Go.Proofs.Ytknjjjenklfeoaa

/-
  vellumlaw's step, of the kinds of Blocks.
-/
namespace Go.Proofs.Ytknjjjenklfeoaa
open Go.RowKit
attribute [local go_sem ↓] loadVar_clus storeVar_clus zeroValue_clus equalIn_clus
attribute [local go_sem] run_loadClus run_storeClus run_zeroClus run_storeClus_new run_loadClus_new zc_length HasAt_drew cellsAt_drew
end Go.Proofs.Ytknjjjenklfeoaa

/-
  vellumlaw's plays: a script on two disks in turn, whatever steps there are.
-/
namespace Go.Proofs.Ytknjjjenklfeoaa
open Go.RowKit
section
-- variable {w w1 w2 : World} {i p q b : Nat} {P Q : PairR} {S R : Nat → Prop} {V : BookV} {B : BookR} {U : Nat → Prop}
end
end Go.Proofs.Ytknjjjenklfeoaa

/- A reading of an argument stands in a world whose old blocks are unchanged, whichever spare places are asked for, so long as every block that the reading passes through is asked for. -/
namespace Go.Proofs.Ytknjjjenklfeoaa.Row1
open Go.ChangeShapes Go.WideShapes Go.RowKit

/-- Every type that the program's table tells leads into that table, and no slice is of elements without cells. -/
def shutB (P : Program) (t : TypeId) : Bool :=
  match P.underlying t with
  | some (.slice e) => decide (0 < P.cellsOf e) && decide (e < P.types.size)
  | some (.pointer e) => decide (e < P.types.size)
  | some (.struct fs) => fs.toList.all fun f => decide (f.type < P.types.size)
  | some (.array _ e) => decide (e < P.types.size)
  | some (.map _ e) => decide (e < P.types.size)
  | _ => true
def Shut (P : Program) : Prop := ∀ t, t < P.types.size → shutB P t = true
theorem shut_of {P : Program} (h : ((List.range P.types.size).all (shutB P)) = true) : Shut P := fun t ht => List.all_eq_true.1 h t (List.mem_range.2 ht)
theorem shut : Shut Try.prog := shut_of (by kernel_rfl)

section
variable {H : Type} {enc : TypeId × Value → H} {P : Program} {w : World} {base : Nat} {sp : Nat → Bool}

theorem step_spare (hz : Shut P) {r r' : TypeId → List Value → Option (DataW H × List MemPlace)}
    (hr : ∀ t cs x, t < P.types.size → r t cs = some x → (∀ p ∈ x.2, sp p.block = true) → r' t cs = some x) {t : TypeId} {cs : List Value} {x : DataW H × List MemPlace} (hT : t < P.types.size)
    (h : DataW.trodStep enc P w base (fun _ => true) true r t cs = some x) (hs : ∀ p ∈ x.2, sp p.block = true) :
    DataW.trodStep enc P w base sp true r' t cs = some x := by
  have hz' := hz t hT
  unfold shutB at hz'
  unfold DataW.trodStep at h ⊢
  split at h
  case h_6 e a ht =>
    rw [ht] at hz'
    have hE : e < P.types.size := by simpa using hz'
    simp only [Option.map_eq_some_iff, Option.bind_eq_some_iff] at h ⊢
    obtain ⟨y, ⟨cs', hc, hy⟩, rfl⟩ := h
    exact ⟨y, ⟨cs', hc, hr _ _ _ hE hy (fun p hp => hs p (by simp [hp]))⟩, rfl⟩
  case h_8 e a len cap ht =>
    rw [ht] at hz'
    obtain ⟨he0, hE⟩ : 0 < P.cellsOf e ∧ e < P.types.size := by simpa using hz'
    simp only [if_true] at h ⊢
    split at h
    · rename_i hc
      rw [if_pos hc]
      simp only [Option.map_eq_some_iff, Option.bind_eq_some_iff] at h ⊢
      obtain ⟨elems, he, rest, hrest, rfl⟩ := h
      have hrl : rest.length = cap - len := by simpa using mapM_some_length hrest
      have one : ∀ (i : Nat) (y : DataW H × List MemPlace), y ∈ elems ++ rest →
          (w.cells? base (a.add (i * P.cellsOf e)) (P.cellsOf e)).bind (r e) = some y → (w.cells? base (a.add (i * P.cellsOf e)) (P.cellsOf e)).bind (r' e) = some y := by
        intro i y hy hv
        simp only [Option.bind_eq_some_iff] at hv ⊢
        obtain ⟨cs', hc', hy'⟩ := hv
        refine ⟨cs', hc', hr _ _ _ hE hy' (fun p hp => hs p ?_)⟩
        simp only [List.mem_append, List.mem_flatMap]
        exact Or.inr ⟨y, by simpa using hy, hp⟩
      refine ⟨elems, mapM_carry he (fun i y _ hy => one i y (by simp [hy])), rest, ?_, rfl⟩
      by_cases hcap : cap - len = 0
      · have hr0 : rest = [] := List.eq_nil_of_length_eq_zero (hrl.trans hcap)
        subst hr0
        simp [hcap]
      · have hb : sp a.block = true := by
          refine hs (.cell a.block (a.off + 0)) ?_
          refine List.mem_append.2 (Or.inl (MemPlace.mem_row.2 ⟨0, ?_, rfl⟩))
          exact Nat.mul_pos (by omega) he0
        rw [if_pos hb]
        exact mapM_carry hrest (fun j y _ hy => one (len + j) y (by simp [hy]))
    · cases h
  case h_9 _ fs ht =>
    rw [ht] at hz'
    have hE : ∀ f ∈ fs.toList, f.type < P.types.size := fun f hf => by simpa using List.all_eq_true.1 hz' f hf
    split at h
    · rename_i hc
      rw [if_pos hc]
      simp only [Option.map_eq_some_iff] at h ⊢
      obtain ⟨xs, hx, rfl⟩ := h
      exact ⟨xs, mapM_carry hx (fun f y hf hy hv => hr _ _ _ (hE f hf) hv (fun p hp => hs p (List.mem_flatMap.2 ⟨y, hy, hp⟩))), rfl⟩
    · cases h
  case h_10 _ _ e ht =>
    rw [ht] at hz'
    have hE : e < P.types.size := by simpa using hz'
    split at h
    · rename_i hc
      rw [if_pos hc]
      simp only [Option.map_eq_some_iff] at h ⊢
      obtain ⟨xs, hx, rfl⟩ := h
      exact ⟨xs, mapM_carry hx (fun f y _ hy hv => hr _ _ _ hE hv (fun p hp => hs p (List.mem_flatMap.2 ⟨y, hy, hp⟩))), rfl⟩
    · cases h
  case h_14 k e b ht =>
    rw [ht] at hz'
    have hE : e < P.types.size := by simpa using hz'
    split at h
    · rename_i es clock hb
      split at h
      · rename_i hc
        simp only [Option.bind_eq_some_iff] at h
        obtain ⟨entries, he, hd⟩ := h
        split at hd
        · rename_i hris
          have hx := Option.some.inj hd
          subst hx
          simp only [if_pos hc, Option.bind_eq_some_iff]
          refine ⟨entries, mapM_carry he (fun x y _ hy hv => ?_), by simp [hris]⟩
          simp only [Option.bind_eq_some_iff] at hv ⊢
          obtain ⟨key, hk, hz⟩ := hv
          refine ⟨key, hk, ?_⟩
          split at hz
          · rename_i hf
            rw [if_pos hf]
            simp only [Option.map_eq_some_iff] at hz ⊢
            obtain ⟨q, hq, rfl⟩ := hz
            exact ⟨q, hr _ _ _ hE hq (fun p hp => hs p (by simp only [List.mem_cons, List.mem_flatMap]; exact Or.inr ⟨_, hy, hp⟩)), rfl⟩
          · cases hz
        · cases hd
      · cases h
    · cases h
  all_goals first | exact h | cases h

theorem trod_spare (hz : Shut P) : ∀ (n : Nat) (t : TypeId) (cs : List Value) (x : DataW H × List MemPlace), t < P.types.size →
    DataW.trod enc P w base (fun _ => true) true n t cs = some x → (∀ p ∈ x.2, sp p.block = true) → DataW.trod enc P w base sp true n t cs = some x := by
  intro n
  induction n with
  | zero => intro t cs x _ h; simp [DataW.trod] at h
  | succ n ih =>
    intro t cs x hT h hs
    rw [DataW.trod_step] at h ⊢
    exact step_spare hz ih hT h hs

theorem trodAll_spare {w' : World} (hz : Shut P) (hB : Below w.heap.size w w') :
    ∀ {ts : List TypeId} {vs : List Value} {ds : List (DataW H)} {ps : List MemPlace}, (∀ t ∈ ts, t < P.types.size) → DataW.TrodAll enc P w base (fun _ => true) true ts vs ds ps →
      (∀ p ∈ ps, sp p.block = true) → DataW.TrodAll enc P w' base sp true ts vs ds ps
  | [], [], [], _, _, h, _ => h
  | _ :: _, _ :: _, _ :: _, _, hT, ⟨a, b, ⟨n, h1⟩, h2, e⟩, hs => by
    subst e
    refine ⟨a, b, ⟨n, ?_⟩, trodAll_spare hz hB (fun t ht => hT t (List.mem_cons_of_mem _ ht)) h2 (fun p hp => hs p (List.mem_append_right _ hp)), rfl⟩
    have h3 := trod_spare (sp := sp) hz n _ _ _ (hT _ List.mem_cons_self) h1 (fun p hp => hs p (List.mem_append_left _ hp))
    exact DataW.trod_carry n _ _ _ h3 (fun p hp => hB.same (DataW.trod_lt n _ _ _ h3 p hp))
end
end Go.Proofs.Ytknjjjenklfeoaa.Row1

/- A script that the reading of an argument has passed through lies in memory as SRow says, and it is short where the reading is small. -/
namespace Go.Proofs.Ytknjjjenklfeoaa
open Go.RowKit Go.ChangeShapes Go.WideShapes Go.Deep

section
variable {H : Type} {enc : TypeId × Value → H} {w : World} {sp : Nat → Bool}

theorem six {α : Type} {l : List α} (h : l.length = 6) : ∃ a b c d e f, l = [a, b, c, d, e, f] := by
  match l, h with
  | [a, b, c, d, e, f], _ => exact ⟨a, b, c, d, e, f, rfl⟩
theorem one_int : Try.prog.cellsOf 3 = 1 := by kernel_rfl
theorem one_string : Try.prog.cellsOf 9 = 1 := by kernel_rfl
theorem bulk_pos : ∀ d : DataW H, 1 ≤ Rows.uptoBulk d := by
  intro d
  cases d with
  | lit l => cases l <;> simp [Rows.uptoBulk]
  | _ => simp [Rows.uptoBulk]
theorem bulk_len : ∀ ds : List (DataW H), ds.length ≤ Rows.uptoBulkAll ds
  | [] => Nat.le_refl 0
  | d :: r => by
    have := bulk_pos d
    have := bulk_len r
    show r.length + 1 ≤ Rows.uptoBulk d + Rows.uptoBulkAll r
    omega
theorem bulk_two {D : Nat → DataW H} : ∀ {l : List Nat}, (∀ i ∈ l, 2 ≤ Rows.uptoBulk (D i)) → 2 * l.length ≤ Rows.uptoBulkAll (l.map D)
  | [], _ => Nat.le_refl 0
  | i :: r, h => by
    have h1 := h i List.mem_cons_self
    have h2 := bulk_two (D := D) (l := r) (fun k hk => h k (List.mem_cons_of_mem _ hk))
    show 2 * (r.length + 1) ≤ Rows.uptoBulk (D i) + Rows.uptoBulkAll (r.map D)
    omega
theorem range_of_cells {g o n : Nat} {spot : Option Nat} {cs : List Value} (hn : cs.length = n) (h0 : 0 < n) (h : w.cells? 0 ⟨g, o, spot⟩ n = some cs) : (spot = none → w.rangeAt g o cs) ∧ g < w.heap.size := by
  refine ⟨fun hs => ?_, World.cells?_block h h0⟩
  subst hs
  intro j v hj
  unfold World.cells? at h
  rw [if_pos (Nat.zero_le _)] at h
  have hj' : j < n := by
    rcases Nat.lt_or_ge j n with h' | h'
    · exact h'
    · rw [List.getElem?_eq_none (by omega)] at hj
      cases hj
  have := mapM_some_get h j j (by rw [List.getElem?_range hj'])
  have e : (Addr.add ⟨g, o, none⟩ j) = ⟨g, o + j, none⟩ := by
    unfold Addr.add
    split
    · simp
    · rfl
  rw [e] at this
  rw [this, hj]
end
end Go.Proofs.Ytknjjjenklfeoaa

/- Steps that the reading of an argument has passed through lie in memory as KRow says. -/
namespace Go.Proofs.Ytknjjjenklfeoaa
open Go.RowKit Go.ChangeShapes Go.WideShapes Go.Deep

section
variable {H : Type} {enc : TypeId × Value → H} {w : World} {sp : Nat → Bool}
theorem two_of {α : Type} {l : List α} (h : l.length = 2) : ∃ a b, l = [a, b] := by
  match l, h with
  | [a, b], _ => exact ⟨a, b, rfl⟩
/-- What the reading of a step tells of its cells. -/
theorem open_step {n : Nat} {cs : List Value} {x : DataW H × List MemPlace} (h : DataW.trod enc Try.prog w 0 sp true n 46 cs = some x) :
    ∃ o : StepR, cs = stepCells o ∧ (o.text.size ≤ maxLen ∧ -9223372036854775808 ≤ o.block ∧ o.block ≤ 9223372036854775807) ∧ ∃ ys, x.1 = .agg ys ∧ 0 < ys.length := by
  obtain ⟨xs, m, _, rfl, hl, hlen, hf⟩ := DataW.trod_struct Try.underlying46 h
  have hl6 : cs.length = 2 := hl.trans (by kernel_rfl)
  have hx6 : xs.length = 2 := hlen
  obtain ⟨c0, c1, rfl⟩ := two_of hl6
  obtain ⟨x0, x1, rfl⟩ := two_of hx6
  have f0 : DataW.trod enc Try.prog w 0 sp true m 3 (([c0, c1].drop 0).take (Try.prog.cellsOf 3)) = some x0 := hf 0 _ rfl
  have f1 : DataW.trod enc Try.prog w 0 sp true m 9 (([c0, c1].drop 1).take (Try.prog.cellsOf 9)) = some x1 := hf 1 _ rfl
  rw [one_int] at f0
  rw [one_string] at f1
  change DataW.trod enc Try.prog w 0 sp true m _ [c0] = _ at f0
  change DataW.trod enc Try.prog w 0 sp true m _ [c1] = _ at f1
  obtain ⟨k, hk, _, hwf⟩ := DataW.trod_int (k := .i64) (by kernel_rfl) f0
  obtain ⟨s, hs, _, hsl⟩ := DataW.trod_string (by kernel_rfl) f1
  obtain rfl : c0 = .int .i64 k := by simpa using hk
  obtain rfl : c1 = .string s := by simpa using hs
  have hr : -9223372036854775808 ≤ k ∧ k ≤ 9223372036854775807 := by
    simp [Lit.wf] at hwf
    have e1 : IntKind.i64.min = -9223372036854775808 := by decide
    have e2 : IntKind.i64.max = 9223372036854775807 := by decide
    omega
  exact ⟨⟨k, s⟩, rfl, ⟨hsl, hr⟩, _, rfl, by simp⟩
theorem cells_step : Try.prog.cellsOf 46 = 2 := by kernel_rfl
/-- STEPS, OPENED. -/
theorem open_steps {fuel : Nat} {a : Option Addr} {len cap : Nat} {x : DataW H × List MemPlace} (h : DataW.trod enc Try.prog w 0 (fun _ => true) true fuel 22 [.slice a len cap] = some x) :
    ∃ ops : Nat → StepR, KRow w a len ops ∧ 2 * len ≤ Rows.uptoBulk x.1 := by
  rcases open_slice Try.underlying22 h with ⟨hc, rfl⟩ | ⟨b, len', cap', m, n, D, Pl, hc, _, hl, hm, hmm, rfl, hel⟩
  · obtain ⟨rfl, rfl, rfl⟩ : a = none ∧ len = 0 ∧ cap = 0 := by simpa using hc
    exact ⟨fun _ => ⟨0, .empty⟩, ⟨fun h0 => by omega, fun i hi => by omega⟩, by omega⟩
  · obtain ⟨rfl, rfl, rfl⟩ : a = some b ∧ len = len' ∧ cap = cap' := by simpa using hc
    simp only [if_true] at hmm
    subst hmm
    rw [cells_step] at hel
    have each : ∀ i, i < m → ∃ o : StepR, w.cells? 0 (b.add (i * 2)) 2 = some (stepCells o) ∧ (o.text.size ≤ maxLen ∧ -9223372036854775808 ≤ o.block ∧ o.block ≤ 9223372036854775807) ∧ 2 ≤ Rows.uptoBulk (D i) := by
      intro i hi
      obtain ⟨cs, h1, h2⟩ := hel i hi
      obtain ⟨o, rfl, ht, ys, hy, hp⟩ := open_step h2
      refine ⟨o, h1, ht, ?_⟩
      have hy' : D i = .agg ys := hy
      rw [hy']
      have := bulk_len ys
      show 2 ≤ Rows.uptoBulkAll ys + 1
      omega
    have : Inhabited StepR := ⟨⟨0, .empty⟩⟩
    obtain ⟨ops, hops⟩ := choose_lt each
    obtain ⟨g, o, spot⟩ := b
    refine ⟨ops, ⟨fun h0 => ?_, fun i hi => (hops i (by omega)).2.1⟩, ?_⟩
    · have h1 := (hops 0 (by omega)).1
      have hspot : spot = none := by
        have h2 := h1
        unfold World.cells? at h2
        rw [if_pos (Nat.zero_le _)] at h2
        have h3 := mapM_some_get h2 0 0 rfl
        simpa [Addr.add] using World.cell?_spot (h3.trans (rfl : (stepCells (ops 0))[0]? = some _))
      subst hspot
      have hadd : ∀ i, Addr.add ⟨g, o, none⟩ (i * 2) = ⟨g, o + i * 2, none⟩ := by
        intro i
        unfold Addr.add
        split
        · simp
        · rfl
      refine ⟨g, o, rfl, ?_, fun i hi => ?_⟩
      · rw [hadd] at h1
        exact (range_of_cells (n := 2) rfl (by decide) h1).2
      · have h4 := (hops i (by omega)).1
        rw [hadd] at h4
        exact (range_of_cells (n := 2) rfl (by decide) h4).1 rfl
    · have h5 := bulk_two (D := D) (l := List.range len) (fun i hi => (hops i (by have := List.mem_range.1 hi; omega)).2.2)
      rw [List.length_range] at h5
      show 2 * len ≤ Rows.uptoBulkAll ((List.range len).map D) + Rows.uptoBulkAll _ + 1
      omega
end
end Go.Proofs.Ytknjjjenklfeoaa

/- What the row of vellumkeep's Spared asks of its call: true, and the steps read as it did. -/
namespace Go.Proofs.Ytknjjjenklfeoaa.Spared
open Go.ChangeShapes Go.WideShapes Go.ChangeAt Go.RowKit

theorem open_cap {H : Type} {enc : TypeId × Value → H} {w : World} {fuel : Nat} {a : Option Addr} {len cap : Nat} {x : DataW H × List MemPlace} (h : DataW.trod enc Try.prog w 0 (fun _ => true) true fuel 22 [.slice a len cap] = some x) : len ≤ cap := by
  rcases Go.Deep.open_slice Try.underlying22 h with ⟨hc, rfl⟩ | ⟨b, len', cap', m, n, D, Pl, hc, _, hl, hm, hmm, rfl, hel⟩
  · obtain ⟨rfl, rfl, rfl⟩ : a = none ∧ len = 0 ∧ cap = 0 := by simpa using hc
    exact Nat.le_refl _
  · obtain ⟨rfl, rfl, rfl⟩ : a = some b ∧ len = len' ∧ cap = cap' := by simpa using hc
    omega
theorem typesB : ((Try.f4.params.toList).all fun t => decide (t < Try.prog.types.size)) = true := by kernel_rfl

set_option maxRecDepth 100000 in
theorem contract (H : Type) (enc : TypeId × Value → H) (W : World) (base : Nat) (args : Array Value) (ds gs : List (DataW H)) (before : List MemPlace)
    (hval : ∀ (j : Nat) t v, Try.f4.params[j]? = some t → args[j]? = some v → Value.okWide Try.prog W .any base t v)
    (hW : DataW.Whole enc Try.prog Try.f4.params.toList Rows.sparedSpec.vars false W args.toList ds gs before)
    (hsmall : Rows.uptoSmall H (ds ++ gs) = true) :
    Calls Try.prog 4 args W fun e W' => ∃ v, e = .returned v ∧ Rows.sparedSpec.post enc Try.prog Try.f4 false true false false W args v W' := by
  have hW' := hW
  obtain ⟨p, q, hA0, hV, rfl, hfz, hnd⟩ := hW
  have hA1 : DataW.TrodAll enc Try.prog W 0 (fun _ => true) true Try.f4.params.toList args.toList ds p := hA0
  have hA := hA1
  rw [Try.params4] at hA hval
  obtain ⟨v0, v1, d0, d1, p0, p1, rfl, rfl, rfl, h0, h1⟩ := trodAll_two hA
  obtain ⟨rfl, rfl⟩ := trodVars_none hV
  have hv1 := hval 1 22 v1 rfl rfl
  obtain ⟨a, len, cap, rfl⟩ := okWide_slice Try.underlying22 (hval 0 22 v0 rfl rfl)
  obtain ⟨a', len', cap', rfl⟩ := okWide_slice Try.underlying22 hv1
  obtain ⟨fuel, hf⟩ := h0
  obtain ⟨fuel', hf'⟩ := h1
  have hcap : len' ≤ cap' := open_cap hf'
  obtain ⟨st, hs, hb⟩ := open_steps hf
  obtain ⟨st', hs', hb'⟩ := open_steps hf'
  have hbulk : Rows.uptoBulk d0 + Rows.uptoBulk d1 ≤ 1048576 := by
    have h1 : Rows.uptoBulkAll ([d0, d1] ++ []) ≤ 1048576 := by simpa [Rows.uptoSmall] using hsmall
    have h3 : Rows.uptoBulkAll ([d0, d1] ++ []) = Rows.uptoBulk d0 + (Rows.uptoBulk d1 + 0) := rfl
    omega
  have e0 : 2 * len ≤ Rows.uptoBulk d0 := hb
  have e1 : 2 * len' ≤ Rows.uptoBulk d1 := hb'
  simp only [List.append_nil] at hW'
  refine (spared_any W a a' len len' cap cap' st st' hs hs' (by omega) (by omega) hcap).mono fun e W' ⟨he, hB⟩ => ?_
  subst he
  have hT : ∀ t ∈ Try.f4.params.toList, t < Try.prog.types.size := fun t ht => of_decide_eq_true (List.all_eq_true.1 typesB t ht)
  have hold : ∀ x ∈ p0 ++ p1, (fun b => decide (b < W.heap.size)) x.block = true := fun x hx => by simpa using hW'.lt x (by simpa using hx)
  refine ⟨_, rfl, [d0, d1], [], p0 ++ p1, [], p0 ++ p1, [], hW', ?_, ?_, rfl, World.keptBut_mono (fun x hx => ⟨hx, Or.inr (Or.inl hx)⟩) (hB.frame _), fun h => by cases h⟩
  · exact trodAll_cons_mk (shut_bool (by kernel_rfl) _) trodAll_mk0
  · exact Row1.trodAll_spare Row1.shut hB hT hA1 hold
end Go.Proofs.Ytknjjjenklfeoaa.Spared

/- PROVED HERE: vellumkeep.Spared in its second form (SparedUptoSaid): at steps of bulk at most 1048576, Spared returns true and they read behind the call as they read before. -/
namespace Go.Proofs.Ytknjjjenklfeoaa.Spared
open Go.ChangeShapes Go.WideShapes Go.ChangeAt Go.RowKit

theorem own : ownKnob Try.prog.godebug = none := by kernel_rfl
set_option maxRecDepth 100000 in
theorem lifted (os : Os) (started : os.Started) (H : Type) (enc : TypeId × Value → H) (F : Stop.Interp) :
    ReturnsInHanded {} Try.checked os 4 .any ((Rows.OpenSpec.upto Rows.sparedSpec).pre6 enc Try.prog Try.f4 Rows.sparedUptoRow.domain false) (((Rows.OpenSpec.upto Rows.sparedSpec).at F).post enc Try.prog Try.f4 false true false false) := by
  refine returnsInHanded_of_cond (C := Try.checked) (s := Rows.OpenSpec.upto Rows.sparedSpec) (k := Rows.uptoSmall) rfl own started (by kernel_rfl) Try.func4
    (OpenSpec.witness (enc := enc) (C := Try.checked) (s := Rows.OpenSpec.upto Rows.sparedSpec) (k := Rows.uptoSmall) rfl false ⟨#[], #[.slice none 0 0, .slice none 0 0], []⟩ 8 (by kernel_rfl) (by kernel_rfl) (by kernel_rfl)
      (x := ([.nil, .nil], [], [])) (by kernel_rfl) rfl (by kernel_rfl)) ?_
  intro W base args ds gs before hval hW _ hk _
  exact contract H enc W base args ds gs before hval hW hk
theorem saidUpto : Rows.SparedUptoSaid :=
  OpenClaim.holds_of_cond 4 Try.f4 rfl rfl rfl rfl rfl rfl rfl ⟨rfl, rfl, rfl, rfl, rfl⟩ rfl rfl rfl rfl rfl (by kernel_rfl) Try.func4 (by kernel_rfl)
    (of_decide_eq_true (by kernel_rfl)) (by unfold Func.isWrapper; first | (rw [if_pos (by decide +kernel)]; kernel_rfl) | (rw [if_neg (by decide +kernel)]; exact ⟨rfl, rfl⟩))
    (fun os started H enc _ F => lifted os started H enc F)
end Go.Proofs.Ytknjjjenklfeoaa.Spared
namespace Go.Proofs.Ytknjjjenklfeoaa
theorem spared_upto : Rows.SparedUptoSaid := Spared.saidUpto
end Go.Proofs.Ytknjjjenklfeoaa
