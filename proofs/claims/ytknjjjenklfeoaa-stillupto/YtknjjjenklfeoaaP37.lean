import Derived.Test.YtknjjjenklfeoaaP36
import Derived.Test.YtknjjjenklfeoaaP32
import Derived.Test.YtknjjjenklfeoaaP34
import Derived.ChangeSame
import Derived.ProofKit
import Derived.Below
import Derived.Test.YtknjjjenklfeoaaChecked
import Derived.Test.YtknjjjenklfeoaaRows
import Derived.Deep.Slices
import Derived.Deep.DeepHandedRow
import Derived.OpenShut
import Derived.WalkKit
import Derived.JoinedCond
/-
  vellumkeep: Still.
-/
namespace Go.Proofs.Ytknjjjenklfeoaa
open Go.RowKit

def loadCo (a : Addr) : Sem Value := loadVar 28 a
theorem loadVar_co (a : Addr) : loadVar 28 a = loadCo a := rfl
theorem run_loadCo {w : World} {b o : Nat} (h : HasAt w b o 4096) : (loadCo ⟨b, o, none⟩).run Try.prog w = .ok (.agg (cellsAt w b o 4096).toArray) w :=
  run_loadVar_has h 28 _ Try.underlying28 rfl (by kernel_rfl)
def storeCo (a : Addr) (v : Value) : Sem Unit := storeVar 28 a v
theorem storeVar_co (a : Addr) (v : Value) : storeVar 28 a v = storeCo a v := rfl
theorem run_storeCo_new {w : World} {z x : List Clus} (hz : Cont z) (hx : Cont x) :
    (storeCo ⟨w.heap.size, 0, none⟩ (.agg (flatC x).toArray)).run Try.prog (w.alloc (.cells (flatC z).toArray 28)) = .ok () (w.alloc (.cells (flatC x).toArray 28)) :=
  run_storeVar_new w 28 (flatC z).toArray (flatC x).toArray (by simp only [List.size_toArray, hx.flat]; kernel_rfl) (by simp [hz.flat, hx.flat]) (all_oneCell_toArray (flatC_one x))
def zeroCo : Sem Value := zeroValue 28
theorem zeroValue_co : zeroValue 28 = zeroCo := rfl
theorem run_zeroCo (w : World) : zeroCo.run Try.prog w = .ok (.agg (flatC zD).toArray) w :=
  (zero_of_info (P := Try.prog) (t := 28) (v := .agg (flatC zD).toArray) (n := 4096) (by kernel_rfl)).1 w
attribute [local go_sem ↓] loadVar_co storeVar_co zeroValue_co loadVar_st storeVar_st
attribute [local go_sem] run_loadCo run_zeroCo run_loadSt
/-- Where Still stands: the disk, what it holds (in a box), and what is known of it. -/
structure At (w W : World) (d v bc : Nat) (Cv Lv : Value) (V : VolR) (N0 : Nat) (E : List EntR) (K : Nat) (D : DiskR) : Prop where
  at' : KAt w W d v bc Cv Lv V D.C
  held : Held V N0 E K
  disk : dskOf V.C N0 E = D
theorem At.wrote {w W W' : World} {d v bc : Nat} {Cv Lv C1 L1 : Value} {V V' : VolR} {N0 : Nat} {E : List EntR} {K n : Nat} {D : DiskR} (h : At w W d v bc Cv Lv V N0 E K D) (hw : Wr w W W' d v bc Cv Lv C1 L1 V V' N0 E K n) : ∃ D', At w W' d v bc C1 L1 V' N0 E K D' ∧ D'.L = D.L :=
  ⟨_, ⟨hw.at', hw.held, rfl⟩, by rw [hw.pics, h.disk]⟩
theorem At.taken {w W W' : World} {d v bc : Nat} {Cv Lv C1 L1 : Value} {V : VolR} {N0 : Nat} {E : List EntR} {K : Nat} {D : DiskR} (h : At w W d v bc Cv Lv V N0 E K D) (hK : K ≤ 188) (h1 : 1 ≤ K) (hE : E.length ≤ 2) (s : ByteArray) (hs : refTakeR D s = (⟨D.C, D.L ++ [⟨s.data.toList, D.C⟩]⟩, 0)) (hw : VStep W W' v Cv Lv C1 L1 (takeR V s).1) :
    (takeR V s).2 = 0 ∧ (takeR V s).1.L.length ≤ V.L.length + 100 ∧ ∃ E', At w W' d v bc C1 L1 (takeR V s).1 N0 E' (2 * K) ⟨D.C, D.L ++ [⟨s.data.toList, D.C⟩]⟩ ∧ E'.length ≤ E.length + 1 := by
  have hd := h.disk
  obtain ⟨a1, a2, _, E', a4, a5, a6⟩ := h.held.take hK h1 hE s (by rw [hd, hs])
  refine ⟨a1, a2, E', ⟨h.at'.step hw, a4, ?_⟩, a6⟩
  rw [a5, hd, hs]
theorem At.later {w W W' : World} {d v bc : Nat} {Cv Lv : Value} {V : VolR} {N0 : Nat} {E : List EntR} {K : Nat} {D : DiskR} (h : At w W d v bc Cv Lv V N0 E K D) (hb : Below W.heap.size W W') : At w W' d v bc Cv Lv V N0 E K D := ⟨h.at'.later hb, h.held, h.disk⟩
theorem ContAt.has {w : World} {b : Nat} {C : List Clus} (h : ContAt w b C) : HasAt w b 0 4096 ∧ cellsAt w b 0 4096 = flatC C := ⟨blk_has h.blk h.cont.flat, blk_cells h.blk h.cont.flat⟩
theorem At.hyps {w W : World} {d v bc : Nat} {Cv Lv : Value} {V : VolR} {N0 : Nat} {E : List EntR} {K : Nat} {D : DiskR} (h : At w W d v bc Cv Lv V N0 E K D) : DskAt W d v Cv Lv V ∧ 5 < V.C.length ∧ V.C.length ≤ 256 ∧ FirstOK V (num (cl V.C 0) 6) := by
  have h7 := h.held.vol.file.seven
  refine ⟨h.at'.dsk, by omega, h.held.vol.file.most, ?_⟩
  rw [h.held.vol.num6]
  exact h.held.vol.sound.firstOK h.held.vol.roots0

def sOne : ByteArray := ⟨#[111, 110, 101]⟩
def sTwo : ByteArray := ⟨#[116, 119, 111]⟩
theorem pic_read {base : List Clus} {V : VolR} {N0 : Nat} {E : List EntR} (hv : Vol base V N0 E) {D : DiskR} (hd : dskOf V.C N0 E = D) (s : ByteArray) (i : Nat) (ht : thereR D s = ((i : Int), 0)) (C : List Clus) (hC : (picAt D.L i).C = C) : ∀ k : Nat, k < 64 → readOfR V s k = (cl C k, 0) := fun k hk => by
  have hb : blockB (k : Int) = true := by unfold blockB; simp; omega
  rw [← readOf_same hv, hd]
  unfold refReadOf
  rw [ht, if_pos rfl, if_pos hb]
  dsimp only
  rw [Int.toNat_natCast, Int.toNat_natCast, hC]
/-- The disk alone, exact. -/
structure Av (w W : World) (d v : Nat) (Cv Lv : Value) (V : VolR) (N0 : Nat) (E : List EntR) (D : DiskR) : Prop where
  dsk : DskAt W d v Cv Lv V
  vol : Vol [] V N0 E
  exact : ExactS V.C (rsOf N0 E)
  disk : dskOf V.C N0 E = D
  below : Below w.heap.size w W
  lo : ∀ k, dfoot d v Cv Lv k → w.heap.size ≤ k
theorem At.av {w W : World} {d v bc : Nat} {Cv Lv : Value} {V : VolR} {N0 : Nat} {E : List EntR} {K : Nat} {D : DiskR} (h : At w W d v bc Cv Lv V N0 E K D) : Av w W d v Cv Lv V N0 E D := ⟨h.at'.dsk, h.held.vol, h.held.exact, h.disk, h.at'.below, h.at'.lo⟩
theorem Av.later {w W W' : World} {d v : Nat} {Cv Lv : Value} {V : VolR} {N0 : Nat} {E : List EntR} {D : DiskR} (h : Av w W d v Cv Lv V N0 E D) (hb : Below W.heap.size W W') : Av w W' d v Cv Lv V N0 E D := ⟨h.dsk.below hb, h.vol, h.exact, h.disk, h.below.trans (hb.mono h.below.size), h.lo⟩
theorem Av.step {w W W' : World} {d v : Nat} {Cv Lv C1 L1 : Value} {V V' : VolR} {N0 N1 : Nat} {E E' : List EntR} {D D' : DiskR} (h : Av w W d v Cv Lv V N0 E D) (hs : VStep W W' v Cv Lv C1 L1 V') (hv : Vol [] V' N1 E') (hx : ExactS V'.C (rsOf N1 E')) (hd : dskOf V'.C N1 E' = D') : Av w W' d v C1 L1 V' N1 E' D' := by
  refine ⟨h.dsk.step hs, hv, hx, hd, ?_, ?_⟩
  · exact ⟨hs.kept.os.trans h.below.os, hs.kept.tape.trans h.below.tape, hs.kept.output.trans h.below.output, Nat.le_trans h.below.size hs.kept.size, fun i hi => by
      rw [hs.kept.block i (Nat.lt_of_lt_of_le hi h.below.size) (fun x => by have := h.lo i (Or.inr x); omega)]; exact h.below.block i hi⟩
  · rintro k (e | e)
    · exact h.lo k (Or.inl e)
    · rcases hs.new k e with x | x
      · exact h.lo k (Or.inr x)
      · have := h.below.size; omega
theorem Av.box {w W W' : World} {d v b : Nat} {Cv Lv C1 L1 : Value} {V V' : VolR} {N0 : Nat} {E : List EntR} {D : DiskR} {C : List Clus} (h : Av w W d v Cv Lv V N0 E D) (hs : VStep W W' v Cv Lv C1 L1 V') (hb : ContAt W b C) : ContAt W' b C :=
  hb.kept hs.kept (h.dsk.vol.footKey hb.blk (by decide) (by decide) (by decide))
theorem Av.holds {w W : World} {d v b : Nat} {Cv Lv : Value} {V : VolR} {N0 : Nat} {E : List EntR} {D : DiskR} (h : Av w W d v Cv Lv V N0 E D) (hb : ContAt W b D.C) :
    Calls Try.prog 8 #[.pointer (some ⟨d, 0, none⟩), .pointer (some ⟨b, 0, none⟩)] W fun e w' => e = .returned (.bool true) ∧ Below W.heap.size W w' :=
  holds_any W d v b Cv Lv [] V N0 E h.dsk h.vol (by rw [← dskOf_C V.C N0 E, h.disk]; exact hb)
theorem Av.holdsOf {w W : World} {d v b : Nat} {Cv Lv : Value} {V : VolR} {N0 : Nat} {E : List EntR} {D : DiskR} {C : List Clus} (h : Av w W d v Cv Lv V N0 E D) (s : ByteArray) (hs : s.size ≤ maxLen) (i : Nat) (ht : thereR D s = ((i : Int), 0)) (hC : (picAt D.L i).C = C) (hb : ContAt W b C) :
    Calls Try.prog 9 #[.pointer (some ⟨d, 0, none⟩), .string s, .pointer (some ⟨b, 0, none⟩)] W fun e w' => e = .returned (.bool true) ∧ Below W.heap.size W w' :=
  holdsOf_any W d v b Cv Lv [] V N0 E h.dsk h.vol s hs C hb (pic_read h.vol h.disk s i ht C hC)

theorem Av.dropped {w W : World} {d v : Nat} {Cv Lv : Value} {V : VolR} {N0 : Nat} {E : List EntR} {D D' : DiskR} (h : Av w W d v Cv Lv V N0 E D) (s : ByteArray) (hs : s.size ≤ maxLen) (hL : V.L.length ≤ 400000000) (hd : refDropR D s = (D', 0)) :
    Calls Try.prog 11 #[.pointer (some ⟨d, 0, none⟩), .string s] W fun e W' => e = .returned (.int .i64 0) ∧ ∃ C1 L1 V' E', VStep W W' v Cv Lv C1 L1 V' ∧ V'.L.length ≤ V.L.length + 100 ∧ Av w W' d v C1 L1 V' N0 E' D' := by
  have h7 := h.vol.file.seven
  have hdd := h.disk
  refine (diskDrop_any W d v Cv Lv V h.dsk (by omega) h.vol.file.most hL s hs (fun he => h.vol.dropGoes he)).mono ?_
  rintro e W' ⟨rfl, C1, L1, hv⟩
  rcases h.vol.dropCases s with ⟨c, hc, _, e⟩ | ⟨_, h0, l1, _, E', hcm⟩
  · rw [hdd, hd] at e
    injection e with _ e2
    exact absurd e2.symm hc
  · rw [h0]
    exact ⟨rfl, C1, L1, _, E', hv, l1, h.step hv hcm.vol (hcm.exact h.exact) (by rw [hcm.holds, hdd, hd])⟩
theorem Av.checks {w W : World} {d v : Nat} {Cv Lv : Value} {V : VolR} {N0 : Nat} {E : List EntR} {C : List Clus} (h : Av w W d v Cv Lv V N0 E ⟨C, []⟩) :
    Calls Try.prog 12 #[.pointer (some ⟨d, 0, none⟩)] W fun e W' => (∃ q u : Nat, u ≤ 73 ∧ e = .returned (.agg (stateCells ⟨q, u, 0, 0, 0⟩).toArray)) ∧ Below W.heap.size W W' := by
  have h7 := h.vol.file.seven
  have hE : E.length = 0 := by
    have := congrArg (fun d => d.L.length) h.disk
    simp only [dsk_len] at this
    exact this
  have hu := h.vol.used_le
  refine (diskCheck_any W d v Cv Lv V h.dsk (by omega) h.vol.file.most (fun f hf => by rw [h.vol.firsts] at hf; exact h.vol.sound.firstOK hf)).mono ?_
  rintro e W' ⟨rfl, hb⟩
  rw [h.vol.check h.exact]
  exact ⟨⟨_, _, by omega, rfl⟩, hb⟩

set_option maxHeartbeats 4000000 in
set_option maxRecDepth 100000 in
theorem still_any (w : World) (a1 a2 a3 : Option Addr) (n1 n2 n3 c1 c2 c3 : Nat) (s1 s2 s3 : Nat → StepR) (r1 : KRow w a1 n1 s1) (r2 : KRow w a2 n2 s2) (r3 : KRow w a3 n3 s3) (l1 : n1 ≤ 524288) (l2 : n2 ≤ 524288) (l3 : n3 ≤ 524288) :
    Calls Try.prog 3 #[.slice a1 n1 c1, .slice a2 n2 c2, .slice a3 n3 c3] w fun e w' => e = .returned (.bool true) ∧ Below w.heap.size w w' := by
  go_enter Try.func3, Try.ntmps3
  go_wp2_with fail
  refine (keepBegun_any w).mono ?_
  rintro e w1 ⟨d, v, Cv, Lv, rfl, hD, b1, f1⟩
  have K1 : KAt w (w1.alloc (.cells (flatC zD).toArray 28)) d v w1.heap.size Cv Lv newV (dskOf newV.C 6 []).C := by
    have hb : Below w1.heap.size w1 (w1.alloc (.cells (flatC zD).toArray 28)) := (Below.refl _ _).alloc (Nat.le_refl _) _
    refine ⟨hD.below hb, ⟨?_, ?_⟩, b1.trans (hb.mono b1.size), f1, b1.size⟩
    · rw [new_disk]; exact heap_alloc_new _ _
    · rw [new_disk]; exact ⟨zD_all, zD_length⟩
  have K1 := hide K1
  clear hD b1 f1
  go_wp2_with fail
  have G1 : Hid (At w (w1.alloc (.cells (flatC zD).toArray 28)) d v w1.heap.size Cv Lv newV 6 [] 1 zDisk) := ⟨by have := unhide K1; rw [new_disk] at this; exact this, new_held, new_disk⟩
  have lg0 := new_logL
  clear K1
  generalize w1.heap.size = bc at *
  generalize w1.alloc (.cells (flatC zD).toArray 28) = w2 at *
  refine (written_any w w2 d v bc Cv Lv newV 6 [] 1 (Nat.le_refl _) (by rw [new_disk]; exact (unhide G1).at') (unhide G1).held a1 n1 c1 s1 r1 (by omega) (by omega)).mono ?_
  rintro e w3 ⟨rfl, C3, L3, V3, hw3⟩
  obtain ⟨⟨Ca, La⟩, g3, e3⟩ := (unhide G1).wrote hw3
  obtain rfl : La = [] := e3
  have lg3 := hw3.log
  have G3 := hide g3
  clear hw3 g3 G1
  go_wp2_with fail
  obtain ⟨q1, q2, q3, q4⟩ := (unhide G3).hyps
  refine (diskTake_any w3 d v C3 L3 V3 q1 q2 q3 (by omega) q4 ⟨#[111, 110, 101]⟩ (by unfold maxLen; decide)).mono ?_
  rintro e w4 ⟨rfl, C4, L4, hs4⟩
  have t3 : refTakeR ⟨Ca, []⟩ ⟨#[111, 110, 101]⟩ = (⟨Ca, [⟨[111, 110, 101], Ca⟩]⟩, 0) := rfl
  obtain ⟨z4, lg4, E4, g4, n4⟩ := (unhide G3).taken (by omega) (by omega) (by simp) _ t3 hs4
  rw [z4]
  have G4 := hide g4
  clear q1 q4 hs4 g4 G3 z4
  generalize (takeR V3 ⟨#[111, 110, 101]⟩).1 = V4 at *
  obtain ⟨m1, m2⟩ := (unhide G4).at'.cont.has
  have cZ : Cont zD := ⟨zD_all, zD_length⟩
  have cA := (unhide G4).at'.cont.cont
  have st4 := run_storeCo_new (w := w4) cZ cA
  dsimp only at m1 m2 st4 cA
  have B5 : Below w4.heap.size w4 (w4.alloc (.cells (flatC Ca).toArray 28)) := (Below.refl _ _).alloc (Nat.le_refl _) _
  have G5 := hide ((unhide G4).later B5)
  have O5 : Hid (ContAt (w4.alloc (.cells (flatC Ca).toArray 28)) w4.heap.size Ca) := ⟨heap_alloc_new _ _, cA⟩
  have hb5 : Hid (w4.heap.size ≠ bc) := fun e => by have := blk_lt (unhide G4).at'.cont.blk; omega
  have hb5w : Hid (w.heap.size ≤ w4.heap.size) := (unhide G4).at'.below.size
  clear B5 G4
  go_wp2_with fail
  clear m1 m2 st4
  generalize w4.alloc (.cells (flatC Ca).toArray 28) = w5 at *
  generalize w4.heap.size = b1 at *
  refine (written_any w w5 d v bc C4 L4 V4 6 E4 2 (by omega) (by rw [(unhide G5).disk]; exact (unhide G5).at') (unhide G5).held a2 n2 c2 s2 r2 (by omega) (by omega)).mono ?_
  rintro e w6 ⟨rfl, C6, L6, V6, hw6⟩
  obtain ⟨⟨Cb, Lb⟩, g6, e6⟩ := (unhide G5).wrote hw6
  obtain rfl : Lb = [⟨[111, 110, 101], Ca⟩] := e6
  have O6 := hide ((unhide O5).kept hw6.kept (fun x => by
    rcases x with y | y
    · exact (unhide G5).at'.dsk.vol.footKey (unhide O5).blk (by decide) (by decide) (by decide) y
    · exact unhide hb5 y))
  have lg6 := hw6.log
  have G6 := hide g6
  clear hw6 g6 G5 O5
  go_wp2_with fail
  obtain ⟨q1, q2', q3', q4⟩ := (unhide G6).hyps
  refine (diskTake_any w6 d v C6 L6 V6 q1 q2' q3' (by omega) q4 ⟨#[116, 119, 111]⟩ (by unfold maxLen; decide)).mono ?_
  rintro e w7 ⟨rfl, C7, L7, hs7⟩
  have t6 : refTakeR ⟨Cb, [⟨[111, 110, 101], Ca⟩]⟩ ⟨#[116, 119, 111]⟩ = (⟨Cb, [⟨[111, 110, 101], Ca⟩, ⟨[116, 119, 111], Cb⟩]⟩, 0) := rfl
  have n4' : E4.length ≤ 1 := n4
  obtain ⟨z7, lg7, E7, g7, n7⟩ := (unhide G6).taken (by omega) (by omega) (by omega) _ t6 hs7
  rw [z7]
  have O7 := hide ((unhide O6).kept hs7.kept ((unhide G6).at'.dsk.vol.footKey (unhide O6).blk (by decide) (by decide) (by decide)))
  have G7 := hide g7
  clear q1 q4 hs7 g7 G6 z7 O6
  generalize (takeR V6 ⟨#[116, 119, 111]⟩).1 = V7 at *
  obtain ⟨m1, m2⟩ := (unhide G7).at'.cont.has
  have cB := (unhide G7).at'.cont.cont
  have st7 := run_storeCo_new (w := w7) cZ cB
  dsimp only at m1 m2 st7 cB
  have B8 : Below w7.heap.size w7 (w7.alloc (.cells (flatC Cb).toArray 28)) := (Below.refl _ _).alloc (Nat.le_refl _) _
  have G8 := hide ((unhide G7).later B8)
  have O8 := hide ((unhide O7).below B8)
  have T8 : Hid (ContAt (w7.alloc (.cells (flatC Cb).toArray 28)) w7.heap.size Cb) := ⟨heap_alloc_new _ _, cB⟩
  have hb8 : Hid (w7.heap.size ≠ bc) := fun e => by have := blk_lt (unhide G7).at'.cont.blk; omega
  clear B8 G7 O7
  go_wp2_with fail
  clear m1 m2 st7
  generalize w7.alloc (.cells (flatC Cb).toArray 28) = w8 at *
  generalize w7.heap.size = b2 at *
  refine (written_any w w8 d v bc C7 L7 V7 6 E7 4 (by omega) (by rw [(unhide G8).disk]; exact (unhide G8).at') (unhide G8).held a3 n3 c3 s3 r3 (by omega) (by omega)).mono ?_
  rintro e w9 ⟨rfl, C9, L9, V9, hw9⟩
  obtain ⟨⟨Cc, Lc⟩, g9, e9⟩ := (unhide G8).wrote hw9
  obtain rfl : Lc = [⟨[111, 110, 101], Ca⟩, ⟨[116, 119, 111], Cb⟩] := e9
  have O9 := hide ((unhide O8).kept hw9.kept (fun x => by
    rcases x with y | y
    · exact (unhide G8).at'.dsk.vol.footKey (unhide O8).blk (by decide) (by decide) (by decide) y
    · exact unhide hb5 y))
  have T9 := hide ((unhide T8).kept hw9.kept (fun x => by
    rcases x with y | y
    · exact (unhide G8).at'.dsk.vol.footKey (unhide T8).blk (by decide) (by decide) (by decide) y
    · exact unhide hb8 y))
  have lg9 := hw9.log
  have A9 := hide g9.av
  have M9 := hide g9.at'.cont
  have H9 := hide g9.held
  clear hw9 g9 G8 O8 T8
  go_wp2_with fail
  refine ((unhide A9).holds (unhide M9)).mono ?_
  rintro e w10 ⟨rfl, b10⟩
  have A10 := hide ((unhide A9).later b10)
  have O10 := hide ((unhide O9).below b10)
  have T10 := hide ((unhide T9).below b10)
  clear b10 A9 O9 T9 M9
  go_wp2_with fail
  refine ((unhide A10).holdsOf sOne (by unfold maxLen; decide) 0 rfl rfl (unhide O10)).mono ?_
  rintro e w11 ⟨rfl, b11⟩
  have A11 := hide ((unhide A10).later b11)
  have O11 := hide ((unhide O10).below b11)
  have T11 := hide ((unhide T10).below b11)
  clear b11 A10 O10 T10
  go_wp2_with fail
  refine ((unhide A11).holdsOf sTwo (by unfold maxLen; decide) 1 rfl rfl (unhide T11)).mono ?_
  rintro e w12 ⟨rfl, b12⟩
  have A12 := hide ((unhide A11).later b12)
  have O12 := hide ((unhide O11).below b12)
  have T12 := hide ((unhide T11).below b12)
  clear b12 A11 O11 T11
  go_wp2_with fail
  have h7 := (unhide A12).vol.file.seven
  have n7' : E7.length ≤ 2 := by omega
  have Hh := hide (fun he => (unhide A12).vol.returnHyps (s := sOne) he)
  refine (diskReturn_any w12 d v C9 L9 V9 (unhide A12).dsk (by omega) (unhide A12).vol.file.most (by omega) sOne (by unfold maxLen; decide) (fun he => (unhide Hh he).1) (fun he => (unhide Hh he).2)).mono ?_
  rintro e w13 ⟨rfl, C13, L13, hs13⟩
  have t12 : refReturnR ⟨Cc, [⟨[111, 110, 101], Ca⟩, ⟨[116, 119, 111], Cb⟩]⟩ sOne = (⟨Ca, [⟨[111, 110, 101], Ca⟩, ⟨[116, 119, 111], Cb⟩]⟩, 0) := rfl
  obtain ⟨z13, lg13, _, N1, v13, x13, d13⟩ := (unhide H9).returns (by omega) n7' sOne (by rw [(unhide A12).disk, t12])
  rw [z13]
  have A13 := hide ((unhide A12).step hs13 v13 x13 (d13.trans (by rw [(unhide A12).disk, t12])))
  have O13 := hide ((unhide A12).box hs13 (unhide O12))
  have T13 := hide ((unhide A12).box hs13 (unhide T12))
  clear hs13 v13 x13 d13 Hh A12 O12 T12 z13 H9
  generalize (returnR V9 sOne).1 = V13 at *
  go_wp2_with fail
  refine ((unhide A13).holds (unhide O13)).mono ?_
  rintro e w14 ⟨rfl, b14⟩
  have A14 := hide ((unhide A13).later b14)
  have O14 := hide ((unhide O13).below b14)
  have T14 := hide ((unhide T13).below b14)
  clear b14 A13 O13 T13
  go_wp2_with fail
  refine ((unhide A14).holdsOf sTwo (by unfold maxLen; decide) 1 rfl rfl (unhide T14)).mono ?_
  rintro e w15 ⟨rfl, b15⟩
  have A15 := hide ((unhide A14).later b15)
  have O15 := hide ((unhide O14).below b15)
  have T15 := hide ((unhide T14).below b15)
  clear b15 A14 O14 T14
  go_wp2_with fail
  refine ((unhide A15).dropped (D' := ⟨Ca, [⟨[116, 119, 111], Cb⟩]⟩) sOne (by unfold maxLen; decide) (by omega) rfl).mono ?_
  rintro e w16 ⟨rfl, C16, L16, V16, E16, hs16, lg16, a16⟩
  have A16 := hide a16
  have O16 := hide ((unhide A15).box hs16 (unhide O15))
  have T16 := hide ((unhide A15).box hs16 (unhide T15))
  clear hs16 a16 A15 O15 T15
  go_wp2_with fail
  refine ((unhide A16).holds (unhide O16)).mono ?_
  rintro e w17 ⟨rfl, b17⟩
  have A17 := hide ((unhide A16).later b17)
  have O17 := hide ((unhide O16).below b17)
  have T17 := hide ((unhide T16).below b17)
  clear b17 A16 O16 T16
  go_wp2_with fail
  refine ((unhide A17).holdsOf sTwo (by unfold maxLen; decide) 0 rfl rfl (unhide T17)).mono ?_
  rintro e w18 ⟨rfl, b18⟩
  have A18 := hide ((unhide A17).later b18)
  have O18 := hide ((unhide O17).below b18)
  have T18 := hide ((unhide T17).below b18)
  clear b18 A17 O17 T17
  go_wp2_with fail
  refine ((unhide A18).dropped (D' := ⟨Ca, []⟩) sTwo (by unfold maxLen; decide) (by omega) rfl).mono ?_
  rintro e w19 ⟨rfl, C19, L19, V19, E19, hs19, lg19, a19⟩
  have A19 := hide a19
  have O19 := hide ((unhide A18).box hs19 (unhide O18))
  have T19 := hide ((unhide A18).box hs19 (unhide T18))
  clear hs19 a19 A18 O18 T18
  go_wp2_with fail
  refine ((unhide A19).holds (unhide O19)).mono ?_
  rintro e w20 ⟨rfl, b20⟩
  have A20 := hide ((unhide A19).later b20)
  have O20 := hide ((unhide O19).below b20)
  have T20 := hide ((unhide T19).below b20)
  clear b20 A19 O19 T19
  go_wp2_with fail
  refine (unhide A20).checks.mono ?_
  rintro e w21 ⟨⟨q, u, hu, rfl⟩, b21⟩
  have B21 := hide ((unhide A20).later b21).below
  clear b21 A20 O20 T20
  have st21 := run_storeSt_new (w := w21) (z := zs5) ⟨q, u, 0, 0, 0⟩ rfl
  have st22 : (storeSt ⟨w21.heap.size, 0, none⟩ (.agg (stateCells ⟨q, u, 0, 0, 0⟩).toArray)).run Try.prog (w21.alloc (.cells #[.int .i64 0, .int .i64 0, .int .i64 0, .int .i64 0, .int .i64 0] 36)) = .ok () (w21.alloc (.cells (stateCells ⟨q, u, 0, 0, 0⟩).toArray 36)) := st21
  have hx : (w21.alloc (.cells (stateCells ⟨q, u, 0, 0, 0⟩).toArray 36)).heap[w21.heap.size]? = some (.cells (stateCells ⟨q, u, 0, 0, 0⟩).toArray 36 (0, 0)) := heap_alloc_new _ _
  have B22 := hide ((unhide B21).alloc (unhide B21).size (.cells (stateCells ⟨q, u, 0, 0, 0⟩).toArray 36))
  generalize w21.alloc (.cells (stateCells ⟨q, u, 0, 0, 0⟩).toArray 36) = w22 at *
  have y1 : w22.cell? ⟨w21.heap.size, 1, none⟩ = some (.int .i64 (u : Nat)) := (cell_blk (w := w22) hx 1).trans rfl
  have y2 : w22.cell? ⟨w21.heap.size, 2, none⟩ = some (.int .i64 0) := (cell_blk (w := w22) hx 2).trans rfl
  have y3 : w22.cell? ⟨w21.heap.size, 3, none⟩ = some (.int .i64 0) := (cell_blk (w := w22) hx 3).trans rfl
  have y4 : w22.cell? ⟨w21.heap.size, 4, none⟩ = some (.int .i64 0) := (cell_blk (w := w22) hx 4).trans rfl
  have du : decide ((u : Int) ≤ 73) = true := by simp; omega
  clear st21 hx B21
  go_wp2
  go_ret
  exact ⟨rfl, unhide B22⟩
end Go.Proofs.Ytknjjjenklfeoaa

/-
  vellumlaw's begun: a pair behind New or Open.
-/
namespace Go.Proofs.Ytknjjjenklfeoaa
open Go.RowKit
end Go.Proofs.Ytknjjjenklfeoaa

/-
  vellumlaw's step, of the kinds of Blocks.
-/
namespace Go.Proofs.Ytknjjjenklfeoaa
open Go.RowKit
attribute [local go_sem ↓] loadVar_clus storeVar_clus zeroValue_clus equalIn_clus
attribute [local go_sem] run_loadClus run_storeClus run_zeroClus run_storeClus_new run_loadClus_new zc_length HasAt_drew cellsAt_drew
end Go.Proofs.Ytknjjjenklfeoaa

/-
  vellumlaw's plays: a script on two disks in turn, whatever steps there are.
-/
namespace Go.Proofs.Ytknjjjenklfeoaa
open Go.RowKit
section
-- variable {w w1 w2 : World} {i p q b : Nat} {P Q : PairR} {S R : Nat → Prop} {V : BookV} {B : BookR} {U : Nat → Prop}
end
end Go.Proofs.Ytknjjjenklfeoaa

/- A reading of an argument stands in a world whose old blocks are unchanged, whichever spare places are asked for, so long as every block that the reading passes through is asked for. -/
namespace Go.Proofs.Ytknjjjenklfeoaa.Row1
open Go.ChangeShapes Go.WideShapes Go.RowKit

/-- Every type that the program's table tells leads into that table, and no slice is of elements without cells. -/
def shutB (P : Program) (t : TypeId) : Bool :=
  match P.underlying t with
  | some (.slice e) => decide (0 < P.cellsOf e) && decide (e < P.types.size)
  | some (.pointer e) => decide (e < P.types.size)
  | some (.struct fs) => fs.toList.all fun f => decide (f.type < P.types.size)
  | some (.array _ e) => decide (e < P.types.size)
  | some (.map _ e) => decide (e < P.types.size)
  | _ => true
def Shut (P : Program) : Prop := ∀ t, t < P.types.size → shutB P t = true
theorem shut_of {P : Program} (h : ((List.range P.types.size).all (shutB P)) = true) : Shut P := fun t ht => List.all_eq_true.1 h t (List.mem_range.2 ht)
theorem shut : Shut Try.prog := shut_of (by kernel_rfl)

section
variable {H : Type} {enc : TypeId × Value → H} {P : Program} {w : World} {base : Nat} {sp : Nat → Bool}

theorem step_spare (hz : Shut P) {r r' : TypeId → List Value → Option (DataW H × List MemPlace)}
    (hr : ∀ t cs x, t < P.types.size → r t cs = some x → (∀ p ∈ x.2, sp p.block = true) → r' t cs = some x) {t : TypeId} {cs : List Value} {x : DataW H × List MemPlace} (hT : t < P.types.size)
    (h : DataW.trodStep enc P w base (fun _ => true) true r t cs = some x) (hs : ∀ p ∈ x.2, sp p.block = true) :
    DataW.trodStep enc P w base sp true r' t cs = some x := by
  have hz' := hz t hT
  unfold shutB at hz'
  unfold DataW.trodStep at h ⊢
  split at h
  case h_6 e a ht =>
    rw [ht] at hz'
    have hE : e < P.types.size := by simpa using hz'
    simp only [Option.map_eq_some_iff, Option.bind_eq_some_iff] at h ⊢
    obtain ⟨y, ⟨cs', hc, hy⟩, rfl⟩ := h
    exact ⟨y, ⟨cs', hc, hr _ _ _ hE hy (fun p hp => hs p (by simp [hp]))⟩, rfl⟩
  case h_8 e a len cap ht =>
    rw [ht] at hz'
    obtain ⟨he0, hE⟩ : 0 < P.cellsOf e ∧ e < P.types.size := by simpa using hz'
    simp only [if_true] at h ⊢
    split at h
    · rename_i hc
      rw [if_pos hc]
      simp only [Option.map_eq_some_iff, Option.bind_eq_some_iff] at h ⊢
      obtain ⟨elems, he, rest, hrest, rfl⟩ := h
      have hrl : rest.length = cap - len := by simpa using mapM_some_length hrest
      have one : ∀ (i : Nat) (y : DataW H × List MemPlace), y ∈ elems ++ rest →
          (w.cells? base (a.add (i * P.cellsOf e)) (P.cellsOf e)).bind (r e) = some y → (w.cells? base (a.add (i * P.cellsOf e)) (P.cellsOf e)).bind (r' e) = some y := by
        intro i y hy hv
        simp only [Option.bind_eq_some_iff] at hv ⊢
        obtain ⟨cs', hc', hy'⟩ := hv
        refine ⟨cs', hc', hr _ _ _ hE hy' (fun p hp => hs p ?_)⟩
        simp only [List.mem_append, List.mem_flatMap]
        exact Or.inr ⟨y, by simpa using hy, hp⟩
      refine ⟨elems, mapM_carry he (fun i y _ hy => one i y (by simp [hy])), rest, ?_, rfl⟩
      by_cases hcap : cap - len = 0
      · have hr0 : rest = [] := List.eq_nil_of_length_eq_zero (hrl.trans hcap)
        subst hr0
        simp [hcap]
      · have hb : sp a.block = true := by
          refine hs (.cell a.block (a.off + 0)) ?_
          refine List.mem_append.2 (Or.inl (MemPlace.mem_row.2 ⟨0, ?_, rfl⟩))
          exact Nat.mul_pos (by omega) he0
        rw [if_pos hb]
        exact mapM_carry hrest (fun j y _ hy => one (len + j) y (by simp [hy]))
    · cases h
  case h_9 _ fs ht =>
    rw [ht] at hz'
    have hE : ∀ f ∈ fs.toList, f.type < P.types.size := fun f hf => by simpa using List.all_eq_true.1 hz' f hf
    split at h
    · rename_i hc
      rw [if_pos hc]
      simp only [Option.map_eq_some_iff] at h ⊢
      obtain ⟨xs, hx, rfl⟩ := h
      exact ⟨xs, mapM_carry hx (fun f y hf hy hv => hr _ _ _ (hE f hf) hv (fun p hp => hs p (List.mem_flatMap.2 ⟨y, hy, hp⟩))), rfl⟩
    · cases h
  case h_10 _ _ e ht =>
    rw [ht] at hz'
    have hE : e < P.types.size := by simpa using hz'
    split at h
    · rename_i hc
      rw [if_pos hc]
      simp only [Option.map_eq_some_iff] at h ⊢
      obtain ⟨xs, hx, rfl⟩ := h
      exact ⟨xs, mapM_carry hx (fun f y _ hy hv => hr _ _ _ hE hv (fun p hp => hs p (List.mem_flatMap.2 ⟨y, hy, hp⟩))), rfl⟩
    · cases h
  case h_14 k e b ht =>
    rw [ht] at hz'
    have hE : e < P.types.size := by simpa using hz'
    split at h
    · rename_i es clock hb
      split at h
      · rename_i hc
        simp only [Option.bind_eq_some_iff] at h
        obtain ⟨entries, he, hd⟩ := h
        split at hd
        · rename_i hris
          have hx := Option.some.inj hd
          subst hx
          simp only [if_pos hc, Option.bind_eq_some_iff]
          refine ⟨entries, mapM_carry he (fun x y _ hy hv => ?_), by simp [hris]⟩
          simp only [Option.bind_eq_some_iff] at hv ⊢
          obtain ⟨key, hk, hz⟩ := hv
          refine ⟨key, hk, ?_⟩
          split at hz
          · rename_i hf
            rw [if_pos hf]
            simp only [Option.map_eq_some_iff] at hz ⊢
            obtain ⟨q, hq, rfl⟩ := hz
            exact ⟨q, hr _ _ _ hE hq (fun p hp => hs p (by simp only [List.mem_cons, List.mem_flatMap]; exact Or.inr ⟨_, hy, hp⟩)), rfl⟩
          · cases hz
        · cases hd
      · cases h
    · cases h
  all_goals first | exact h | cases h

theorem trod_spare (hz : Shut P) : ∀ (n : Nat) (t : TypeId) (cs : List Value) (x : DataW H × List MemPlace), t < P.types.size →
    DataW.trod enc P w base (fun _ => true) true n t cs = some x → (∀ p ∈ x.2, sp p.block = true) → DataW.trod enc P w base sp true n t cs = some x := by
  intro n
  induction n with
  | zero => intro t cs x _ h; simp [DataW.trod] at h
  | succ n ih =>
    intro t cs x hT h hs
    rw [DataW.trod_step] at h ⊢
    exact step_spare hz ih hT h hs

theorem trodAll_spare {w' : World} (hz : Shut P) (hB : Below w.heap.size w w') :
    ∀ {ts : List TypeId} {vs : List Value} {ds : List (DataW H)} {ps : List MemPlace}, (∀ t ∈ ts, t < P.types.size) → DataW.TrodAll enc P w base (fun _ => true) true ts vs ds ps →
      (∀ p ∈ ps, sp p.block = true) → DataW.TrodAll enc P w' base sp true ts vs ds ps
  | [], [], [], _, _, h, _ => h
  | _ :: _, _ :: _, _ :: _, _, hT, ⟨a, b, ⟨n, h1⟩, h2, e⟩, hs => by
    subst e
    refine ⟨a, b, ⟨n, ?_⟩, trodAll_spare hz hB (fun t ht => hT t (List.mem_cons_of_mem _ ht)) h2 (fun p hp => hs p (List.mem_append_right _ hp)), rfl⟩
    have h3 := trod_spare (sp := sp) hz n _ _ _ (hT _ List.mem_cons_self) h1 (fun p hp => hs p (List.mem_append_left _ hp))
    exact DataW.trod_carry n _ _ _ h3 (fun p hp => hB.same (DataW.trod_lt n _ _ _ h3 p hp))
end
end Go.Proofs.Ytknjjjenklfeoaa.Row1

/- A script that the reading of an argument has passed through lies in memory as SRow says, and it is short where the reading is small. -/
namespace Go.Proofs.Ytknjjjenklfeoaa
open Go.RowKit Go.ChangeShapes Go.WideShapes Go.Deep

section
variable {H : Type} {enc : TypeId × Value → H} {w : World} {sp : Nat → Bool}

theorem six {α : Type} {l : List α} (h : l.length = 6) : ∃ a b c d e f, l = [a, b, c, d, e, f] := by
  match l, h with
  | [a, b, c, d, e, f], _ => exact ⟨a, b, c, d, e, f, rfl⟩
theorem one_int : Try.prog.cellsOf 3 = 1 := by kernel_rfl
theorem one_string : Try.prog.cellsOf 9 = 1 := by kernel_rfl
theorem bulk_pos : ∀ d : DataW H, 1 ≤ Rows.uptoBulk d := by
  intro d
  cases d with
  | lit l => cases l <;> simp [Rows.uptoBulk]
  | _ => simp [Rows.uptoBulk]
theorem bulk_len : ∀ ds : List (DataW H), ds.length ≤ Rows.uptoBulkAll ds
  | [] => Nat.le_refl 0
  | d :: r => by
    have := bulk_pos d
    have := bulk_len r
    show r.length + 1 ≤ Rows.uptoBulk d + Rows.uptoBulkAll r
    omega
theorem bulk_two {D : Nat → DataW H} : ∀ {l : List Nat}, (∀ i ∈ l, 2 ≤ Rows.uptoBulk (D i)) → 2 * l.length ≤ Rows.uptoBulkAll (l.map D)
  | [], _ => Nat.le_refl 0
  | i :: r, h => by
    have h1 := h i List.mem_cons_self
    have h2 := bulk_two (D := D) (l := r) (fun k hk => h k (List.mem_cons_of_mem _ hk))
    show 2 * (r.length + 1) ≤ Rows.uptoBulk (D i) + Rows.uptoBulkAll (r.map D)
    omega
theorem range_of_cells {g o n : Nat} {spot : Option Nat} {cs : List Value} (hn : cs.length = n) (h0 : 0 < n) (h : w.cells? 0 ⟨g, o, spot⟩ n = some cs) : (spot = none → w.rangeAt g o cs) ∧ g < w.heap.size := by
  refine ⟨fun hs => ?_, World.cells?_block h h0⟩
  subst hs
  intro j v hj
  unfold World.cells? at h
  rw [if_pos (Nat.zero_le _)] at h
  have hj' : j < n := by
    rcases Nat.lt_or_ge j n with h' | h'
    · exact h'
    · rw [List.getElem?_eq_none (by omega)] at hj
      cases hj
  have := mapM_some_get h j j (by rw [List.getElem?_range hj'])
  have e : (Addr.add ⟨g, o, none⟩ j) = ⟨g, o + j, none⟩ := by
    unfold Addr.add
    split
    · simp
    · rfl
  rw [e] at this
  rw [this, hj]
end
end Go.Proofs.Ytknjjjenklfeoaa

/- Steps that the reading of an argument has passed through lie in memory as KRow says. -/
namespace Go.Proofs.Ytknjjjenklfeoaa
open Go.RowKit Go.ChangeShapes Go.WideShapes Go.Deep

section
variable {H : Type} {enc : TypeId × Value → H} {w : World} {sp : Nat → Bool}
theorem two_of {α : Type} {l : List α} (h : l.length = 2) : ∃ a b, l = [a, b] := by
  match l, h with
  | [a, b], _ => exact ⟨a, b, rfl⟩
/-- What the reading of a step tells of its cells. -/
theorem open_step {n : Nat} {cs : List Value} {x : DataW H × List MemPlace} (h : DataW.trod enc Try.prog w 0 sp true n 46 cs = some x) :
    ∃ o : StepR, cs = stepCells o ∧ (o.text.size ≤ maxLen ∧ -9223372036854775808 ≤ o.block ∧ o.block ≤ 9223372036854775807) ∧ ∃ ys, x.1 = .agg ys ∧ 0 < ys.length := by
  obtain ⟨xs, m, _, rfl, hl, hlen, hf⟩ := DataW.trod_struct Try.underlying46 h
  have hl6 : cs.length = 2 := hl.trans (by kernel_rfl)
  have hx6 : xs.length = 2 := hlen
  obtain ⟨c0, c1, rfl⟩ := two_of hl6
  obtain ⟨x0, x1, rfl⟩ := two_of hx6
  have f0 : DataW.trod enc Try.prog w 0 sp true m 3 (([c0, c1].drop 0).take (Try.prog.cellsOf 3)) = some x0 := hf 0 _ rfl
  have f1 : DataW.trod enc Try.prog w 0 sp true m 9 (([c0, c1].drop 1).take (Try.prog.cellsOf 9)) = some x1 := hf 1 _ rfl
  rw [one_int] at f0
  rw [one_string] at f1
  change DataW.trod enc Try.prog w 0 sp true m _ [c0] = _ at f0
  change DataW.trod enc Try.prog w 0 sp true m _ [c1] = _ at f1
  obtain ⟨k, hk, _, hwf⟩ := DataW.trod_int (k := .i64) (by kernel_rfl) f0
  obtain ⟨s, hs, _, hsl⟩ := DataW.trod_string (by kernel_rfl) f1
  obtain rfl : c0 = .int .i64 k := by simpa using hk
  obtain rfl : c1 = .string s := by simpa using hs
  have hr : -9223372036854775808 ≤ k ∧ k ≤ 9223372036854775807 := by
    simp [Lit.wf] at hwf
    have e1 : IntKind.i64.min = -9223372036854775808 := by decide
    have e2 : IntKind.i64.max = 9223372036854775807 := by decide
    omega
  exact ⟨⟨k, s⟩, rfl, ⟨hsl, hr⟩, _, rfl, by simp⟩
theorem cells_step : Try.prog.cellsOf 46 = 2 := by kernel_rfl
/-- STEPS, OPENED. -/
theorem open_steps {fuel : Nat} {a : Option Addr} {len cap : Nat} {x : DataW H × List MemPlace} (h : DataW.trod enc Try.prog w 0 (fun _ => true) true fuel 22 [.slice a len cap] = some x) :
    ∃ ops : Nat → StepR, KRow w a len ops ∧ 2 * len ≤ Rows.uptoBulk x.1 := by
  rcases open_slice Try.underlying22 h with ⟨hc, rfl⟩ | ⟨b, len', cap', m, n, D, Pl, hc, _, hl, hm, hmm, rfl, hel⟩
  · obtain ⟨rfl, rfl, rfl⟩ : a = none ∧ len = 0 ∧ cap = 0 := by simpa using hc
    exact ⟨fun _ => ⟨0, .empty⟩, ⟨fun h0 => by omega, fun i hi => by omega⟩, by omega⟩
  · obtain ⟨rfl, rfl, rfl⟩ : a = some b ∧ len = len' ∧ cap = cap' := by simpa using hc
    simp only [if_true] at hmm
    subst hmm
    rw [cells_step] at hel
    have each : ∀ i, i < m → ∃ o : StepR, w.cells? 0 (b.add (i * 2)) 2 = some (stepCells o) ∧ (o.text.size ≤ maxLen ∧ -9223372036854775808 ≤ o.block ∧ o.block ≤ 9223372036854775807) ∧ 2 ≤ Rows.uptoBulk (D i) := by
      intro i hi
      obtain ⟨cs, h1, h2⟩ := hel i hi
      obtain ⟨o, rfl, ht, ys, hy, hp⟩ := open_step h2
      refine ⟨o, h1, ht, ?_⟩
      have hy' : D i = .agg ys := hy
      rw [hy']
      have := bulk_len ys
      show 2 ≤ Rows.uptoBulkAll ys + 1
      omega
    have : Inhabited StepR := ⟨⟨0, .empty⟩⟩
    obtain ⟨ops, hops⟩ := choose_lt each
    obtain ⟨g, o, spot⟩ := b
    refine ⟨ops, ⟨fun h0 => ?_, fun i hi => (hops i (by omega)).2.1⟩, ?_⟩
    · have h1 := (hops 0 (by omega)).1
      have hspot : spot = none := by
        have h2 := h1
        unfold World.cells? at h2
        rw [if_pos (Nat.zero_le _)] at h2
        have h3 := mapM_some_get h2 0 0 rfl
        simpa [Addr.add] using World.cell?_spot (h3.trans (rfl : (stepCells (ops 0))[0]? = some _))
      subst hspot
      have hadd : ∀ i, Addr.add ⟨g, o, none⟩ (i * 2) = ⟨g, o + i * 2, none⟩ := by
        intro i
        unfold Addr.add
        split
        · simp
        · rfl
      refine ⟨g, o, rfl, ?_, fun i hi => ?_⟩
      · rw [hadd] at h1
        exact (range_of_cells (n := 2) rfl (by decide) h1).2
      · have h4 := (hops i (by omega)).1
        rw [hadd] at h4
        exact (range_of_cells (n := 2) rfl (by decide) h4).1 rfl
    · have h5 := bulk_two (D := D) (l := List.range len) (fun i hi => (hops i (by have := List.mem_range.1 hi; omega)).2.2)
      rw [List.length_range] at h5
      show 2 * len ≤ Rows.uptoBulkAll ((List.range len).map D) + Rows.uptoBulkAll _ + 1
      omega
end
end Go.Proofs.Ytknjjjenklfeoaa

/- What the row of vellumkeep's Still asks of its call: true, and the steps read as it did. -/
namespace Go.Proofs.Ytknjjjenklfeoaa.Still
open Go.ChangeShapes Go.WideShapes Go.ChangeAt Go.RowKit

theorem trodAll_three {H : Type} {enc : TypeId × Value → H} {P : Program} {w : World} {base : Nat} {spare : Nat → Bool} {held : Bool} {t t' t2 : TypeId} {args : Array Value} {ds : List (DataW H)} {ps : List MemPlace} (h : DataW.TrodAll enc P w base spare held [t, t', t2] args.toList ds ps) :
    ∃ v v' v2 d d' d2, args = #[v, v', v2] ∧ ds = [d, d', d2] ∧ (∃ p, DataW.Trod enc P w base spare held t v d p) ∧ (∃ p, DataW.Trod enc P w base spare held t' v' d' p) ∧ ∃ p, DataW.Trod enc P w base spare held t2 v2 d2 p := by
  obtain ⟨v, vs, d, ds', p, q, hargs, rfl, rfl, hd, hrest⟩ := trodAll_cons h
  obtain ⟨v', vs', d', ds'', p', q', rfl, rfl, rfl, hd', hrest'⟩ := trodAll_cons hrest
  obtain ⟨v2, vs2, d2, ds2, p2, q2, rfl, rfl, rfl, hd2, hrest2⟩ := trodAll_cons hrest'
  obtain ⟨rfl, rfl, rfl⟩ := trodAll_nil hrest2
  exact ⟨v, v', v2, d, d', d2, by rw [← Array.toArray_toList (xs := args), hargs], rfl, ⟨_, hd⟩, ⟨_, hd'⟩, ⟨_, hd2⟩⟩
theorem typesB : ((Try.f3.params.toList).all fun t => decide (t < Try.prog.types.size)) = true := by kernel_rfl

set_option maxRecDepth 100000 in
theorem contract (H : Type) (enc : TypeId × Value → H) (W : World) (base : Nat) (args : Array Value) (ds gs : List (DataW H)) (before : List MemPlace)
    (hval : ∀ (j : Nat) t v, Try.f3.params[j]? = some t → args[j]? = some v → Value.okWide Try.prog W .any base t v)
    (hW : DataW.Whole enc Try.prog Try.f3.params.toList Rows.stillSpec.vars false W args.toList ds gs before)
    (hsmall : Rows.uptoSmall H (ds ++ gs) = true) :
    Calls Try.prog 3 args W fun e W' => ∃ v, e = .returned v ∧ Rows.stillSpec.post enc Try.prog Try.f3 false true false false W args v W' := by
  have hW' := hW
  obtain ⟨p, q, hA0, hV, rfl, hfz, hnd⟩ := hW
  have hA1 : DataW.TrodAll enc Try.prog W 0 (fun _ => true) true Try.f3.params.toList args.toList ds p := hA0
  have hA := hA1
  rw [Try.params3] at hA hval
  obtain ⟨v0, v1, v2, d0, d1, d2, rfl, rfl, ⟨p0, h0⟩, ⟨p1, h1⟩, ⟨p2, h2⟩⟩ := trodAll_three hA
  obtain ⟨rfl, rfl⟩ := trodVars_none hV
  obtain ⟨a, len, cap, rfl⟩ := okWide_slice Try.underlying22 (hval 0 22 v0 rfl rfl)
  obtain ⟨a', len', cap', rfl⟩ := okWide_slice Try.underlying22 (hval 1 22 v1 rfl rfl)
  obtain ⟨a2, len2, cap2, rfl⟩ := okWide_slice Try.underlying22 (hval 2 22 v2 rfl rfl)
  obtain ⟨fuel, hf⟩ := h0
  obtain ⟨fuel', hf'⟩ := h1
  obtain ⟨fuel2, hf2⟩ := h2
  obtain ⟨st, hs, hb⟩ := open_steps hf
  obtain ⟨st', hs', hb'⟩ := open_steps hf'
  obtain ⟨st2, hs2, hb2⟩ := open_steps hf2
  have hbulk : Rows.uptoBulk d0 + (Rows.uptoBulk d1 + Rows.uptoBulk d2) ≤ 1048576 := by
    have h1 : Rows.uptoBulkAll ([d0, d1, d2] ++ []) ≤ 1048576 := by simpa [Rows.uptoSmall] using hsmall
    have h3 : Rows.uptoBulkAll ([d0, d1, d2] ++ []) = Rows.uptoBulk d0 + (Rows.uptoBulk d1 + (Rows.uptoBulk d2 + 0)) := rfl
    omega
  have e0 : 2 * len ≤ Rows.uptoBulk d0 := hb
  have e1 : 2 * len' ≤ Rows.uptoBulk d1 := hb'
  have e2 : 2 * len2 ≤ Rows.uptoBulk d2 := hb2
  simp only [List.append_nil] at hW'
  refine (still_any W a a' a2 len len' len2 cap cap' cap2 st st' st2 hs hs' hs2 (by omega) (by omega) (by omega)).mono fun e W' ⟨he, hB⟩ => ?_
  subst he
  have hT : ∀ t ∈ Try.f3.params.toList, t < Try.prog.types.size := fun t ht => of_decide_eq_true (List.all_eq_true.1 typesB t ht)
  have hold : ∀ x ∈ p, (fun b => decide (b < W.heap.size)) x.block = true := fun x hx => by simpa using hW'.lt x (by simpa using hx)
  refine ⟨_, rfl, [d0, d1, d2], [], p, [], p, [], hW', ?_, ?_, rfl, World.keptBut_mono (fun x hx => ⟨hx, Or.inr (Or.inl hx)⟩) (hB.frame _), fun h => by cases h⟩
  · exact trodAll_cons_mk (shut_bool (by kernel_rfl) _) trodAll_mk0
  · exact Row1.trodAll_spare Row1.shut hB hT hA1 hold
end Go.Proofs.Ytknjjjenklfeoaa.Still

/- PROVED HERE: vellumkeep.Still in its second form (StillUptoSaid): at steps of bulk at most 1048576, Still returns true and they read behind the call as they read before. -/
namespace Go.Proofs.Ytknjjjenklfeoaa.Still
open Go.ChangeShapes Go.WideShapes Go.ChangeAt Go.RowKit

theorem own : ownKnob Try.prog.godebug = none := by kernel_rfl
set_option maxRecDepth 100000 in
theorem lifted (os : Os) (started : os.Started) (H : Type) (enc : TypeId × Value → H) (F : Stop.Interp) :
    ReturnsInHanded {} Try.checked os 3 .any ((Rows.OpenSpec.upto Rows.stillSpec).pre6 enc Try.prog Try.f3 Rows.stillUptoRow.domain false) (((Rows.OpenSpec.upto Rows.stillSpec).at F).post enc Try.prog Try.f3 false true false false) := by
  refine returnsInHanded_of_cond (C := Try.checked) (s := Rows.OpenSpec.upto Rows.stillSpec) (k := Rows.uptoSmall) rfl own started (by kernel_rfl) Try.func3
    (OpenSpec.witness (enc := enc) (C := Try.checked) (s := Rows.OpenSpec.upto Rows.stillSpec) (k := Rows.uptoSmall) rfl false ⟨#[], #[.slice none 0 0, .slice none 0 0, .slice none 0 0], []⟩ 8 (by kernel_rfl) (by kernel_rfl) (by kernel_rfl)
      (x := ([.nil, .nil, .nil], [], [])) (by kernel_rfl) rfl (by kernel_rfl)) ?_
  intro W base args ds gs before hval hW _ hk _
  exact contract H enc W base args ds gs before hval hW hk
theorem saidUpto : Rows.StillUptoSaid :=
  OpenClaim.holds_of_cond 3 Try.f3 rfl rfl rfl rfl rfl rfl rfl ⟨rfl, rfl, rfl, rfl, rfl⟩ rfl rfl rfl rfl rfl (by kernel_rfl) Try.func3 (by kernel_rfl)
    (of_decide_eq_true (by kernel_rfl)) (by unfold Func.isWrapper; first | (rw [if_pos (by decide +kernel)]; kernel_rfl) | (rw [if_neg (by decide +kernel)]; exact ⟨rfl, rfl⟩))
    (fun os started H enc _ F => lifted os started H enc F)
end Go.Proofs.Ytknjjjenklfeoaa.Still
namespace Go.Proofs.Ytknjjjenklfeoaa
theorem still_upto : Rows.StillUptoSaid := Still.saidUpto
end Go.Proofs.Ytknjjjenklfeoaa
