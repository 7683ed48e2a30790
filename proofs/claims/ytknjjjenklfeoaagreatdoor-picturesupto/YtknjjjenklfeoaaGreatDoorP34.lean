import Derived.Test.YtknjjjenklfeoaaGreatDoorP33
/-
  vellumlaw's asks: Read; File and Log as their owner's.
-/
namespace Go.Proofs.YtknjjjenklfeoaaGreatDoor
open Go.RowKit
attribute [local go_sem ↓] loadVar_clus storeVar_clus zeroValue_clus loadVar_op equalIn_clus
attribute [local go_sem] run_loadClus run_storeClus run_zeroClus run_storeClus_new run_loadClus_new zc_length run_loadOp HasAt_drew cellsAt_drew

/-- What a book has become. -/
structure Booked2 (w w' : World) (b : Nat) (B : BookR) (U : Nat → Prop) (V' : BookV) (B' : BookR) (U' : Nat → Prop) (m : Nat) : Prop where
  at' : BookAt w' b V' B' U'
  next : B'.next ≤ B.next + 2
  files : B'.files.length ≤ B.files.length + 4
  writes : B'.writes.length ≤ B.writes.length + 4
  names : B'.names.length ≤ B.names.length + 4
  lowF : ∀ x ∈ B'.files, x ∈ B.files ∨ x.n ≤ 258
  lowW : ∀ x ∈ B'.writes, x ∈ B.writes ∨ x.n ≤ m
  lowN : ∀ x ∈ B'.names, x ∈ B.names ∨ x.n ≤ 8
  kept : Kept U w w'
  new : ∀ k, U' k → U k ∨ w.heap.size ≤ k

set_option maxHeartbeats 4000000 in
set_option maxRecDepth 100000 in
theorem asksFile_any (w : World) (p b : Nat) (P : PairR) (S U : Nat → Prop) (N0 : Nat) (E : List EntR) (V : BookV) (B : BookR) (h : PairAt w p P S) (hst : Stands P N0 E) (hb : BookAt w b V B U) (hSU : ∀ k, S k → ¬ U k) (hpos : 0 < P.V.L.length) (hL : P.V.L.length ≤ 900000000) (hnx : B.next ≤ 900000000) (hfl : B.files.length ≤ 9000000000) (hwl : B.writes.length ≤ 9000000000) (o : OpR) (hk : o.kind = 9) :
    Calls Tryz.prog 67 #[.pointer (some ⟨p, 0, none⟩), .pointer (some ⟨b, 0, none⟩), .agg (opCells o).toArray] w fun e w' => e = .returned (.bool true) ∧
      ∃ V' B' U', Booked2 w w' b B U V' B' U' (P.V.L.length + 2) := by
  have hg := hst.vol
  have h7 := hg.file.seven
  have hmost := hg.file.most
  have hlens := hg.file.lens
  have hlL := h.dsk.vol.lenL
  have hb0 : Below w.heap.size w (w.alloc (.cells (opCells o).toArray 80)) := (Below.refl _ _).alloc (Nat.le_refl _) _
  have hbx0 : (w.alloc (.cells (opCells o).toArray 80)).heap[w.heap.size]? = some (.cells (opCells o).toArray 80 (0, 0)) := heap_alloc_new _ _
  have ck : (w.alloc (.cells (opCells o).toArray 80)).cell? ⟨w.heap.size, 0, none⟩ = some (.int .i64 9) := by rw [cell_blk hbx0 0, List.getElem?_toArray]; show some (Value.int .i64 o.kind) = _; rw [hk]
  have c0 := (h.below hb0).c0
  have H := hide h
  have HB := hide hb
  have B0 := hide hb0
  have hUlt := hb.lt
  have hSlt := h.lt
  clear h hb hb0 hbx0 hg hst
  go_enter Tryz.func67, Tryz.ntmps67
  go_wp2_with fail
  generalize w.alloc (.cells (opCells o).toArray 80) = w0 at *
  refine (diskFile_any w0 _ _ _ _ _ ((unhide H).below (unhide B0)).dsk (by omega) (by omega)).mono ?_
  rintro e w1 ⟨fv, rfl, rf1, b1⟩
  have B1 := hide ((unhide B0).trans (b1.mono (unhide B0).size))
  have hs0 : w.heap.size ≤ w0.heap.size := (unhide B0).size
  have hfv : ∀ g, fv.ownBlock = some g → w.heap.size ≤ g := fun g hg => Nat.le_trans hs0 (rf1.lt g hg).1
  have R1 := hide (row_base rf1 (Nat.zero_le _))
  clear b1 B0 c0 ck rf1
  go_wp2_with fail
  refine (ownsFile_any w1 b V B U fv P.V.C ((unhide HB).below (unhide B1)) (unhide R1) hlens (fun g hg hu => by have := hfv g hg; have := hUlt g hu; omega) (by omega) (by omega) (by omega)).mono ?_
  rintro e w2 ⟨rfl, V2, B2, U2, hB2, n2, l2, e2w, e2n, m2, k2, s2⟩
  have K2 : Hid (Kept (fun k => U k ∨ w.heap.size ≤ k) w w2) := (Kept.of_below (unhide B1)).trans (k2.mono fun k hk => by
    rcases hk with x | x
    · exact Or.inl x
    · exact Or.inr (hfv k x))
  have H2 := hide ((unhide H).kept (unhide K2) (fun k hk hu => by
    rcases hu with x | x
    · exact hSU k hk x
    · have := hSlt k hk; omega))
  have HB2 := hide hB2
  have c02 := (unhide H2).c0
  have hsz2 := (unhide K2).size
  have hsz1 := (unhide B1).size
  have hU2 : ∀ k, U2 k → U k ∨ w.heap.size ≤ k := fun k hk => by
    rcases s2 k hk with x | x | x
    · exact Or.inl x
    · exact Or.inr (hfv k x)
    · exact Or.inr (by omega)
  have hU2l := hB2.lt
  have HU2 := hide hU2
  have HU2l := hide hU2l
  have Hm2 := hide m2
  have He := hide (And.intro e2w e2n)
  have hn2 : B2.next ≤ B.next + 1 := by omega
  have hl2 : B2.files.length ≤ B.files.length + 3 := by omega
  have hw2 : B2.writes.length ≤ B.writes.length := by rw [e2w]; exact Nat.le_refl _
  have hnm2 : B2.names.length ≤ B.names.length := by rw [e2n]; exact Nat.le_refl _
  clear hB2 k2 s2 hU2 m2 e2w e2n n2 l2 hU2l R1
  go_wp2_with fail
  refine (diskLog_any w2 _ _ _ _ _ (unhide H2).dsk hpos (by omega)).mono ?_
  rintro e w3 ⟨lv, rfl, rl3, b3⟩
  have hlv : ∀ g, lv.ownBlock = some g → w2.heap.size ≤ g := fun g hg => (rl3.lt g hg).1
  have B3 := hide b3
  have R3 := hide (row_base rl3 (Nat.zero_le _))
  clear b3 rl3 c02
  go_wp2_with fail
  refine (ownsLog_any w3 b V2 B2 U2 lv P.V.L ((unhide HB2).below (unhide B3)) (unhide R3) hlL (fun g hg hu => by have := hlv g hg; have := unhide HU2l g hu; omega) (by omega) (by omega) (by omega)).mono ?_
  rintro e w4 ⟨rfl, V4, B4, U4, hB4, n4, l4, e4f, e4n, m4, k4, s4⟩
  have hfin : Booked2 w w4 b B U V4 B4 U4 (P.V.L.length + 2) := by
    obtain ⟨e2w, e2n⟩ := unhide He
    refine ⟨hB4, by omega, by rw [e4f]; omega, by omega, by rw [e4n]; omega, fun x hx => ?_, fun x hx => ?_, fun x hx => Or.inl (by rw [e4n, e2n] at hx; exact hx), ?_, fun k hk => ?_⟩
    · rw [e4f] at hx
      rcases unhide Hm2 x hx with y | y
      · exact Or.inl y
      · exact Or.inr (by omega)
    · rcases m4 x hx with y | y
      · exact Or.inl (by rw [← e2w]; exact y)
      · exact Or.inr y
    · refine ⟨k4.os.trans ((unhide B3).os.trans (unhide K2).os), k4.tape.trans ((unhide B3).tape.trans (unhide K2).tape), k4.output.trans ((unhide B3).output.trans (unhide K2).output), Nat.le_trans hsz2 (Nat.le_trans (unhide B3).size k4.size), fun k hk hnu => ?_⟩
      rw [k4.block k (by have := (unhide B3).size; omega) (fun hu => ?_), (unhide B3).block k (by omega), (unhide K2).block k hk (fun hu => by
        rcases hu with x | x
        · exact hnu x
        · omega)]
      rcases hu with x | x
      · rcases unhide HU2 k x with y | y
        · exact hnu y
        · omega
      · have := hlv k x; omega
    · rcases s4 k hk with x | x | x
      · exact unhide HU2 k x
      · have := hlv k x; exact Or.inr (by omega)
      · have := (unhide B3).size; exact Or.inr (by omega)
  have Hfin := hide hfin
  clear hfin hB4 k4 s4 m4
  go_wp2
  go_ret
  exact ⟨rfl, _, _, _, unhide Hfin⟩
end Go.Proofs.YtknjjjenklfeoaaGreatDoor
