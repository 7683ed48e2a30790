import Derived.Test.YtknjjjenklfeoaaGreatDoorP12
import Derived.Test.YtknjjjenklfeoaaGreatDoorP13
/-
  The program's writeNewBlock.
-/
namespace Go.Proofs.YtknjjjenklfeoaaGreatDoor
open Go.RowKit
attribute [local go_sem ↓] loadVar_clus storeVar_clus zeroValue_clus loadVar_tab storeVar_tab zeroValue_tab loadVar_cnt storeVar_cnt zeroValue_cnt loadVar_head storeVar_head zeroValue_head build_head buildSlice_clus loadVar_wr storeVar_wr zeroValue_wr build_wr buildSlice_wr equalIn_clus loadVar_place storeVar_place zeroValue_place build_place
attribute [local go_sem] run_loadClus run_storeClus run_zeroClus run_storeClus_new run_loadClus_new zc_length run_loadTab run_storeTab run_zeroTab run_storeTab_new run_loadTab_new zt_length run_loadCnt run_storeCnt run_zeroCnt run_storeCnt_new run_loadCnt_new zk_length run_loadHead run_storeHead run_zeroHead run_storeHead_new run_bHead HasAt_drew cellsAt_drew HasAt_drewN cellsAt_drewN run_bsClus run_loadWr run_zeroWr run_storeWr run_storeWr_new run_bWr0 run_bsWr run_loadPlace run_storePlace run_zeroPlace run_storePlace_new run_bPlace
attribute [local go_sem] field_head1 field_head0

/-- What letGo does of a volume, when it is handed the clusters that some numbers tell. -/
def LetsGo (v : Nat) (V V' : VolR) (ns : List Nat) : Prop :=
  ∀ W C1 L1 bx bs, VolAt W v C1 L1 V → W.heap[bx]? = some (.cells #[.slice (some ⟨bs, 0, none⟩) ns.length ns.length] 260 (0, 0)) → W.heap[bs]? = some (.cells (tv ns).toArray 167 (0, 0)) → ¬ foot v C1 L1 bs →
    Calls Tryz.prog 110 #[.pointer (some ⟨v, 0, none⟩), .func (.func 179) #[] #[.pointer (some ⟨bx, 0, none⟩)]] W fun e w' => e = .returned (.tuple #[]) ∧ ∃ C2 L2, VStep W w' v C1 L1 C2 L2 V'

def wnb1 (V : VolR) (data : Clus) : VolR := flushV (putV (claimV V (lowFree (cntsOf V.C) 1)) ((lowFree (cntsOf V.C) 1).getD 0 0) data)
def wnbV (V : VolR) (p : PlaceR) (data : Clus) : VolR := flushV (putNumV (wnb1 V data) (p.second % 32768) p.inSecond ((lowFree (cntsOf V.C) 1).getD 0 0 + 32768))
theorem lowTo_lt (c : List UInt8) (want : Nat) : ∀ k, ∀ n ∈ lowTo c want k, n < k
  | 0, n, hn => by simp [lowTo] at hn
  | k + 1, n, hn => by
    rw [lowTo] at hn
    split at hn
    · have := lowTo_lt c want k n hn; omega
    · split at hn
      · rcases List.mem_append.1 hn with h | h
        · have := lowTo_lt c want k n h; omega
        · rw [List.mem_singleton.1 h]; omega
      · have := lowTo_lt c want k n hn; omega
theorem lowFree_lt (c : List UInt8) (want : Nat) : ∀ n ∈ lowFree c want, n < 256 := lowTo_lt c want 256
theorem lastOf_lt {F : List Nat} (hF : 0 < F.length) (h : ∀ n ∈ F, n < 256) : lastOf F < 256 := by
  unfold lastOf
  rw [List.getD_eq_getElem?_getD, List.getElem?_eq_getElem (by omega)]
  exact h _ (List.getElem_mem _)
theorem claimV_lenC (V : VolR) (F : List Nat) (h5 : 5 ≤ V.C.length) : (claimV V F).C.length = V.C.length := by
  unfold claimV
  simp only [putCnt, putV_lenC, lengthenV_lenC V F (by omega)]
  omega
theorem claimV_lenL (V : VolR) (F : List Nat) : (claimV V F).L.length ≤ V.L.length + 11 := by
  unfold claimV
  have h1 := putCnt_lenL (lengthenV V F) (ones (cntsOf (lengthenV V F).C) F) 4
  have h2 := lengthenV_lenL V F
  omega
theorem ints_get {w : World} {g cap : Nat} {F : List Nat} {base : Nat} (hx : w.ownsRow base 3 1 (.slice (some ⟨g, 0, none⟩) F.length cap) F.length (iv F)) (k : Nat) (hk : k < F.length) : w.cell? ⟨g, k, none⟩ = some (.int .i64 ((F.getD k 0 : Nat) : Int)) := by
  rw [hx.cellAt k (by omega)]
  unfold iv
  rw [List.getElem?_map, List.getD_eq_getElem?_getD, List.getElem?_eq_getElem hk]
  rfl
theorem row_base {w : World} {b1 b2 : Nat} {e : TypeId} {size : Nat} {v : Value} {n : Nat} {xs : List Value} (h : w.ownsRow b1 e size v n xs) (hb : b2 ≤ b1) : w.ownsRow b2 e size v n xs := by
  obtain ⟨h1, h2⟩ := h
  refine ⟨h1, ?_⟩
  rcases h2 with h2 | ⟨g, cap, cur, rfl, hg, r⟩
  · exact Or.inl h2
  · exact Or.inr ⟨g, cap, cur, rfl, Nat.le_trans hb hg, r⟩
def bsNum (parts : Array (Nat × Value)) : Sem Value := Instr.buildSlice 260 1 parts
theorem buildSlice_num (parts : Array (Nat × Value)) : Instr.buildSlice 260 1 parts = bsNum parts := rfl
theorem run_bsNum {w : World} {n : Nat} : (bsNum #[(0, .int .u16 (n : Nat))]).run Tryz.prog w = .ok (.slice (some ⟨w.heap.size, 0, none⟩) 1 1) (w.alloc (.cells (tv [n]).toArray 167)) :=
  run_buildSlice_one w 260 167 1 (.int .u16 0) (.int .u16 (n : Nat)) Tryz.underlying260 (by kernel_rfl) (by omega) (by omega) (by rfl)
attribute [local go_sem ↓] buildSlice_num
attribute [local go_sem] run_bsNum

set_option maxHeartbeats 4000000 in
set_option maxRecDepth 100000 in
theorem writeNewBlock_any (w : World) (v : Nat) (Cv Lv : Value) (V V' : VolR) (h : VolAt w v Cv Lv V) (h5 : 5 < V.C.length) (hC : V.C.length ≤ 256) (hL : V.L.length ≤ 500000000) (p : PlaceR) (hps : p.second < 65536) (hpc : p.second % 32768 < V.C.length) (hpi : p.inSecond < 32) (data : Clus) (hd : data.length = 64)
    (hLG : 0 < (lowFree (cntsOf V.C) 1).length → LetsGo v (wnbV V p data) V' [p.block]) :
    Calls Tryz.prog 107 #[.pointer (some ⟨v, 0, none⟩), .agg (placeCells p).toArray, .agg (cv data).toArray] w fun e w' =>
      if 0 < (lowFree (cntsOf V.C) 1).length then e = .returned (.int .i64 0) ∧ ∃ C1 L1, VStep w w' v Cv Lv C1 L1 V' else e = .returned (.int .i64 5) ∧ Below w.heap.size w w' := by
  have E0 := ((Env.start h).lay (.cells (placeCells p).toArray 171)).lay (.cells (cv data).toArray 38)
  simp only [World.size_alloc] at E0
  have Hf := hide (lowestFree_any _ v Cv Lv V E0.at' (by omega) 1 (by omega))
  have HB : Hid (Below w.heap.size w ((w.alloc (.cells (placeCells p).toArray 171)).alloc (.cells (cv data).toArray 38))) := ((Below.refl _ w).alloc (Nat.le_refl _) _).alloc (by simp) _
  have hFlt := lowFree_lt (cntsOf V.C) 1
  have hFle := (lowTo_le (cntsOf V.C) 1 256).1
  have H1 : Hid (wnb1 V data = flushV (putV (claimV V (lowFree (cntsOf V.C) 1)) ((lowFree (cntsOf V.C) 1).getD 0 0) data)) := rfl
  have H2 : Hid (wnbV V p data = flushV (putNumV (wnb1 V data) (p.second % 32768) p.inSecond ((lowFree (cntsOf V.C) 1).getD 0 0 + 32768))) := rfl
  have E0 := hide E0
  change (lowFree (cntsOf V.C) 1).length ≤ 1 at hFle
  generalize lowFree (cntsOf V.C) 1 = F at *
  by_cases hF : 0 < F.length
  · simp only [if_pos hF]
    have hlt := lastOf_lt hF hFlt
    have hF1 : F.length = 1 := by omega
    have hLG := hLG hF
    have hb0 : F.getD 0 0 < 256 := by rw [List.getD_eq_getElem?_getD, List.getElem?_eq_getElem hF]; exact hFlt _ (List.getElem_mem _)
    have hcC := claimV_lenC V F (by omega)
    have hcL := claimV_lenL V F
    have HC : Hid (∀ W C1 L1 x, VolAt W v C1 L1 V → W.ownsRow 0 3 1 x F.length (iv F) → _) := fun W C1 L1 x hW hx => claim_any W v C1 L1 V hW F hF (by omega) hlt hFlt x hx (by omega) (by omega) (by omega)
    generalize claimV V F = V1 at *
    generalize hbb : F.getD 0 0 = b at *
    have hpC := putV_lenC V1 b data
    have hpL := putV_lenL V1 b data
    have HP1 : Hid (∀ W C1 L1, VolAt W v C1 L1 V1 → _) := fun W C1 L1 hW => put_any W v C1 L1 V1 hW b (by omega) data hd (by omega) (by omega)
    generalize putV V1 b data = V2 at *
    have hf2 := flushV_lenL V2
    have hf2c : (flushV V2).C.length = V2.C.length := by rw [flushV_C]
    rw [← unhide H1] at hf2 hf2c
    have HF2 : Hid (∀ W C1 L1, VolAt W v C1 L1 V2 → _) := fun W C1 L1 hW => flush_any W v C1 L1 V2 hW (by omega)
    rw [← unhide H1] at HF2
    generalize wnb1 V data = V3 at *
    have HN : Hid (∀ W C1 L1, VolAt W v C1 L1 V3 → _) := fun W C1 L1 hW => putNumber_vol W v C1 L1 V3 hW (p.second % 32768) p.inSecond (b + 32768) (by omega) hpi (by omega) (by omega) (by omega)
    have hn4 := putV_lenL V3 (p.second % 32768) (bytesOf ((numsOf (cl V3.C (p.second % 32768))).set p.inSecond (b + 32768)))
    change (putNumV V3 (p.second % 32768) p.inSecond (b + 32768)).L.length ≤ _ at hn4
    generalize hV4 : putNumV V3 (p.second % 32768) p.inSecond (b + 32768) = V4 at *
    have HF4 : Hid (∀ W C1 L1, VolAt W v C1 L1 V4 → _) := fun W C1 L1 hW => flush_any W v C1 L1 V4 hW (by omega)
    rw [← unhide H2] at HF4
    generalize wnbV V p data = V5 at *
    have HO : Hid (∀ W, _) := fun W => own_of b (by omega) W
    have HCl : Hid (∀ W, _) := fun W => cluster_of p.second hps W
    have HLG := hide hLG
    clear hLG h H1 H2 hV4 hFlt hlt
    generalize p.second % 32768 = c2 at *
    go_enter Tryz.func107, Tryz.ntmps107
    go_wp2_with fail
    refine (unhide Hf).mono ?_
    rintro e w1 ⟨x, rfl, hx, hb1⟩
    obtain ⟨g, cap, rfl, _⟩ := row_some hx hF
    have E1 := hide ((unhide E0).later hb1)
    have cx : w1.cell? ⟨g, 0, none⟩ = some (.int .i64 (b : Nat)) := by rw [← hbb]; exact ints_get hx 0 hF
    have Hx := hide (row_base hx (Nat.zero_le _))
    clear hx hb1 Hf E0 HB
    rw [hF1] at HC Hx ⊢
    go_wp2_with fail
    refine (unhide HC w1 _ _ _ (unhide E1).at' (unhide Hx)).mono ?_
    rintro e w2 ⟨rfl, C2, L2, hS2⟩
    have E2 := (unhide E1).does hS2
    have l1 := box_has E2.drew.o0 hd
    have l2 := box_cells E2.drew.o0 hd
    have E2 := hide E2
    clear hS2 E1 Hx cx HC
    go_wp2
    go_region_law (go_simp
                   go_at_call 70
                   refine (unhide HP1 _ _ _ (unhide E2).drew.at').mono ?_
                   rintro e w3 ⟨rfl, C3, L3, hS3⟩
                   have E3 := hide ((unhide E2).drew.does hS3)
                   clear hS3)
    go_wp2_with fail
    refine (unhide HF2 _ _ _ (unhide E3).at').mono ?_
    rintro e w4 ⟨rfl, C4, L4, hS4⟩
    have E4 := (unhide E3).does hS4
    have d1 : w4.drew.cell? ⟨w.heap.size, 3, none⟩ = some (.int .u16 (p.second : Nat)) := (cell_blk E4.drew.o1 3).trans rfl
    have d2 : w4.drew.cell? ⟨w.heap.size, 2, none⟩ = some (.int .i64 (p.inSecond : Nat)) := (cell_blk E4.drew.o1 2).trans rfl
    have E4 := hide E4
    clear hS4 E3 E2 HP1 HF2 l1 l2
    go_wp2
    go_region_law (first
      | (go_simp
         go_at_call 108
         refine (unhide HCl _).mono ?_
         rintro e w5 ⟨rfl, rfl⟩)
      | (go_simp
         go_at_call 161
         refine (unhide HO _).mono ?_
         rintro e w5 ⟨rfl, rfl⟩)
      | (go_simp
         go_at_call 164
         refine (unhide HN _ _ _ (unhide E4).drew.at').mono ?_
         rintro e w5 ⟨rfl, C5, L5, hS5⟩
         have E5 := hide ((unhide E4).drew.does hS5)
         clear hS5))
    all_goals
      clear E4 d1 d2 HN HO HCl
      go_wp2_with fail
      refine (unhide HF4 _ _ _ (unhide E5).at').mono ?_
      rintro e w6 ⟨rfl, C6, L6, hS6⟩
      have E6 := (unhide E5).does hS6
      have d3 : w6.cell? ⟨w.heap.size, 4, none⟩ = some (.int .u16 (p.block : Nat)) := (cell_blk E6.o1 4).trans rfl
      have E7 := E6.lay (.cells (tv [p.block]).toArray 167)
      have Hm := hide (clusters_make (w6.alloc (.cells (tv [p.block]).toArray 167)) (some ⟨w6.heap.size, 0, none⟩) 1 1)
      have E8 := E7.lay (.cells #[.slice (some ⟨w6.heap.size, 0, none⟩) 1 1] 260)
      simp only [World.size_alloc] at E8
      have Hg := hide (unhide HLG _ C6 L6 (w6.heap.size + 1) w6.heap.size E8.at' E8.o0 E8.o1 (E8.objs (w6.heap.size, .cells (tv [p.block]).toArray 167 (0, 0)) (by simp)).2.2)
      have E8 := hide E8
      clear hS6 E6 E7 E5 HF4 HLG
      go_wp2_with fail
      refine (unhide Hm).mono ?_
      rintro e w8 ⟨rfl, rfl⟩
      simp only [World.size_alloc]
      go_wp2_with fail
      refine (unhide Hg).mono ?_
      rintro e w9 ⟨rfl, C9, L9, hS9⟩
      have E9 := hide ((unhide E8).does hS9).step
      go_wp2
      go_ret
      exact ⟨rfl, C9, L9, unhide E9⟩
  · simp only [if_neg hF]
    have hF0 : F.length = 0 := by omega
    go_enter Tryz.func107, Tryz.ntmps107
    go_wp2_with fail
    refine (unhide Hf).mono ?_
    rintro e w1 ⟨x, rfl, hx, hb1⟩
    obtain ⟨g, cap, rfl⟩ := row_form hx
    rw [hF0]
    have HB1 := hide ((unhide HB).trans (hb1.mono (unhide HB).size))
    go_wp2
    go_ret
    exact ⟨rfl, unhide HB1⟩
end Go.Proofs.YtknjjjenklfeoaaGreatDoor
