import Derived.Test.YtknjjjenklfeoaaGreatDoorP31
import Derived.Test.YtknjjjenklfeoaaGreatDoorP19
import Derived.Test.YtknjjjenklfeoaaGreatDoorP09
import Derived.Test.YtknjjjenklfeoaaGreatDoorP05
import Derived.Test.YtknjjjenklfeoaaGreatDoorP03
import Derived.Test.YtknjjjenklfeoaaGreatDoorP07
import Derived.Test.YtknjjjenklfeoaaGreatDoorP18
import Derived.Test.YtknjjjenklfeoaaGreatDoorP02
import Derived.Test.YtknjjjenklfeoaaGreatDoorP01
import Derived.Test.YtknjjjenklfeoaaGreatDoorP24
import Derived.Test.YtknjjjenklfeoaaGreatDoorP25
import Derived.Test.YtknjjjenklfeoaaGreatDoorP30
/-
  Plain: a picture is dropped; the disk is made what a picture is.
-/
namespace Go.Proofs.YtknjjjenklfeoaaGreatDoor
theorem SoundL.held_lt {L : List Clus} {rs : List RootR} (h : SoundL L rs) {r : RootR} (hr : r ∈ rs) : ∀ u ∈ heldAll L r.N, 6 ≤ u ∧ u < L.length := fun u hu => by
  rcases List.mem_cons.1 hu with x | x
  · rw [x]; exact h.fst r hr
  · obtain ⟨j, hj, h0, y | ⟨k, hk, hk0, y⟩⟩ := mem_toldAll (fun i h1 h2 => h.zero r hr i h1 h2) x
    · exact h.sec _ ⟨r, hr, j, hj, h0, y⟩
    · exact h.blk _ ⟨_, ⟨r, hr, j, hj, h0, rfl⟩, k, hk, hk0, y⟩
theorem sum_erase {α : Type} (g : α → Nat) : ∀ (l : List α) (i : Nat) (h : i < l.length), ((l.eraseIdx i).map g).sum + g l[i] = (l.map g).sum
  | a :: l, 0, _ => by simp [Nat.add_comm]
  | a :: l, i + 1, h => by
    have := sum_erase g l i (by simpa using h)
    simp only [List.eraseIdx_cons_succ, List.map_cons, List.sum_cons, List.getElem_cons_succ]
    omega
theorem map_erase {α β : Type} (g : α → β) : ∀ (l : List α) (i : Nat), (l.eraseIdx i).map g = (l.map g).eraseIdx i
  | [], _ => by simp
  | a :: l, 0 => by simp
  | a :: l, i + 1 => by simp [map_erase g l i]
section
variable {base : List Clus} {V : VolR} {N0 : Nat} {E : List EntR} {f n i : Nat}
def eraseD (D : DiskR) (i : Nat) : DiskR := { D with L := D.L.eraseIdx i }
def dropH (V : VolR) (E' : List EntR) : VolR := flushV (putV V 5 (listBytes E'))
theorem EntsOK.erase (h : EntsOK E) (i : Nat) : EntsOK (E.eraseIdx i) :=
  ⟨by have := List.length_eraseIdx_le E i; have := h.len; omega, fun e he => h.all e (List.mem_of_mem_eraseIdx he), by rw [map_erase]; exact h.nodup.sublist (List.eraseIdx_sublist _ _)⟩
theorem Vol.drop (h : Vol base V N0 E) (hi : i < E.length) :
    dropH V (E.eraseIdx i) = epoch V [(5, listBytes (E.eraseIdx i))] ∧ Ok (dropH V (E.eraseIdx i)).C V.C.length N0 (E.eraseIdx i) (eraseD (dskOf V.C N0 E) i) ∧ (dropH V (E.eraseIdx i)).C.length = V.C.length ∧ SoundL (dropH V (E.eraseIdx i)).C (rsOf N0 E) ∧
      Lets (dropH V (E.eraseIdx i)) N0 (E.eraseIdx i) (heldAll (dropH V (E.eraseIdx i)).C (E.getD i ze).first) ∧ Came base V N0 E (letGoV (dropH V (E.eraseIdx i)) (heldAll (dropH V (E.eraseIdx i)).C (E.getD i ze).first)) N0 (E.eraseIdx i) (eraseD (dskOf V.C N0 E) i) := by
  have h7 := h.file.seven
  have hlen := h.sound.len
  have hE' := h.file.ents.erase i
  have e1 : dropH V (E.eraseIdx i) = epoch V [(5, listBytes (E.eraseIdx i))] := by unfold dropH epoch; rw [puts_one]
  have hC : (dropH V (E.eraseIdx i)).C = putsC V.C [(5, listBytes (E.eraseIdx i))] := by rw [e1, epoch_C]
  obtain ⟨c1, c2, c3⟩ := put_kin (C := V.C) (p := 5) (c := listBytes (E.eraseIdx i)) (by omega) (Or.inr rfl)
  rw [← hC] at c1 c2 c3
  have hputs : Puts V (dropH V (E.eraseIdx i)) := by rw [e1]; exact puts_epoch (Puts.refl V) _
  refine ⟨e1, ?_⟩
  clear e1
  generalize dropH V (E.eraseIdx i) = W at *
  have s0 := c1.sound h.sound
  have hg : (E.getD i ze) = E[i] := by rw [List.getD_eq_getElem?_getD, List.getElem?_eq_getElem hi]; rfl
  have hre : rootE (E.getD i ze) ∈ rsOf N0 E := by
    rw [hg]; exact rsOf_mem.2 (Or.inr ⟨_, List.getElem_mem hi, rfl⟩)
  have hsub : ∀ r ∈ rsOf N0 (E.eraseIdx i), r ∈ rsOf N0 E := fun r hr => by
    rcases rsOf_mem.1 hr with x | ⟨e, he, x⟩
    · exact rsOf_mem.2 (Or.inl x)
    · exact rsOf_mem.2 (Or.inr ⟨e, List.mem_of_mem_eraseIdx he, x⟩)
  have huse : ∀ m, useOf (W).C (rsOf N0 (E.eraseIdx i)) m + treeOcc (W).C (E.getD i ze).first m = useOf V.C (rsOf N0 E) m := fun m => by
    rw [← (c1.shape h.sound).use m, hg]
    unfold useOf rsOf
    rw [List.map_cons, List.sum_cons, List.map_cons, List.sum_cons, List.map_map, List.map_map]
    have := sum_erase ((fun r : RootR => treeOcc (W).C r.N m) ∘ rootE) E i hi
    have e2 : ((fun r : RootR => treeOcc (W).C r.N m) ∘ rootE) E[i] = treeOcc (W).C E[i].first m := rfl
    rw [e2] at this
    omega
  have s1 : SoundL (W).C (rsOf N0 (E.eraseIdx i)) := by
    refine s0.roots (fun r hr => ⟨s0.fst r (hsub r hr), s0.fs _ ⟨r, hsub r hr, rfl⟩, s0.fb _ ⟨r, hsub r hr, rfl⟩, r, hsub r hr, fun j _ => rfl⟩) ?_ (fun m hm => ?_)
    · refine s0.nodup.sublist (List.Sublist.map _ ?_)
      unfold rsOf
      exact (List.Sublist.map _ (List.eraseIdx_sublist _ _)).cons_cons _
    · rw [c1.count m hm]
      have := huse m
      have := h.sound.cnt m hm
      omega
  have hlT : (W).C.length = V.C.length := c1.len
  have hfile : FileE (W).C V.C.length N0 (E.eraseIdx i) := by
    refine ⟨?_, by omega, by omega, h7, hlen, h.file.n0, by rw [c3 0 (by omega)]; exact h.file.head, c2, hE'⟩
    rw [hC]
    exact putsC_lens _ _ h.file.lens (fun x hx => by rw [List.mem_singleton.1 hx]; exact hE'.length)
  have hD : dskOf (W).C N0 (E.eraseIdx i) = eraseD (dskOf V.C N0 E) i := by
    rw [dskOf_same (L := V.C) (fun r hr => c1.content h.sound (hsub r hr))]
    refine dskOf_eq (by rw [dskOf_C]) ?_
    rw [dskOf_L, map_erase]
  have ok : Ok (W).C V.C.length N0 (E.eraseIdx i) (eraseD (dskOf V.C N0 E) i) := ⟨hfile, by rw [padTo_self hlT]; exact s1, by rw [padTo_self hlT]; exact hD⟩
  have hheld : ∀ m, (heldAll (W).C (E.getD i ze).first).count m = treeOcc (W).C (E.getD i ze).first m := fun m => count_held (s0.zero _ hre) m
  have hl : Lets (W) N0 (E.eraseIdx i) (heldAll (W).C (E.getD i ze).first) := by
    refine ⟨fun u hu => ?_, fun m hm => ?_⟩
    · have := s0.held_lt hre u hu
      omega
    · rw [hheld m, c1.count m hm]
      have := huse m
      have := h.sound.cnt m hm
      omega
  obtain ⟨g1, g2, g3, g4⟩ := ok.letGo hlT hl
  have hD2 := g1.holds
  rw [padTo_self g2] at hD2
  refine ⟨ok, hlT, s0, hl, g1.vol g2 g3 (h.log.puts (puts_letGo hputs _)), hD2, fun hx => g4 fun m hm => ?_⟩
  rw [hheld m, c1.count m hm, hx.eq m hm]
  have := huse m
  omega

def retH (V : VolR) (f n : Nat) : VolR := flushV (putV (copyV V f n) 0 (headBytes (num (cl (copyV V f n).C 0) 4) n))
def retD (D : DiskR) (i : Nat) : DiskR := { D with C := (D.L.getD i ⟨[], []⟩).C }
theorem Vol.ret (h : Vol base V N0 E) (hi : i < E.length) (hn : n < 256) (h0 : countOf V.C n = 0) (hfit : fitsB (cntsOf V.C) (toldAll V.C (E.getD i ze).first) = true) :
    retH V (E.getD i ze).first n = epoch (copyV V (E.getD i ze).first n) [(0, headBytes (lenTo V.C [n]) n)] ∧ Ok (retH V (E.getD i ze).first n).C (lenTo V.C [n]) n E (retD (dskOf V.C N0 E) i) ∧ (retH V (E.getD i ze).first n).C.length = lenTo V.C [n] ∧ SoundL (retH V (E.getD i ze).first n).C (rsOf N0 E) ∧
      Lets (retH V (E.getD i ze).first n) n E (heldAll (retH V (E.getD i ze).first n).C N0) ∧ Came base V N0 E (letGoV (retH V (E.getD i ze).first n) (heldAll (retH V (E.getD i ze).first n).C N0)) n E (retD (dskOf V.C N0 E) i) := by
  have hg : (E.getD i ze) = E[i] := by rw [List.getD_eq_getElem?_getD, List.getElem?_eq_getElem hi]; rfl
  have hre : rootE (E.getD i ze) ∈ rsOf N0 E := by
    rw [hg]; exact rsOf_mem.2 (Or.inr ⟨_, List.getElem_mem hi, rfl⟩)
  have hf : (E.getD i ze).first ∈ (rsOf N0 E).map (·.N) := List.mem_map.2 ⟨_, hre, rfl⟩
  have hr0 : (⟨N0, 0, []⟩ : RootR) ∈ rsOf N0 E := by simp [rsOf]
  obtain ⟨e, a1, a2, a3, a4, a5, a6, a7, a8⟩ := h.copied hf hn h0 hfit
  obtain ⟨b1, b2, b3, b4, b5, b6, b7⟩ := h.copyTree hf hn h0 hfit
  have hDe : contentOf V.C (E.getD i ze).first = ((dskOf V.C N0 E).L.getD i ⟨[], []⟩).C := by
    unfold dskOf
    simp only [List.getD_eq_getElem?_getD, List.getElem?_map, List.getElem?_eq_getElem hi, Option.map_some, Option.getD_some]
  generalize hfe : (E.getD i ze).first = f at *
  have h6 := h.sound.free_six hn h0
  have hT : lenTo V.C [n] = max V.C.length (n + 1) := rfl
  have h7 := h.file.seven
  have hlen := h.sound.len
  have e1 : retH V f n = epoch (copyV V f n) [(0, headBytes (lenTo V.C [n]) n)] := by
    unfold retH epoch
    rw [a2.file.num4, puts_one]
  have hC : (retH V f n).C = putsC (copyV V f n).C [(0, headBytes (lenTo V.C [n]) n)] := by rw [e1, epoch_C]
  obtain ⟨c1, c2, c3⟩ := put_kin (C := (copyV V f n).C) (p := 0) (c := headBytes (lenTo V.C [n]) n) (by omega) (Or.inl rfl)
  rw [← hC] at c1 c2 c3
  have hputs : Puts V (retH V f n) := by rw [e1]; exact puts_epoch (puts_copy V f n) _
  refine ⟨e1, ?_⟩
  clear e1 e a1 a5 a6 a7
  generalize retH V f n = W at *
  generalize copyV V f n = U at *
  have s0 := c1.sound b1
  have huse : ∀ m, useOf (U).C (rsOf n E) m + treeOcc (U).C N0 m = useOf V.C (rsOf N0 E) m + treeOcc (U).C n m := fun m => by
    rw [← a8.use m]
    unfold useOf rsOf
    rw [List.map_cons, List.sum_cons, List.map_cons, List.sum_cons]
    dsimp only
    omega
  have hall : ∀ m, m < 256 → base6 m + useOf (U).C (rsOf n E) m + treeOcc (U).C N0 m ≤ countOf (U).C m ∧ (countOf V.C m = base6 m + useOf V.C (rsOf N0 E) m → countOf (U).C m = base6 m + useOf (U).C (rsOf n E) m + treeOcc (U).C N0 m) := fun m hm => by
    have h1 := huse m
    have h2 := h.sound.cnt m hm
    rw [a4 m hm]
    rw [b3 m] at h1
    by_cases z : n = m
    · subst z
      have h3 := use_none h.sound (h.sound.untold hn h0)
      have h4 := base6_eq n
      rw [if_neg (by omega)] at h4
      rw [if_pos rfl] at h1 ⊢
      omega
    · rw [if_neg z] at h1 ⊢
      omega
  have s1 : SoundL (U).C (rsOf n E) := by
    refine b1.roots (fun r hr => ?_) ?_ (fun m hm => ?_)
    · rcases rsOf_mem.1 hr with x | ⟨y, hy, x⟩
      · rw [x]
        exact ⟨⟨h6, by rw [a3]; simp only; omega⟩, b4.2.1, b4.2.2, _, hre, fun j hj => by rw [b2 j hj, ← hfe]; rfl⟩
      · have hr' : r ∈ rsOf N0 E := rsOf_mem.2 (Or.inr ⟨y, hy, x⟩)
        exact ⟨b1.fst r hr', b1.fs _ ⟨r, hr', rfl⟩, b1.fb _ ⟨r, hr', rfl⟩, r, hr', fun j _ => rfl⟩
    · have hnd := b1.nodup
      unfold rsOf at hnd ⊢
      rw [List.map_cons, List.nodup_cons] at hnd ⊢
      refine ⟨fun z => ?_, hnd.2⟩
      obtain ⟨r', hr', e2⟩ := List.mem_map.1 z
      exact b4.1 ⟨r', by unfold rsOf; exact List.mem_cons.2 (Or.inr hr'), e2⟩
    · have := (hall m hm).1
      omega
  have s2 := c1.sound s1
  have hlT : (W).C.length = lenTo V.C [n] := by rw [c1.len, a3]
  have hfile : FileE (W).C (lenTo V.C [n]) n E := by
    refine ⟨?_, by omega, by omega, a2.file.seven, a2.file.most, by omega, c2, by rw [c3 5 (by omega)]; exact a2.file.list, a2.file.ents⟩
    rw [hC]
    exact putsC_lens _ _ a2.file.lens (fun x hx => by rw [List.mem_singleton.1 hx]; exact headBytes_length _ _)
  have hD : dskOf (W).C n E = retD (dskOf V.C N0 E) i := by
    have g : ∀ r ∈ rsOf n E, contentOf (W).C r.N = contentOf (U).C r.N := fun r hr => c1.content s1 hr
    have gn := g ⟨n, 0, []⟩ (by simp [rsOf])
    simp only at gn
    have hA : contentOf (W).C n = ((dskOf V.C N0 E).L.getD i ⟨[], []⟩).C := by
      have hb0 := b6 _ hre
      simp only [rootE] at hb0
      rw [gn, b5, ← hDe, ← hfe, hb0]
    have hB : (E.map fun e => (⟨e.name, contentOf (W).C e.first⟩ : PicR)) = (dskOf V.C N0 E).L := by
      rw [dskOf_L]
      apply List.map_congr_left
      intro x hx
      have g1 := g (rootE x) (rsOf_mem.2 (Or.inr ⟨x, hx, rfl⟩))
      have g2 := b6 (rootE x) (rsOf_mem.2 (Or.inr ⟨x, hx, rfl⟩))
      simp only [rootE] at g1 g2
      rw [g1, g2]
    exact dskOf_eq hA hB
  have ok : Ok (W).C (lenTo V.C [n]) n E (retD (dskOf V.C N0 E) i) := ⟨hfile, by rw [padTo_self hlT]; exact s2, by rw [padTo_self hlT]; exact hD⟩
  have hheld : ∀ m, (heldAll (W).C N0).count m = treeOcc (U).C N0 m := fun m => by
    rw [count_held (s0.zero _ hr0) m]; exact c1.tree b1 hr0 m
  have hl : Lets (W) n E (heldAll (W).C N0) := by
    refine ⟨fun u hu => ?_, fun m hm => ?_⟩
    · have := s0.held_lt hr0 u hu
      have := s0.len
      omega
    · rw [hheld m, c1.count m hm, (c1.shape s1).use]
      exact (hall m hm).1
  obtain ⟨g1, g2, g3, g4⟩ := ok.letGo hlT hl
  have hD2 := g1.holds
  rw [padTo_self g2] at hD2
  refine ⟨ok, hlT, s0, hl, g1.vol g2 g3 (h.log.puts (puts_letGo hputs _)), hD2, fun hx => g4 fun m hm => ?_⟩
  rw [hheld m, c1.count m hm, (c1.shape s1).use]
  exact (hall m hm).2 (hx.eq m hm)
end
end Go.Proofs.YtknjjjenklfeoaaGreatDoor

/-
  The program's Take, Return and Drop, of a volume.
-/
namespace Go.Proofs.YtknjjjenklfeoaaGreatDoor
open Go.RowKit

attribute [local go_sem ↓] loadVar_clus storeVar_clus zeroValue_clus loadVar_tab storeVar_tab zeroValue_tab loadVar_cnt storeVar_cnt zeroValue_cnt loadVar_head storeVar_head zeroValue_head build_head buildSlice_clus loadVar_wr storeVar_wr zeroValue_wr build_wr buildSlice_wr equalIn_clus loadVar_place storeVar_place zeroValue_place build_place loadVar_lst storeVar_lst zeroValue_lst storeVar_ent build_ent
attribute [local go_sem] run_loadClus run_storeClus run_zeroClus run_storeClus_new run_loadClus_new zc_length run_loadTab run_storeTab run_zeroTab run_storeTab_new run_loadTab_new zt_length run_loadCnt run_storeCnt run_zeroCnt run_storeCnt_new run_loadCnt_new zk_length run_loadHead run_storeHead run_zeroHead run_storeHead_new run_bHead HasAt_drew cellsAt_drew HasAt_drewN cellsAt_drewN run_bsClus run_loadWr run_zeroWr run_storeWr run_storeWr_new run_bWr0 run_bsWr run_loadPlace run_storePlace run_zeroPlace run_storePlace_new run_bPlace run_loadLst run_storeLst run_zeroLst run_storeLst_new run_storeEnt run_bEnt
attribute [local go_sem] field_head1 field_head0 Oper.semAt_some
attribute [local go_sem ↓] loadVar_ent zeroValue_ent
attribute [local go_sem] run_loadEnt run_zeroEnt run_storeEnt_new
attribute [local go_sem] field_ent0 field_ent1
theorem txt_self (s : ByteArray) : txt s.data.toList = s := by
  cases s; simp [txt]
theorem Short.set {L : List EntR} (h : Short L) (i : Nat) (e : EntR) (h1 : e.name.length ≤ 12) (h2 : e.first < 65536) : Short (L.set i e) := fun k => by
  rw [List.getD_eq_getElem?_getD, List.getElem?_set]
  split
  · split
    · exact ⟨h1, h2⟩
    · decide
  · have := h k
    rw [List.getD_eq_getElem?_getD] at this
    exact this
end Go.Proofs.YtknjjjenklfeoaaGreatDoor

/-
  The program's Return and Drop, of a volume.
-/
namespace Go.Proofs.YtknjjjenklfeoaaGreatDoor
open Go.RowKit

attribute [local go_sem ↓] loadVar_clus storeVar_clus zeroValue_clus loadVar_tab storeVar_tab zeroValue_tab loadVar_cnt storeVar_cnt zeroValue_cnt loadVar_head storeVar_head zeroValue_head build_head buildSlice_clus loadVar_wr storeVar_wr zeroValue_wr build_wr buildSlice_wr equalIn_clus loadVar_place storeVar_place zeroValue_place build_place loadVar_lst storeVar_lst zeroValue_lst storeVar_ent build_ent
attribute [local go_sem] run_loadClus run_storeClus run_zeroClus run_storeClus_new run_loadClus_new zc_length run_loadTab run_storeTab run_zeroTab run_storeTab_new run_loadTab_new zt_length run_loadCnt run_storeCnt run_zeroCnt run_storeCnt_new run_loadCnt_new zk_length run_loadHead run_storeHead run_zeroHead run_storeHead_new run_bHead HasAt_drew cellsAt_drew HasAt_drewN cellsAt_drewN run_bsClus run_loadWr run_zeroWr run_storeWr run_storeWr_new run_bWr0 run_bsWr run_loadPlace run_storePlace run_zeroPlace run_storePlace_new run_bPlace run_loadLst run_storeLst run_zeroLst run_storeLst_new run_storeEnt run_bEnt
attribute [local go_sem] field_head1 field_head0 Oper.semAt_some
attribute [local go_sem ↓] loadVar_ent zeroValue_ent
attribute [local go_sem] run_loadEnt run_zeroEnt run_storeEnt_new
attribute [local go_sem] field_ent0 field_ent1
end Go.Proofs.YtknjjjenklfeoaaGreatDoor

/-
  The program's Return, of a volume; Take, Return and Drop of a disk.
-/
namespace Go.Proofs.YtknjjjenklfeoaaGreatDoor
open Go.RowKit

attribute [local go_sem ↓] loadVar_clus storeVar_clus zeroValue_clus loadVar_tab storeVar_tab zeroValue_tab loadVar_cnt storeVar_cnt zeroValue_cnt loadVar_head storeVar_head zeroValue_head build_head buildSlice_clus loadVar_wr storeVar_wr zeroValue_wr build_wr buildSlice_wr equalIn_clus loadVar_place storeVar_place zeroValue_place build_place loadVar_lst storeVar_lst zeroValue_lst storeVar_ent build_ent
attribute [local go_sem] run_loadClus run_storeClus run_zeroClus run_storeClus_new run_loadClus_new zc_length run_loadTab run_storeTab run_zeroTab run_storeTab_new run_loadTab_new zt_length run_loadCnt run_storeCnt run_zeroCnt run_storeCnt_new run_loadCnt_new zk_length run_loadHead run_storeHead run_zeroHead run_storeHead_new run_bHead HasAt_drew cellsAt_drew HasAt_drewN cellsAt_drewN run_bsClus run_loadWr run_zeroWr run_storeWr run_storeWr_new run_bWr0 run_bsWr run_loadPlace run_storePlace run_zeroPlace run_storePlace_new run_bPlace run_loadLst run_storeLst run_zeroLst run_storeLst_new run_storeEnt run_bEnt
attribute [local go_sem] field_head1 field_head0 Oper.semAt_some
attribute [local go_sem ↓] loadVar_ent zeroValue_ent
attribute [local go_sem] run_loadEnt run_zeroEnt run_storeEnt_new
attribute [local go_sem] field_ent0 field_ent1
end Go.Proofs.YtknjjjenklfeoaaGreatDoor

/-
  The reference's pictures: Find, there, ReadOf, Return.
-/
namespace Go.Proofs.YtknjjjenklfeoaaGreatDoor
open Go.RowKit
attribute [local go_sem ↓] loadVar_clus storeVar_clus zeroValue_clus loadVar_cont storeVar_cont zeroValue_cont build_disk equalIn_cont loadVar_pic buildSlice_pic equalIn_pic build_pic
attribute [local go_sem] run_loadClus run_storeClus run_zeroClus run_storeClus_new run_loadClus_new zc_length run_loadCont run_storeCont run_zeroCont run_bDisk run_loadPic run_bsPic run_bPic
def refFindFrom (Ps : List PicR) (s : ByteArray) : Nat → Nat → Int
  | 0, _ => -1
  | m + 1, k => if txt (picAt Ps k).name = s then (k : Int) else refFindFrom Ps s m (k + 1)
def refFind (D : DiskR) (s : ByteArray) : Int := refFindFrom D.L s D.L.length 0
/-- What there answers. -/
def thereR (D : DiskR) (s : ByteArray) : Int × Nat := if isNameB s.data.toList = false then (-1, 2) else if refFind D s < 0 then (-1, 4) else (refFind D s, 0)
end Go.Proofs.YtknjjjenklfeoaaGreatDoor

/-
  The program's List.
-/
namespace Go.Proofs.YtknjjjenklfeoaaGreatDoor
open Go.RowKit

attribute [local go_sem ↓] loadVar_clus storeVar_clus zeroValue_clus loadVar_tab storeVar_tab zeroValue_tab loadVar_cnt storeVar_cnt zeroValue_cnt loadVar_head storeVar_head zeroValue_head build_head buildSlice_clus loadVar_wr storeVar_wr zeroValue_wr build_wr buildSlice_wr equalIn_clus loadVar_place storeVar_place zeroValue_place build_place loadVar_lst storeVar_lst zeroValue_lst storeVar_ent build_ent
attribute [local go_sem] run_loadClus run_storeClus run_zeroClus run_storeClus_new run_loadClus_new zc_length run_loadTab run_storeTab run_zeroTab run_storeTab_new run_loadTab_new zt_length run_loadCnt run_storeCnt run_zeroCnt run_storeCnt_new run_loadCnt_new zk_length run_loadHead run_storeHead run_zeroHead run_storeHead_new run_bHead HasAt_drew cellsAt_drew HasAt_drewN cellsAt_drewN run_bsClus run_loadWr run_zeroWr run_storeWr run_storeWr_new run_bWr0 run_bsWr run_loadPlace run_storePlace run_zeroPlace run_storePlace_new run_bPlace run_loadLst run_storeLst run_zeroLst run_storeLst_new run_storeEnt run_bEnt
attribute [local go_sem] field_head1 field_head0 Oper.semAt_some
attribute [local go_sem ↓] loadVar_ent zeroValue_ent
attribute [local go_sem] run_loadEnt run_zeroEnt run_storeEnt_new
def sv (N : List (List UInt8)) : List Value := N.map fun s => .string (txt s)
end Go.Proofs.YtknjjjenklfeoaaGreatDoor

/-
  The reference's pictures: Return, List.
-/
namespace Go.Proofs.YtknjjjenklfeoaaGreatDoor
open Go.RowKit
attribute [local go_sem ↓] loadVar_clus storeVar_clus zeroValue_clus loadVar_cont storeVar_cont zeroValue_cont build_disk equalIn_cont loadVar_pic buildSlice_pic equalIn_pic build_pic
attribute [local go_sem] run_loadClus run_storeClus run_zeroClus run_storeClus_new run_loadClus_new zc_length run_loadCont run_storeCont run_zeroCont run_bDisk run_loadPic run_bsPic run_bPic
theorem DiskAt.setC {w : World} {d : Nat} {Pv : Value} {C : List Clus} {L : List PicR} (h : DiskAt w d Pv ⟨C, L⟩) {C' : List Clus} (hC : Cont C') : DiskAt (w.setCells d 0 (flatC C')) d Pv ⟨C', L⟩ := by
  have hk : Kept (fun x => x = d) w (w.setCells d 0 (flatC C')) := Kept.onlys _ _ _ _
  refine ⟨?_, ownsRow_kept hk h.row (fun g hg => h.neP g hg), hC, h.pics⟩
  have := heap_setCells_same (flatC C') 0 w d _ _ _ h.blk
  rw [this]
  congr 2
  show setList (flatC C ++ [Pv]).toArray 0 (flatC C') = (flatC C' ++ [Pv]).toArray
  exact setList_front _ _ _ (by have h1 := h.cont.flat; have h2 := hC.flat; simp only at h1; omega)

end Go.Proofs.YtknjjjenklfeoaaGreatDoor

/-
  The reference's pictures: Take, Drop.
-/
namespace Go.Proofs.YtknjjjenklfeoaaGreatDoor
open Go.RowKit
attribute [local go_sem ↓] loadVar_clus storeVar_clus zeroValue_clus loadVar_cont storeVar_cont zeroValue_cont build_disk equalIn_cont loadVar_pic buildSlice_pic equalIn_pic build_pic
attribute [local go_sem] run_loadClus run_storeClus run_zeroClus run_storeClus_new run_loadClus_new zc_length run_loadCont run_storeCont run_zeroCont run_bDisk run_loadPic run_bsPic run_bPic
/-- What a call has done to the reference's disk. -/
structure DStep (w w' : World) (d : Nat) (Pv Qv : Value) (D' : DiskR) : Prop where
  at' : DiskAt w' d Qv D'
  kept : Kept (fun x => x = d ∨ Pv.ownBlock = some x) w w'
  new : ∀ g, Qv.ownBlock = some g → Pv.ownBlock = some g ∨ w.heap.size ≤ g
theorem DStep.refl {w : World} {d : Nat} {Pv : Value} {D : DiskR} (h : DiskAt w d Pv D) : DStep w w d Pv Pv D := ⟨h, Kept.refl _ _, fun _ hg => Or.inl hg⟩

end Go.Proofs.YtknjjjenklfeoaaGreatDoor

/-
  The reference's pictures: Drop.
-/
namespace Go.Proofs.YtknjjjenklfeoaaGreatDoor
open Go.RowKit
attribute [local go_sem ↓] loadVar_clus storeVar_clus zeroValue_clus loadVar_cont storeVar_cont zeroValue_cont build_disk equalIn_cont loadVar_pic buildSlice_pic equalIn_pic build_pic
attribute [local go_sem] run_loadClus run_storeClus run_zeroClus run_storeClus_new run_loadClus_new zc_length run_loadCont run_storeCont run_zeroCont run_bDisk run_loadPic run_bsPic run_bPic
end Go.Proofs.YtknjjjenklfeoaaGreatDoor

/-
  The reference's Room: may a first table's tree be used once more?
-/
namespace Go.Proofs.YtknjjjenklfeoaaGreatDoor
open Go.RowKit
def nv (M : List Nat) : List Value := M.map nat64
theorem nv_length (M : List Nat) : (nv M).length = M.length := by simp [nv]
theorem nv_get (M : List Nat) (n : Nat) (hn : n < M.length) : (nv M)[n]? = some (.int .i64 ((M.getD n 0 : Nat) : Int)) := by
  unfold nv
  rw [List.getElem?_map, List.getD_eq_getElem?_getD, List.getElem?_eq_getElem hn]; rfl
def zI : List Nat := List.replicate 256 0
theorem zI_length : zI.length = 256 := List.length_replicate
def zeroInts : Sem Value := zeroValue 91
theorem zeroValue_ints : zeroValue 91 = zeroInts := rfl
theorem run_zeroInts (w : World) : zeroInts.run Tryz.prog w = .ok (.agg (nv zI).toArray) w :=
  (zero_of_info (P := Tryz.prog) (t := 91) (v := .agg (nv zI).toArray) (n := 256) (by kernel_rfl)).1 w
attribute [local go_sem ↓] loadVar_clus zeroValue_ints
attribute [local go_sem] run_loadClus run_zeroInts
def bump (M : List Nat) (n : Nat) : List Nat := M.set n (M.getD n 0 + 1)
theorem bump_length (M : List Nat) (n : Nat) : (bump M n).length = M.length := by simp [bump]
def moreIn (L : List Clus) (s : Nat) (M : List Nat) : Nat → List Nat
  | 0 => M
  | k + 1 => if num (cl L s) (2 * k) = 0 then moreIn L s M k else bump (moreIn L s M k) (num (cl L s) (2 * k) % 32768)
def moreOut (L : List Clus) (t : Nat) : Nat → List Nat
  | 0 => zI
  | i + 1 => if num (cl L t) (2 * i) = 0 then moreOut L t i else moreIn L (num (cl L t) (2 * i) % 32768) (bump (moreOut L t i) (num (cl L t) (2 * i) % 32768)) 32
theorem moreIn_length (L : List Clus) (s : Nat) (M : List Nat) : ∀ k, (moreIn L s M k).length = M.length
  | 0 => rfl
  | k + 1 => by
    rw [moreIn]
    split
    · exact moreIn_length L s M k
    · rw [bump_length]; exact moreIn_length L s M k
theorem moreOut_length (L : List Clus) (t : Nat) : ∀ i, (moreOut L t i).length = 256
  | 0 => zI_length
  | i + 1 => by
    rw [moreOut]
    split
    · exact moreOut_length L t i
    · rw [moreIn_length, bump_length]; exact moreOut_length L t i
def AtMost (b : Nat) (M : List Nat) : Prop := ∀ n, M.getD n 0 ≤ b
theorem bump_most {b : Nat} {M : List Nat} (h : AtMost b M) (n : Nat) : AtMost (b + 1) (bump M n) := fun m => by
  unfold bump
  rw [List.getD_eq_getElem?_getD, List.getElem?_set]
  have h1 := h n
  have h2 := h m
  rw [List.getD_eq_getElem?_getD] at h1 h2
  split
  · split
    · simp only [Option.getD_some, List.getD_eq_getElem?_getD]; omega
    · simp
  · omega
theorem zI_most : AtMost 0 zI := fun n => by
  unfold zI
  rw [List.getD_eq_getElem?_getD, List.getElem?_replicate]
  split <;> simp
def roomFrom (L : List Clus) (M : List Nat) : Nat → Nat → Bool
  | 0, _ => true
  | m + 1, n => if 254 < countOf L n + M.getD n 0 then false else roomFrom L M m (n + 1)
def roomR (L : List Clus) (t : Nat) : Bool := roomFrom L (moreOut L t 2) L.length 0 && decide (0 < freeOf L)

end Go.Proofs.YtknjjjenklfeoaaGreatDoor

/-
  Plain: what Take, Return and Drop make of a volume, and of what it holds.
-/
namespace Go.Proofs.YtknjjjenklfeoaaGreatDoor
section
variable {base : List Clus} {V : VolR} {N0 : Nat} {E : List EntR} {s : ByteArray}
theorem Vol.ents (h : Vol base V N0 E) : entsOf (cl V.C 5) = pad4 E ∧ lenOf (entsOf (cl V.C 5)) = E.length := by
  rw [h.file.list, h.file.ents.entsOf]
  exact ⟨rfl, h.file.ents.lenOf⟩
theorem txt_inj {a b : List UInt8} (h : txt a = txt b) : a = b := by
  have := congrArg (fun x : ByteArray => x.data.toList) h
  simpa [txt] using this
theorem dsk_name (L : List Clus) (k : Nat) (hk : k < E.length) : (picAt (dskOf L N0 E).L k).name = ((pad4 E).getD k ze).name ∧ (picAt (dskOf L N0 E).L k).C = contentOf L ((pad4 E).getD k ze).first := by
  rw [pad4_get k hk]
  unfold picAt
  rw [dskOf_L, List.getD_eq_getElem?_getD, List.getD_eq_getElem?_getD, List.getElem?_map, List.getElem?_eq_getElem hk]
  exact ⟨rfl, rfl⟩
theorem find_same (L : List Clus) : ∀ m k, k + m = E.length → refFindFrom (dskOf L N0 E).L s m k = findFrom (pad4 E) s m k
  | 0, _, _ => rfl
  | m + 1, k, h => by
    rw [refFindFrom, findFrom, (dsk_name L k (by omega)).1, find_same L m (k + 1) (by omega)]
theorem dsk_len (L : List Clus) : (dskOf L N0 E).L.length = E.length := by rw [dskOf_L, List.length_map]
theorem Vol.find (h : Vol base V N0 E) : refFind (dskOf V.C N0 E) s = findE (entsOf (cl V.C 5)) s := by
  unfold refFind findE
  rw [h.ents.2, h.ents.1, dsk_len]
  exact find_same V.C E.length 0 (by omega)
theorem find_none : ∀ m k, k + m = E.length → findFrom (pad4 E) s m k < 0 → ∀ j, k ≤ j → j < E.length → ((pad4 E).getD j ze).name ≠ s.data.toList
  | 0, k, h, _, j, h1, h2 => by omega
  | m + 1, k, h, hf, j, h1, h2 => by
    rw [findFrom] at hf
    split at hf
    · omega
    · rename_i hn
      by_cases e : k = j
      · subst e
        intro he
        exact hn (by rw [he]; exact txt_self s)
      · exact find_none m (k + 1) (by omega) hf j (by omega) h2
theorem Vol.fresh (h : Vol base V N0 E) (hf : findE (entsOf (cl V.C 5)) s < 0) : s.data.toList ∉ E.map (·.name) := by
  unfold findE at hf
  rw [h.ents.2, h.ents.1] at hf
  intro hm
  obtain ⟨e, he, e1⟩ := List.mem_map.1 hm
  obtain ⟨j, hj, rfl⟩ := List.getElem_of_mem he
  have := find_none E.length 0 (by omega) hf j (by omega) hj
  rw [pad4_get j hj, List.getD_eq_getElem?_getD, List.getElem?_eq_getElem hj] at this
  exact this e1
theorem Vol.there (h : Vol base V N0 E) : (∃ m, m ≠ 0 ∧ m ≠ 5 ∧ entR V s = (0, m) ∧ thereR (dskOf V.C N0 E) s = (-1, m)) ∨ ∃ i, i < E.length ∧ entR V s = (((i : Nat) : Int), 0) ∧ thereR (dskOf V.C N0 E) s = (((i : Nat) : Int), 0) ∧ refFind (dskOf V.C N0 E) s = (i : Int) := by
  unfold thereR entR
  rw [h.find]
  by_cases hn : isNameB s.data.toList = false
  · rw [if_pos hn, if_pos hn]
    exact Or.inl ⟨2, by decide, by decide, rfl, rfl⟩
  · rw [if_neg hn, if_neg hn]
    by_cases hf : findE (entsOf (cl V.C 5)) s < 0
    · rw [if_pos hf, if_pos hf]
      exact Or.inl ⟨4, by decide, by decide, rfl, rfl⟩
    · rw [if_neg hf, if_neg hf]
      obtain ⟨i, _, h2, h3⟩ := findFrom_some (entsOf (cl V.C 5)) s (lenOf (entsOf (cl V.C 5))) 0 (by unfold findE at hf; omega)
      have h4 : findE (entsOf (cl V.C 5)) s = (i : Int) := h3
      rw [h4]
      exact Or.inr ⟨i, by rw [h.ents.2] at h2; omega, rfl, rfl, rfl⟩
/-- What Room says, and what copyFirst finds. -/
theorem roomFrom_iff (L : List Clus) (M : List Nat) : ∀ m n, roomFrom L M m n = true ↔ ∀ j, n ≤ j → j < n + m → countOf L j + M.getD j 0 ≤ 254
  | 0, n => by simp [roomFrom]; intro j h1 h2; omega
  | m + 1, n => by
    rw [roomFrom]
    by_cases hg : 254 < countOf L n + M.getD n 0
    · rw [if_pos hg]
      constructor
      · intro h; cases h
      · intro h; have := h n (by omega) (by omega); omega
    · rw [if_neg hg, roomFrom_iff L M m (n + 1)]
      constructor
      · intro h j h1 h2
        by_cases e : n = j
        · subst e; omega
        · exact h j (by omega) (by omega)
      · intro h j h1 h2; exact h j (by omega) (by omega)
theorem bump_get (M : List Nat) (n m : Nat) (hn : n < M.length) : (bump M n).getD m 0 = M.getD m 0 + if n = m then 1 else 0 := by
  unfold bump
  rw [List.getD_eq_getElem?_getD, List.getElem?_set]
  by_cases e : n = m
  · subst e
    rw [if_pos rfl, if_pos hn, if_pos rfl, Option.getD_some]
  · rw [if_neg e, if_neg e, List.getD_eq_getElem?_getD]; rfl
theorem sumFrom_last (f : Nat → Nat) : ∀ m k, sumFrom f (m + 1) k = sumFrom f m k + f (k + m)
  | 0, k => by simp [sumFrom]
  | m + 1, k => by
    rw [sumFrom, sumFrom_last f m (k + 1), sumFrom, show k + 1 + m = k + (m + 1) by omega]
    omega
theorem moreIn_get (L : List Clus) (t : Nat) (M : List Nat) (hM : M.length = 256) (n : Nat) : ∀ k, k ≤ 32 → (∀ q, q < k → nm L t q ≠ 0 → nm L t q % 32768 < 256) → (moreIn L t M k).getD n 0 = M.getD n 0 + sumFrom (fun q => hit (nm L t q) n) k 0
  | 0, _, _ => by simp [moreIn, sumFrom]
  | k + 1, hk, hq => by
    have ih := moreIn_get L t M hM n k (by omega) (fun q h => hq q (by omega))
    rw [moreIn, sumFrom_last]
    by_cases h0 : num (cl L t) (2 * k) = 0
    · rw [if_pos h0, ih]
      have : hit (nm L t (0 + k)) n = 0 := by rw [Nat.zero_add]; unfold nm; rw [h0, hit_zero]
      rw [this]; omega
    · rw [if_neg h0, bump_get _ _ _ (by rw [moreIn_length, hM]; exact hq k (by omega) h0), ih]
      have : hit (nm L t (0 + k)) n = if num (cl L t) (2 * k) % 32768 = n then 1 else 0 := by
        rw [Nat.zero_add]
        by_cases e : num (cl L t) (2 * k) % 32768 = n
        · rw [if_pos e]; exact hit_one h0 e
        · rw [if_neg e]; unfold hit; rw [if_neg (fun z => e z.2)]
      rw [this]; omega
theorem SoundL.more {L : List Clus} {rs : List RootR} (h : SoundL L rs) {r : RootR} (hr : r ∈ rs) (n : Nat) : (moreOut L r.N 2).getD n 0 = secOcc L r.N 0 n + secOcc L r.N 1 n := by
  have hlen := h.len
  have step : ∀ i, i < 2 → (moreOut L r.N (i + 1)).getD n 0 = (moreOut L r.N i).getD n 0 + secOcc L r.N i n := by
    intro i hi
    rw [moreOut]
    unfold secOcc
    by_cases h0 : num (cl L r.N) (2 * i) = 0
    · rw [if_pos h0, if_pos h0]; rfl
    · rw [if_neg h0, if_neg h0]
      have hsec : IsSec L rs (nm L r.N i % 32768) := ⟨r, hr, i, hi, h0, rfl⟩
      have hs := h.sec _ hsec
      have hs' : num (cl L r.N) (2 * i) % 32768 < 256 := Nat.lt_of_lt_of_le hs.2 hlen
      rw [moreIn_get L _ _ (by rw [bump_length]; exact moreOut_length L r.N i) n 32 (Nat.le_refl _) (fun q hq h1 => Nat.lt_of_lt_of_le (h.num_in (Or.inr hsec) q hq h1).2 hlen), bump_get _ _ _ (by rw [moreOut_length]; exact hs')]
      have : hit (nm L r.N i) n = if num (cl L r.N) (2 * i) % 32768 = n then 1 else 0 := by
        by_cases e : num (cl L r.N) (2 * i) % 32768 = n
        · rw [if_pos e]; exact hit_one h0 e
        · rw [if_neg e]; unfold hit; rw [if_neg (fun z => e z.2)]
      rw [this]
      unfold inOcc
      exact Nat.add_assoc _ _ _
  rw [step 1 (by omega), step 0 (by omega)]
  have : (moreOut L r.N 0).getD n 0 = 0 := by have := zI_most n; show zI.getD n 0 = 0; omega
  omega
theorem Vol.room (h : Vol base V N0 E) {f : Nat} (hf : f ∈ (rsOf N0 E).map (·.N)) : roomR V.C f = true ↔ (0 < (lowFree (cntsOf V.C) 1).length ∧ fitsB (cntsOf V.C) (toldAll V.C f) = true) := by
  obtain ⟨r, hr, rfl⟩ := List.mem_map.1 hf
  obtain ⟨k1, k2⟩ := h.ok.cnts rfl
  have hlen := h.sound.len
  have hin : ∀ u ∈ toldAll V.C r.N, u < V.C.length := fun u hu => (h.sound.held_lt hr u (List.mem_cons.2 (Or.inr hu))).2
  have hfree : 0 < freeOf V.C ↔ 0 < (lowFree (cntsOf V.C) 1).length := by
    constructor
    · intro hp
      by_cases hl : 0 < (lowFree (cntsOf V.C) 1).length
      · exact hl
      · have := free_few h.sound h.file.lens 1 (by omega); omega
    · intro hl
      obtain ⟨n, _, hn, h0⟩ := lowFree_one hl
      rw [h.sound.free_all h.file.lens]
      have key : ∀ k, n < k → 0 < cntTo (fun m => byteAt (cntsOf V.C) m == 0) k := by
        intro k
        induction k with
        | zero => intro h; omega
        | succ k ih =>
          intro hk
          rw [cntTo]
          by_cases e : n = k
          · subst e; rw [if_pos (by simp [h0])]; omega
          · have := ih (by omega); omega
      exact key 256 hn
  unfold roomR
  rw [Bool.and_eq_true, decide_eq_true_iff, hfree, roomFrom_iff, fits_iff _ _ (fun u hu => by rw [k1]; have := hin u hu; omega)]
  constructor
  · rintro ⟨h1, h2⟩
    refine ⟨h2, fun u hu => ?_⟩
    have h3 := h1 u (by omega) (by have := hin u hu; omega)
    rw [h.sound.more hr, ← count_told (h.sound.zero r hr)] at h3
    rw [k2 u (by have := hin u hu; omega)]
    exact h3
  · rintro ⟨h1, h2⟩
    refine ⟨fun j _ hj => ?_, h1⟩
    rw [h.sound.more hr, ← count_told (h.sound.zero r hr)]
    by_cases hm : j ∈ toldAll V.C r.N
    · have := h2 j hm
      rw [k2 j (by omega)] at this
      exact this
    · rw [List.count_eq_zero.2 hm]
      have := h.sound.top j (by omega)
      omega
end
end Go.Proofs.YtknjjjenklfeoaaGreatDoor

/-
  A step of a script in memory.
-/
namespace Go.Proofs.YtknjjjenklfeoaaGreatDoor
open Go.RowKit

structure OpR where
  kind : Int
  n : Int
  name : ByteArray
  text : ByteArray
  raw : Value
  gone : Value
def opCells (o : OpR) : List Value := [.int .i64 o.kind, .int .i64 o.n, .string o.name, .string o.text, o.raw, o.gone]
theorem opCells_length (o : OpR) : (opCells o).length = 6 := rfl
def zo : OpR := ⟨0, 0, .empty, .empty, .slice none 0 0, .slice none 0 0⟩
def loadOp (a : Addr) : Sem Value := loadVar 80 a
theorem loadVar_op (a : Addr) : loadVar 80 a = loadOp a := rfl
theorem run_loadOp {w : World} {b o : Nat} (h : HasAt w b o 6) : (loadOp ⟨b, o, none⟩).run Tryz.prog w = .ok (.agg (cellsAt w b o 6).toArray) w :=
  run_loadVar_has h 80 _ Tryz.underlying80 rfl (by kernel_rfl)
def storeOp (a : Addr) (v : Value) : Sem Unit := storeVar 80 a v
theorem storeVar_op (a : Addr) (v : Value) : storeVar 80 a v = storeOp a v := rfl
def zeroOp : Sem Value := zeroValue 80
theorem zeroValue_op : zeroValue 80 = zeroOp := rfl
theorem run_zeroOp (w : World) : zeroOp.run Tryz.prog w = .ok (.agg (opCells zo).toArray) w :=
  (zero_of_info (P := Tryz.prog) (t := 80) (v := .agg (opCells zo).toArray) (n := 6) (by kernel_rfl)).1 w
/-- Its two lists are slices. -/
structure OpR.Fits (o : OpR) : Prop where
  raw : o.raw.oneCell' = true
  gone : o.gone.oneCell' = true
theorem opCells_one {o : OpR} (h : o.Fits) : ∀ v ∈ opCells o, v.oneCell' = true := by
  intro v hv
  simp only [opCells, List.mem_cons, List.not_mem_nil, or_false] at hv
  rcases hv with rfl | rfl | rfl | rfl | rfl | rfl
  · rfl
  · rfl
  · rfl
  · rfl
  · exact h.raw
  · exact h.gone
theorem run_storeOp_new {w : World} {z x : OpR} (hx : x.Fits) :
    (storeOp ⟨w.heap.size, 0, none⟩ (.agg (opCells x).toArray)).run Tryz.prog (w.alloc (.cells (opCells z).toArray 80)) = .ok () (w.alloc (.cells (opCells x).toArray 80)) :=
  run_storeVar_new w 80 (opCells z).toArray (opCells x).toArray (by simp only [List.size_toArray, opCells_length]; kernel_rfl) (by simp [opCells_length]) (all_oneCell_toArray (opCells_one hx))
end Go.Proofs.YtknjjjenklfeoaaGreatDoor

/-
  Of a region that draws its order: two operations may come up.
-/
namespace Go.Proofs.YtknjjjenklfeoaaGreatDoor
open Go.RowKit
section
variable {P : Program} {ops : Array Oper} {Q : Exit → Act → World → Prop} {md : Region.Mode} {T : World → Prop} {k : Nat}
/-- Two may come up. -/
theorem wpAnyL_two {i j : Nat} {oi oj : Oper} {fuel : Nat} {listed : Array Bool} {a : Act} {w : World} (hr : Region.ready md ops listed = [i, j]) (hi : ops[i]? = some oi) (hj : ops[j]? = some oj)
    (h1 : ∀ K : Act → World → Prop, (∀ a' w', (i = k ∨ T w') → wpAnyL P md ops Q T k fuel (listed.setIfInBounds i true) a' w' → K a' w') → if Region.wanted oi (yielded ops a.tmps) = true then Oper.wp P oi a w K Q else K (a.put oi.dst undef) w)
    (h2 : ∀ K : Act → World → Prop, (∀ a' w', (j = k ∨ T w') → wpAnyL P md ops Q T k fuel (listed.setIfInBounds j true) a' w' → K a' w') → if Region.wanted oj (yielded ops a.tmps) = true then Oper.wp P oj a w K Q else K (a.put oj.dst undef) w) : wpAnyL P md ops Q T k (fuel + 1) listed a w := by
  refine ⟨fun h0 => (by rw [hr] at h0; cases h0), fun q hq => ?_⟩
  rw [hr] at hq
  simp only [List.mem_cons, List.not_mem_nil, or_false] at hq
  rcases hq with rfl | rfl
  · have h := h1 (fun a' w' => (q = k ∨ T w') ∧ wpAnyL P md ops Q T k fuel (listed.setIfInBounds q true) a' w') (fun a' w' h1 h2 => ⟨h1, h2⟩)
    unfold wpOp
    simp only [hi]
    split
    · rename_i hw
      rw [if_pos hw] at h
      exact Or.inl h
    · rename_i hw
      rw [if_neg hw] at h
      exact h
  · have h := h2 (fun a' w' => (q = k ∨ T w') ∧ wpAnyL P md ops Q T k fuel (listed.setIfInBounds q true) a' w') (fun a' w' h1 h2 => ⟨h1, h2⟩)
    unfold wpOp
    simp only [hj]
    split
    · rename_i hw
      rw [if_pos hw] at h
      exact Or.inl h
    · rename_i hw
      rw [if_neg hw] at h
      exact h
end
end Go.Proofs.YtknjjjenklfeoaaGreatDoor

/-
  vellumlaw's writes: Write of a disk.
-/
namespace Go.Proofs.YtknjjjenklfeoaaGreatDoor
open Go.RowKit
attribute [local go_sem ↓] loadVar_clus storeVar_clus zeroValue_clus loadVar_op
attribute [local go_sem] run_loadClus run_storeClus run_zeroClus run_storeClus_new run_loadClus_new zc_length run_loadOp HasAt_drew cellsAt_drew
theorem putsAll_pos (l : List (Option (Nat × Clus))) : ∀ V : VolR, V.L.length ≤ (putsAll V l).L.length := by
  induction l with
  | nil => intro V; exact Nat.le_refl _
  | cons x r ih =>
    intro V
    refine Nat.le_trans ?_ (ih (putsOne V x))
    cases x with
    | none =>
      show V.L.length ≤ (flushV V).L.length
      unfold flushV
      split
      · simp
      · exact Nat.le_refl _
    | some y =>
      show V.L.length ≤ (putV V y.1 y.2).L.length
      unfold putV
      split
      · exact Nat.le_refl _
      · show V.L.length ≤ ((completeV V).L ++ [_]).length
        unfold completeV
        split
        · show V.L.length ≤ ((V.L ++ _) ++ [_]).length; simp
        · simp
theorem Puts.lenL {V V' : VolR} (h : Puts V V') : V.L.length ≤ V'.L.length := by
  obtain ⟨l, rfl⟩ := h
  exact putsAll_pos l V
end Go.Proofs.YtknjjjenklfeoaaGreatDoor

/-
  Plain: Take, Return and Drop by cases: refused alike, no room, or done.
-/
namespace Go.Proofs.YtknjjjenklfeoaaGreatDoor
section
variable {base : List Clus} {V : VolR} {N0 : Nat} {E : List EntR} {s : ByteArray} {f n i : Nat}
theorem Vol.num6 (h : Vol base V N0 E) : num (cl V.C 0) 6 = N0 := h.file.num6
end
end Go.Proofs.YtknjjjenklfeoaaGreatDoor
