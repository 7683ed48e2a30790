import Derived.Test.YtknjjjenklfeoaaP27
import Derived.Test.YtknjjjenklfeoaaP25
import Derived.Test.YtknjjjenklfeoaaP22
import Derived.Test.YtknjjjenklfeoaaP04
import Derived.Test.YtknjjjenklfeoaaP02
import Derived.Test.YtknjjjenklfeoaaP03
import Derived.Test.YtknjjjenklfeoaaP05
/-
  Plain: a picture is dropped; the disk is made what a picture is.
-/
namespace Go.Proofs.Ytknjjjenklfeoaa
theorem SoundL.held_lt {L : List Clus} {rs : List RootR} (h : SoundL L rs) {r : RootR} (hr : r ∈ rs) : ∀ u ∈ heldAll L r.N, 6 ≤ u ∧ u < L.length := fun u hu => by
  rcases List.mem_cons.1 hu with x | x
  · rw [x]; exact h.fst r hr
  · obtain ⟨j, hj, h0, y | ⟨k, hk, hk0, y⟩⟩ := mem_toldAll (fun i h1 h2 => h.zero r hr i h1 h2) x
    · exact h.sec _ ⟨r, hr, j, hj, h0, y⟩
    · exact h.blk _ ⟨_, ⟨r, hr, j, hj, h0, rfl⟩, k, hk, hk0, y⟩
theorem sum_erase {α : Type} (g : α → Nat) : ∀ (l : List α) (i : Nat) (h : i < l.length), ((l.eraseIdx i).map g).sum + g l[i] = (l.map g).sum
  | a :: l, 0, _ => by simp [Nat.add_comm]
  | a :: l, i + 1, h => by
    have := sum_erase g l i (by simpa using h)
    simp only [List.eraseIdx_cons_succ, List.map_cons, List.sum_cons, List.getElem_cons_succ]
    omega
theorem map_erase {α β : Type} (g : α → β) : ∀ (l : List α) (i : Nat), (l.eraseIdx i).map g = (l.map g).eraseIdx i
  | [], _ => by simp
  | a :: l, 0 => by simp
  | a :: l, i + 1 => by simp [map_erase g l i]
section
variable {base : List Clus} {V : VolR} {N0 : Nat} {E : List EntR} {f n i : Nat}
def eraseD (D : DiskR) (i : Nat) : DiskR := { D with L := D.L.eraseIdx i }
def dropH (V : VolR) (E' : List EntR) : VolR := flushV (putV V 5 (listBytes E'))
theorem EntsOK.erase (h : EntsOK E) (i : Nat) : EntsOK (E.eraseIdx i) :=
  ⟨by have := List.length_eraseIdx_le E i; have := h.len; omega, fun e he => h.all e (List.mem_of_mem_eraseIdx he), by rw [map_erase]; exact h.nodup.sublist (List.eraseIdx_sublist _ _)⟩
theorem Vol.drop (h : Vol base V N0 E) (hi : i < E.length) :
    dropH V (E.eraseIdx i) = epoch V [(5, listBytes (E.eraseIdx i))] ∧ Ok (dropH V (E.eraseIdx i)).C V.C.length N0 (E.eraseIdx i) (eraseD (dskOf V.C N0 E) i) ∧ (dropH V (E.eraseIdx i)).C.length = V.C.length ∧ SoundL (dropH V (E.eraseIdx i)).C (rsOf N0 E) ∧
      Lets (dropH V (E.eraseIdx i)) N0 (E.eraseIdx i) (heldAll (dropH V (E.eraseIdx i)).C (E.getD i ze).first) ∧ Came base V N0 E (letGoV (dropH V (E.eraseIdx i)) (heldAll (dropH V (E.eraseIdx i)).C (E.getD i ze).first)) N0 (E.eraseIdx i) (eraseD (dskOf V.C N0 E) i) := by
  have h7 := h.file.seven
  have hlen := h.sound.len
  have hE' := h.file.ents.erase i
  have e1 : dropH V (E.eraseIdx i) = epoch V [(5, listBytes (E.eraseIdx i))] := by unfold dropH epoch; rw [puts_one]
  have hC : (dropH V (E.eraseIdx i)).C = putsC V.C [(5, listBytes (E.eraseIdx i))] := by rw [e1, epoch_C]
  obtain ⟨c1, c2, c3⟩ := put_kin (C := V.C) (p := 5) (c := listBytes (E.eraseIdx i)) (by omega) (Or.inr rfl)
  rw [← hC] at c1 c2 c3
  have hputs : Puts V (dropH V (E.eraseIdx i)) := by rw [e1]; exact puts_epoch (Puts.refl V) _
  refine ⟨e1, ?_⟩
  clear e1
  generalize dropH V (E.eraseIdx i) = W at *
  have s0 := c1.sound h.sound
  have hg : (E.getD i ze) = E[i] := by rw [List.getD_eq_getElem?_getD, List.getElem?_eq_getElem hi]; rfl
  have hre : rootE (E.getD i ze) ∈ rsOf N0 E := by
    rw [hg]; exact rsOf_mem.2 (Or.inr ⟨_, List.getElem_mem hi, rfl⟩)
  have hsub : ∀ r ∈ rsOf N0 (E.eraseIdx i), r ∈ rsOf N0 E := fun r hr => by
    rcases rsOf_mem.1 hr with x | ⟨e, he, x⟩
    · exact rsOf_mem.2 (Or.inl x)
    · exact rsOf_mem.2 (Or.inr ⟨e, List.mem_of_mem_eraseIdx he, x⟩)
  have huse : ∀ m, useOf (W).C (rsOf N0 (E.eraseIdx i)) m + treeOcc (W).C (E.getD i ze).first m = useOf V.C (rsOf N0 E) m := fun m => by
    rw [← (c1.shape h.sound).use m, hg]
    unfold useOf rsOf
    rw [List.map_cons, List.sum_cons, List.map_cons, List.sum_cons, List.map_map, List.map_map]
    have := sum_erase ((fun r : RootR => treeOcc (W).C r.N m) ∘ rootE) E i hi
    have e2 : ((fun r : RootR => treeOcc (W).C r.N m) ∘ rootE) E[i] = treeOcc (W).C E[i].first m := rfl
    rw [e2] at this
    omega
  have s1 : SoundL (W).C (rsOf N0 (E.eraseIdx i)) := by
    refine s0.roots (fun r hr => ⟨s0.fst r (hsub r hr), s0.fs _ ⟨r, hsub r hr, rfl⟩, s0.fb _ ⟨r, hsub r hr, rfl⟩, r, hsub r hr, fun j _ => rfl⟩) ?_ (fun m hm => ?_)
    · refine s0.nodup.sublist (List.Sublist.map _ ?_)
      unfold rsOf
      exact (List.Sublist.map _ (List.eraseIdx_sublist _ _)).cons_cons _
    · rw [c1.count m hm]
      have := huse m
      have := h.sound.cnt m hm
      omega
  have hlT : (W).C.length = V.C.length := c1.len
  have hfile : FileE (W).C V.C.length N0 (E.eraseIdx i) := by
    refine ⟨?_, by omega, by omega, h7, hlen, h.file.n0, by rw [c3 0 (by omega)]; exact h.file.head, c2, hE'⟩
    rw [hC]
    exact putsC_lens _ _ h.file.lens (fun x hx => by rw [List.mem_singleton.1 hx]; exact hE'.length)
  have hD : dskOf (W).C N0 (E.eraseIdx i) = eraseD (dskOf V.C N0 E) i := by
    rw [dskOf_same (L := V.C) (fun r hr => c1.content h.sound (hsub r hr))]
    refine dskOf_eq (by rw [dskOf_C]) ?_
    rw [dskOf_L, map_erase]
  have ok : Ok (W).C V.C.length N0 (E.eraseIdx i) (eraseD (dskOf V.C N0 E) i) := ⟨hfile, by rw [padTo_self hlT]; exact s1, by rw [padTo_self hlT]; exact hD⟩
  have hheld : ∀ m, (heldAll (W).C (E.getD i ze).first).count m = treeOcc (W).C (E.getD i ze).first m := fun m => count_held (s0.zero _ hre) m
  have hl : Lets (W) N0 (E.eraseIdx i) (heldAll (W).C (E.getD i ze).first) := by
    refine ⟨fun u hu => ?_, fun m hm => ?_⟩
    · have := s0.held_lt hre u hu
      omega
    · rw [hheld m, c1.count m hm]
      have := huse m
      have := h.sound.cnt m hm
      omega
  obtain ⟨g1, g2, g3, g4⟩ := ok.letGo hlT hl
  have hD2 := g1.holds
  rw [padTo_self g2] at hD2
  refine ⟨ok, hlT, s0, hl, g1.vol g2 g3 (h.log.puts (puts_letGo hputs _)), hD2, fun hx => g4 fun m hm => ?_⟩
  rw [hheld m, c1.count m hm, hx.eq m hm]
  have := huse m
  omega

def retH (V : VolR) (f n : Nat) : VolR := flushV (putV (copyV V f n) 0 (headBytes (num (cl (copyV V f n).C 0) 4) n))
def retD (D : DiskR) (i : Nat) : DiskR := { D with C := (D.L.getD i ⟨[], []⟩).C }
theorem Vol.ret (h : Vol base V N0 E) (hi : i < E.length) (hn : n < 256) (h0 : countOf V.C n = 0) (hfit : fitsB (cntsOf V.C) (toldAll V.C (E.getD i ze).first) = true) :
    retH V (E.getD i ze).first n = epoch (copyV V (E.getD i ze).first n) [(0, headBytes (lenTo V.C [n]) n)] ∧ Ok (retH V (E.getD i ze).first n).C (lenTo V.C [n]) n E (retD (dskOf V.C N0 E) i) ∧ (retH V (E.getD i ze).first n).C.length = lenTo V.C [n] ∧ SoundL (retH V (E.getD i ze).first n).C (rsOf N0 E) ∧
      Lets (retH V (E.getD i ze).first n) n E (heldAll (retH V (E.getD i ze).first n).C N0) ∧ Came base V N0 E (letGoV (retH V (E.getD i ze).first n) (heldAll (retH V (E.getD i ze).first n).C N0)) n E (retD (dskOf V.C N0 E) i) := by
  have hg : (E.getD i ze) = E[i] := by rw [List.getD_eq_getElem?_getD, List.getElem?_eq_getElem hi]; rfl
  have hre : rootE (E.getD i ze) ∈ rsOf N0 E := by
    rw [hg]; exact rsOf_mem.2 (Or.inr ⟨_, List.getElem_mem hi, rfl⟩)
  have hf : (E.getD i ze).first ∈ (rsOf N0 E).map (·.N) := List.mem_map.2 ⟨_, hre, rfl⟩
  have hr0 : (⟨N0, 0, []⟩ : RootR) ∈ rsOf N0 E := by simp [rsOf]
  obtain ⟨e, a1, a2, a3, a4, a5, a6, a7, a8⟩ := h.copied hf hn h0 hfit
  obtain ⟨b1, b2, b3, b4, b5, b6, b7⟩ := h.copyTree hf hn h0 hfit
  have hDe : contentOf V.C (E.getD i ze).first = ((dskOf V.C N0 E).L.getD i ⟨[], []⟩).C := by
    unfold dskOf
    simp only [List.getD_eq_getElem?_getD, List.getElem?_map, List.getElem?_eq_getElem hi, Option.map_some, Option.getD_some]
  generalize hfe : (E.getD i ze).first = f at *
  have h6 := h.sound.free_six hn h0
  have hT : lenTo V.C [n] = max V.C.length (n + 1) := rfl
  have h7 := h.file.seven
  have hlen := h.sound.len
  have e1 : retH V f n = epoch (copyV V f n) [(0, headBytes (lenTo V.C [n]) n)] := by
    unfold retH epoch
    rw [a2.file.num4, puts_one]
  have hC : (retH V f n).C = putsC (copyV V f n).C [(0, headBytes (lenTo V.C [n]) n)] := by rw [e1, epoch_C]
  obtain ⟨c1, c2, c3⟩ := put_kin (C := (copyV V f n).C) (p := 0) (c := headBytes (lenTo V.C [n]) n) (by omega) (Or.inl rfl)
  rw [← hC] at c1 c2 c3
  have hputs : Puts V (retH V f n) := by rw [e1]; exact puts_epoch (puts_copy V f n) _
  refine ⟨e1, ?_⟩
  clear e1 e a1 a5 a6 a7
  generalize retH V f n = W at *
  generalize copyV V f n = U at *
  have s0 := c1.sound b1
  have huse : ∀ m, useOf (U).C (rsOf n E) m + treeOcc (U).C N0 m = useOf V.C (rsOf N0 E) m + treeOcc (U).C n m := fun m => by
    rw [← a8.use m]
    unfold useOf rsOf
    rw [List.map_cons, List.sum_cons, List.map_cons, List.sum_cons]
    dsimp only
    omega
  have hall : ∀ m, m < 256 → base6 m + useOf (U).C (rsOf n E) m + treeOcc (U).C N0 m ≤ countOf (U).C m ∧ (countOf V.C m = base6 m + useOf V.C (rsOf N0 E) m → countOf (U).C m = base6 m + useOf (U).C (rsOf n E) m + treeOcc (U).C N0 m) := fun m hm => by
    have h1 := huse m
    have h2 := h.sound.cnt m hm
    rw [a4 m hm]
    rw [b3 m] at h1
    by_cases z : n = m
    · subst z
      have h3 := use_none h.sound (h.sound.untold hn h0)
      have h4 := base6_eq n
      rw [if_neg (by omega)] at h4
      rw [if_pos rfl] at h1 ⊢
      omega
    · rw [if_neg z] at h1 ⊢
      omega
  have s1 : SoundL (U).C (rsOf n E) := by
    refine b1.roots (fun r hr => ?_) ?_ (fun m hm => ?_)
    · rcases rsOf_mem.1 hr with x | ⟨y, hy, x⟩
      · rw [x]
        exact ⟨⟨h6, by rw [a3]; simp only; omega⟩, b4.2.1, b4.2.2, _, hre, fun j hj => by rw [b2 j hj, ← hfe]; rfl⟩
      · have hr' : r ∈ rsOf N0 E := rsOf_mem.2 (Or.inr ⟨y, hy, x⟩)
        exact ⟨b1.fst r hr', b1.fs _ ⟨r, hr', rfl⟩, b1.fb _ ⟨r, hr', rfl⟩, r, hr', fun j _ => rfl⟩
    · have hnd := b1.nodup
      unfold rsOf at hnd ⊢
      rw [List.map_cons, List.nodup_cons] at hnd ⊢
      refine ⟨fun z => ?_, hnd.2⟩
      obtain ⟨r', hr', e2⟩ := List.mem_map.1 z
      exact b4.1 ⟨r', by unfold rsOf; exact List.mem_cons.2 (Or.inr hr'), e2⟩
    · have := (hall m hm).1
      omega
  have s2 := c1.sound s1
  have hlT : (W).C.length = lenTo V.C [n] := by rw [c1.len, a3]
  have hfile : FileE (W).C (lenTo V.C [n]) n E := by
    refine ⟨?_, by omega, by omega, a2.file.seven, a2.file.most, by omega, c2, by rw [c3 5 (by omega)]; exact a2.file.list, a2.file.ents⟩
    rw [hC]
    exact putsC_lens _ _ a2.file.lens (fun x hx => by rw [List.mem_singleton.1 hx]; exact headBytes_length _ _)
  have hD : dskOf (W).C n E = retD (dskOf V.C N0 E) i := by
    have g : ∀ r ∈ rsOf n E, contentOf (W).C r.N = contentOf (U).C r.N := fun r hr => c1.content s1 hr
    have gn := g ⟨n, 0, []⟩ (by simp [rsOf])
    simp only at gn
    have hA : contentOf (W).C n = ((dskOf V.C N0 E).L.getD i ⟨[], []⟩).C := by
      have hb0 := b6 _ hre
      simp only [rootE] at hb0
      rw [gn, b5, ← hDe, ← hfe, hb0]
    have hB : (E.map fun e => (⟨e.name, contentOf (W).C e.first⟩ : PicR)) = (dskOf V.C N0 E).L := by
      rw [dskOf_L]
      apply List.map_congr_left
      intro x hx
      have g1 := g (rootE x) (rsOf_mem.2 (Or.inr ⟨x, hx, rfl⟩))
      have g2 := b6 (rootE x) (rsOf_mem.2 (Or.inr ⟨x, hx, rfl⟩))
      simp only [rootE] at g1 g2
      rw [g1, g2]
    exact dskOf_eq hA hB
  have ok : Ok (W).C (lenTo V.C [n]) n E (retD (dskOf V.C N0 E) i) := ⟨hfile, by rw [padTo_self hlT]; exact s2, by rw [padTo_self hlT]; exact hD⟩
  have hheld : ∀ m, (heldAll (W).C N0).count m = treeOcc (U).C N0 m := fun m => by
    rw [count_held (s0.zero _ hr0) m]; exact c1.tree b1 hr0 m
  have hl : Lets (W) n E (heldAll (W).C N0) := by
    refine ⟨fun u hu => ?_, fun m hm => ?_⟩
    · have := s0.held_lt hr0 u hu
      have := s0.len
      omega
    · rw [hheld m, c1.count m hm, (c1.shape s1).use]
      exact (hall m hm).1
  obtain ⟨g1, g2, g3, g4⟩ := ok.letGo hlT hl
  have hD2 := g1.holds
  rw [padTo_self g2] at hD2
  refine ⟨ok, hlT, s0, hl, g1.vol g2 g3 (h.log.puts (puts_letGo hputs _)), hD2, fun hx => g4 fun m hm => ?_⟩
  rw [hheld m, c1.count m hm, (c1.shape s1).use]
  exact (hall m hm).2 (hx.eq m hm)
end
end Go.Proofs.Ytknjjjenklfeoaa

/-
  The program's Take, Return and Drop, of a volume.
-/
namespace Go.Proofs.Ytknjjjenklfeoaa
open Go.RowKit

attribute [local go_sem ↓] loadVar_clus storeVar_clus zeroValue_clus loadVar_tab storeVar_tab zeroValue_tab loadVar_cnt storeVar_cnt zeroValue_cnt loadVar_head storeVar_head zeroValue_head build_head buildSlice_clus loadVar_wr storeVar_wr zeroValue_wr build_wr buildSlice_wr equalIn_clus loadVar_place storeVar_place zeroValue_place build_place loadVar_lst storeVar_lst zeroValue_lst storeVar_ent build_ent
attribute [local go_sem] run_loadClus run_storeClus run_zeroClus run_storeClus_new run_loadClus_new zc_length run_loadTab run_storeTab run_zeroTab run_storeTab_new run_loadTab_new zt_length run_loadCnt run_storeCnt run_zeroCnt run_storeCnt_new run_loadCnt_new zk_length run_loadHead run_storeHead run_zeroHead run_storeHead_new run_bHead HasAt_drew cellsAt_drew HasAt_drewN cellsAt_drewN run_bsClus run_loadWr run_zeroWr run_storeWr run_storeWr_new run_bWr0 run_bsWr run_loadPlace run_storePlace run_zeroPlace run_storePlace_new run_bPlace run_loadLst run_storeLst run_zeroLst run_storeLst_new run_storeEnt run_bEnt
attribute [local go_sem] field_head1 field_head0 Oper.semAt_some
attribute [local go_sem ↓] loadVar_ent zeroValue_ent
attribute [local go_sem] run_loadEnt run_zeroEnt run_storeEnt_new
attribute [local go_sem] field_ent0 field_ent1
theorem txt_self (s : ByteArray) : txt s.data.toList = s := by
  cases s; simp [txt]
theorem short_ents (c : Clus) : Short (entsOf c) := fun k => by
  unfold entsOf
  rw [List.getD_eq_getElem?_getD, List.getElem?_map]
  by_cases hk : k < 4
  · rw [List.getElem?_range hk]
    refine ⟨?_, num_lt _ _⟩
    show (entOf c k).name.length ≤ 12
    unfold entOf nameBytes
    simp only [List.length_take, List.length_drop]
    omega
  · rw [List.getElem?_eq_none (by simpa using hk)]
    exact ⟨by simp [ze], by simp [ze]⟩
theorem Short.set {L : List EntR} (h : Short L) (i : Nat) (e : EntR) (h1 : e.name.length ≤ 12) (h2 : e.first < 65536) : Short (L.set i e) := fun k => by
  rw [List.getD_eq_getElem?_getD, List.getElem?_set]
  split
  · split
    · exact ⟨h1, h2⟩
    · decide
  · have := h k
    rw [List.getD_eq_getElem?_getD] at this
    exact this
theorem Short.less {L : List EntR} (h : Short L) (i : Nat) : Short (lessE L i) := fun k => by
  unfold lessE
  have hall : ∀ e ∈ L.eraseIdx i ++ [ze], e.name.length ≤ 12 ∧ e.first < 65536 := by
    intro e he
    rcases List.mem_append.1 he with x | x
    · obtain ⟨j, hj, rfl⟩ := List.getElem_of_mem (List.mem_of_mem_eraseIdx x)
      have := h j
      rw [List.getD_eq_getElem?_getD, List.getElem?_eq_getElem hj] at this
      exact this
    · rw [List.mem_singleton.1 x]; decide
  rw [List.getD_eq_getElem?_getD]
  by_cases hk : k < (L.eraseIdx i ++ [ze]).length
  · rw [List.getElem?_eq_getElem hk]
    exact hall _ (List.getElem_mem hk)
  · rw [List.getElem?_eq_none (by omega)]
    decide
theorem copyV_len (V : VolR) (f n : Nat) (hC : V.C.length ≤ 256) (h5 : 5 < V.C.length) (hF : FirstOK V f) (hn : n < 256) : (copyV V f n).C.length ≤ 256 ∧ 5 < (copyV V f n).C.length ∧ (copyV V f n).L.length ≤ V.L.length + 100 := by
  have hlC := lengthenV_lenC V [n] (by omega)
  have hlL := lengthenV_lenL V [n]
  have hF1 : FirstOK (lengthenV V [n]) f := hF.same hlC (fun t ht => cl_lengthen V [n] t ht (by omega))
  have H1 : Hid (copy1 V f n = flushV (renumV sharedOf (lengthenV V [n]) (tabsOf (lengthenV V [n]) f))) := rfl
  have H2 : Hid (copyV V f n = flushV (putV (putCnt (copy1 V f n) (copyCnt V.C f n) 4) n (cl (putCnt (copy1 V f n) (copyCnt V.C f n) 4).C f))) := rfl
  generalize lengthenV V [n] = V1 at *
  have hrC := (renumV_same sharedOf_marks (tabsOf V1 f) V1 (tabs_ok hF1)).len
  have hrL := renumV_lenL sharedOf (tabsOf V1 f) V1
  have hrT := tabsOf_len V1 f
  generalize renumV sharedOf V1 (tabsOf V1 f) = V2 at *
  have hf2 := flushV_lenL V2
  have hf2c : (flushV V2).C.length = V2.C.length := by rw [flushV_C]
  rw [← unhide H1] at hf2 hf2c
  generalize copy1 V f n = V3 at *
  generalize copyCnt V.C f n = kk at *
  have hpC := putCnt_lenC' V3 kk (by omega)
  have hpL := putCnt_lenL V3 kk 4
  generalize putCnt V3 kk 4 = V4 at *
  have hqL := putV_lenL V4 n (cl V4.C f)
  have hqC := putV_lenC V4 n (cl V4.C f)
  generalize putV V4 n (cl V4.C f) = V5 at *
  have hf5 := flushV_lenL V5
  have hf5c : (flushV V5).C.length = V5.C.length := by rw [flushV_C]
  rw [← unhide H2] at hf5 hf5c
  omega
theorem copyR_len (V : VolR) (f : Nat) (hC : V.C.length ≤ 256) (h5 : 5 < V.C.length) (hF : FirstOK V f) : (copyR V f).1.C.length ≤ 256 ∧ 5 < (copyR V f).1.C.length ∧ (copyR V f).1.L.length ≤ V.L.length + 100 ∧ (copyR V f).2.1 < 256 := by
  by_cases hg : 0 < (lowFree (cntsOf V.C) 1).length ∧ fitsB (cntsOf V.C) (toldAll V.C f) = true
  · obtain ⟨n, hn, hlt, _⟩ := lowFree_one hg.1
    have e : copyR V f = (copyV V f n, n, 0) := by
      unfold copyR
      rw [if_pos hg, hn, List.getD_cons_zero]
    rw [e]
    have := copyV_len V f n hC h5 hF hlt
    exact ⟨this.1, this.2.1, this.2.2, hlt⟩
  · have e : copyR V f = (V, 0, 5) := by
      unfold copyR
      rw [if_neg hg]
    rw [e]
    exact ⟨hC, h5, by simp only; omega, by simp only; omega⟩

/-- What Take makes of a volume. -/
def takeR (V : VolR) (s : ByteArray) : VolR × Nat :=
  if isNameB s.data.toList = false then (V, 2)
  else if 0 ≤ findE (entsOf (cl V.C 5)) s then (V, 3)
  else if lenOf (entsOf (cl V.C 5)) = 4 then (V, 5)
  else if (copyR V (num (cl V.C 0) 6)).2.2 = 0 then (flushV (putV (copyR V (num (cl V.C 0) 6)).1 5 (listTo ((entsOf (cl V.C 5)).set (lenOf (entsOf (cl V.C 5))) ⟨s.data.toList, (copyR V (num (cl V.C 0) 6)).2.1⟩) 4)), 0)
  else ((copyR V (num (cl V.C 0) 6)).1, (copyR V (num (cl V.C 0) 6)).2.2)

set_option maxHeartbeats 2000000 in
set_option maxRecDepth 100000 in
theorem volTake_any (w : World) (v : Nat) (Cv Lv : Value) (V : VolR) (h : VolAt w v Cv Lv V) (h5 : 5 < V.C.length) (hC : V.C.length ≤ 256) (hL : V.L.length ≤ 400000000) (hF : FirstOK V (num (cl V.C 0) 6)) (s : ByteArray) (hs : s.size ≤ maxLen) :
    Calls Try.prog 19 #[.pointer (some ⟨v, 0, none⟩), .string s] w fun e w' => e = .returned (.int .i64 ((takeR V s).2 : Nat)) ∧ ∃ C1 L1, VStep w w' v Cv Lv C1 L1 (takeR V s).1 := by
  have Hi := hide (pIsName_any s w hs)
  have H := hide h
  clear h
  by_cases hnm : isNameB s.data.toList = false
  · have hR : takeR V s = (V, 2) := by unfold takeR; rw [if_pos hnm]
    rw [hR]
    dsimp only
    rw [hnm] at Hi
    go_enter Try.func19, Try.ntmps19
    go_wp2_with fail
    refine (unhide Hi).mono ?_
    rintro e w1 ⟨rfl, hb1⟩
    have B1 := hide ((VStep.refl (unhide H)).later hb1)
    clear hb1 Hi
    go_wp2
    go_ret
    exact ⟨rfl, _, _, unhide B1⟩
  have hnt : isNameB s.data.toList = true := by cases e : isNameB s.data.toList; exact absurd e hnm; rfl
  have hsl := (name_le hnt).2
  rw [hnt] at Hi
  have Hl : Hid (∀ W, VolAt W v Cv Lv V → _) := fun W hW => list_vol W v Cv Lv V hW h5
  have hel := entsOf_length (cl V.C 5)
  have hle := lenOf_le (entsOf (cl V.C 5))
  have Hfi : Hid (∀ W, _) := fun W => find_any W (entsOf (cl V.C 5)) hel s
  have Hle : Hid (∀ W, _) := fun W => len_any W (entsOf (cl V.C 5)) hel
  have Hh : Hid (∀ W, VolAt W v Cv Lv V → _) := fun W hW => head_vol W v Cv Lv V hW (by omega)
  have Hco : Hid (∀ W, VolAt W v Cv Lv V → _) := fun W hW => copyFirst_any W v Cv Lv V hW h5 hC hL (num (cl V.C 0) 6) hF
  obtain ⟨q1, q2, q3, q4⟩ := copyR_len V (num (cl V.C 0) 6) hC h5 hF
  have hsh := short_ents (cl V.C 5)
  have HR : Hid (takeR V s = if 0 ≤ findE (entsOf (cl V.C 5)) s then (V, 3) else if lenOf (entsOf (cl V.C 5)) = 4 then (V, 5) else if (copyR V (num (cl V.C 0) 6)).2.2 = 0 then (flushV (putV (copyR V (num (cl V.C 0) 6)).1 5 (listTo ((entsOf (cl V.C 5)).set (lenOf (entsOf (cl V.C 5))) ⟨s.data.toList, (copyR V (num (cl V.C 0) 6)).2.1⟩) 4)), 0) else ((copyR V (num (cl V.C 0) 6)).1, (copyR V (num (cl V.C 0) 6)).2.2)) := by
    show _ = _
    unfold takeR
    rw [if_neg hnm]
  generalize copyR V (num (cl V.C 0) 6) = R at *
  generalize entsOf (cl V.C 5) = E at *
  generalize num (cl V.C 0) 6 = n0 at *
  generalize num (cl V.C 0) 4 = cc at *
  obtain ⟨V1, n, er⟩ := R
  dsimp only at q1 q2 q3 q4 HR Hco
  go_enter Try.func19, Try.ntmps19
  go_wp2_with fail
  refine (unhide Hi).mono ?_
  rintro e w1 ⟨rfl, hb1⟩
  have E1 := hide ((Env.start (unhide H)).later hb1)
  clear hb1 Hi
  go_wp2_with fail
  refine (unhide Hl _ (unhide E1).at').mono ?_
  rintro e w2 ⟨rfl, hb2⟩
  have E2 := ((unhide E1).later hb2).lay (.cells (lv E).toArray 57)
  have l1 := blk_has E2.o0 (n := 8) (by rw [lv_length, hel])
  have l2 := blk_cells E2.o0 (n := 8) (by rw [lv_length, hel])
  have E2 := hide E2
  have zll : zl.length = 4 := rfl
  clear hb2 Hl E1
  go_wp2_with fail
  refine (unhide Hfi _).mono ?_
  rintro e w3 ⟨rfl, hb3⟩
  have E3 := hide ((unhide E2).later hb3)
  clear hb3 Hfi E2 l1 l2
  generalize findE E s = fi at *
  by_cases hfi : 0 ≤ fi
  · have hR : Hid (takeR V s = (V, 3)) := by show _ = _; rw [unhide HR, if_pos hfi]
    have df : decide (fi ≥ 0) = true := decide_eq_true hfi
    have ES := hide (unhide E3).step
    clear E3
    go_wp2
    go_ret
    rw [unhide hR]
    exact ⟨rfl, _, _, unhide ES⟩
  rw [if_neg hfi] at HR
  have df : decide (fi ≥ 0) = false := decide_eq_false hfi
  have l3 := blk_has (unhide E3).o0 (n := 8) (by rw [lv_length, hel])
  have l4 := blk_cells (unhide E3).o0 (n := 8) (by rw [lv_length, hel])
  go_wp2_with fail
  refine (unhide Hle _).mono ?_
  rintro e w4 ⟨rfl, hb4⟩
  have E4 := hide ((unhide E3).later hb4)
  clear hb4 Hle E3 l3 l4
  by_cases hl4 : lenOf E = 4
  · have hR : Hid (takeR V s = (V, 5)) := by show _ = _; rw [unhide HR, if_pos hl4]
    have dl : (((lenOf E : Nat) : Int) == 4) = true := by rw [beq_iff_eq]; omega
    have ES := hide (unhide E4).step
    clear E4
    go_wp2
    go_ret
    rw [unhide hR]
    exact ⟨rfl, _, _, unhide ES⟩
  rw [if_neg hl4] at HR
  have dl : (((lenOf E : Nat) : Int) == 4) = false := by rw [beq_eq_false_iff_ne]; omega
  have Hw : Hid (∀ W p, _) := fun W p => with_any W E hel p (by omega)
  have hsE := hsh.set (lenOf E) ⟨s.data.toList, n⟩ (by exact hsl) (by simp only; omega)
  have hlE : (E.set (lenOf E) ⟨s.data.toList, n⟩).length = 4 := by rw [List.length_set, hel]
  have HPl : Hid (∀ W C1 L1, VolAt W v C1 L1 V1 → _) := fun W C1 L1 hW => putList_any W v C1 L1 V1 hW (E.set (lenOf E) ⟨s.data.toList, n⟩) hlE hsE (by omega) (by omega)
  have hpL := putV_lenL V1 5 (listTo (E.set (lenOf E) ⟨s.data.toList, n⟩) 4)
  have Hw2 : Hid (∀ W, _) := fun W => unhide Hw W ⟨s.data.toList, n⟩
  generalize lenOf E = le at *
  generalize E.set le ⟨s.data.toList, n⟩ = E' at *
  generalize listTo E' 4 = lb at *
  have HFl : Hid (∀ W C1 L1, VolAt W v C1 L1 (putV V1 5 lb) → _) := fun W C1 L1 hW => flush_any W v C1 L1 (putV V1 5 lb) hW (by omega)
  generalize putV V1 5 lb = V2 at *
  clear Hw
  go_wp2_with fail
  refine (unhide Hh _ (unhide E4).at').mono ?_
  rintro e w5 ⟨rfl, hb5⟩
  have E5 := hide ((unhide E4).later hb5)
  clear hb5 Hh E4
  go_wp2_with fail
  refine (unhide Hco _ (unhide E5).at').mono ?_
  rintro e w6 ⟨rfl, C6, L6, hS6⟩
  have E6 := hide ((unhide E5).does hS6)
  clear hS6 Hco E5
  by_cases her : er = 0
  · subst her
    have hR : Hid (takeR V s = (flushV V2, 0)) := by show _ = _; rw [unhide HR, if_pos rfl]
    have l5 := blk_has (unhide E6).o0 (n := 8) (by rw [lv_length, hel])
    have l6 := blk_cells (unhide E6).o0 (n := 8) (by rw [lv_length, hel])
    have hbe := run_bEnt s.data.toList n w6
    rw [txt_self] at hbe
    clear HR
    go_wp2_with fail
    refine (unhide Hw2 _).mono ?_
    rintro e w7 ⟨rfl, hb7⟩
    have E7 := hide ((unhide E6).later hb7)
    clear hb7 Hw2 E6 l5 l6 hbe
    go_wp2_with fail
    refine (unhide HPl _ _ _ (unhide E7).at').mono ?_
    rintro e w8 ⟨rfl, C8, L8, hS8⟩
    have E8 := hide ((unhide E7).does hS8)
    clear hS8 HPl E7
    go_wp2_with fail
    refine (unhide HFl _ _ _ (unhide E8).at').mono ?_
    rintro e w9 ⟨rfl, C9, L9, hS9⟩
    have ES := hide ((unhide E8).does hS9).step
    clear hS9 HFl E8
    go_wp2
    go_ret
    rw [unhide hR]
    exact ⟨rfl, _, _, unhide ES⟩
  · have hR : Hid (takeR V s = (V1, er)) := by show _ = _; rw [unhide HR, if_neg her]
    have de : (((er : Nat) : Int) != 0) = true := by rw [bne_iff_ne]; omega
    have ES := hide (unhide E6).step
    clear E6 HR
    go_wp2
    go_ret
    rw [unhide hR]
    exact ⟨rfl, _, _, unhide ES⟩
end Go.Proofs.Ytknjjjenklfeoaa

/-
  The program's Return and Drop, of a volume.
-/
namespace Go.Proofs.Ytknjjjenklfeoaa
open Go.RowKit

attribute [local go_sem ↓] loadVar_clus storeVar_clus zeroValue_clus loadVar_tab storeVar_tab zeroValue_tab loadVar_cnt storeVar_cnt zeroValue_cnt loadVar_head storeVar_head zeroValue_head build_head buildSlice_clus loadVar_wr storeVar_wr zeroValue_wr build_wr buildSlice_wr equalIn_clus loadVar_place storeVar_place zeroValue_place build_place loadVar_lst storeVar_lst zeroValue_lst storeVar_ent build_ent
attribute [local go_sem] run_loadClus run_storeClus run_zeroClus run_storeClus_new run_loadClus_new zc_length run_loadTab run_storeTab run_zeroTab run_storeTab_new run_loadTab_new zt_length run_loadCnt run_storeCnt run_zeroCnt run_storeCnt_new run_loadCnt_new zk_length run_loadHead run_storeHead run_zeroHead run_storeHead_new run_bHead HasAt_drew cellsAt_drew HasAt_drewN cellsAt_drewN run_bsClus run_loadWr run_zeroWr run_storeWr run_storeWr_new run_bWr0 run_bsWr run_loadPlace run_storePlace run_zeroPlace run_storePlace_new run_bPlace run_loadLst run_storeLst run_zeroLst run_storeLst_new run_storeEnt run_bEnt
attribute [local go_sem] field_head1 field_head0 Oper.semAt_some
attribute [local go_sem ↓] loadVar_ent zeroValue_ent
attribute [local go_sem] run_loadEnt run_zeroEnt run_storeEnt_new
attribute [local go_sem] field_ent0 field_ent1
/-- letGo of all that a first table holds. -/
theorem heldGo_any (v : Nat) (V : VolR) (h5 : 5 < V.C.length) (hC : V.C.length ≤ 256) (hL : V.L.length ≤ 600000000) (f : Nat) (hFk : FirstOK V f) (hF : ∀ g ∈ firstsOf (letGoV1 V (heldAll V.C f)), FirstOK (letGoV1 V (heldAll V.C f)) g) (W : World) (C1 L1 : Value) (bv bt : Nat)
    (hV : VolAt W v C1 L1 V) (hbv : W.heap[bv]? = some (.cells #[.pointer (some ⟨v, 0, none⟩)] 48 (0, 0))) (hbt : W.heap[bt]? = some (.cells #[.int .i64 (f : Nat)] 3 (0, 0))) (hft : ¬ foot v C1 L1 bt) (hfv : ¬ foot v C1 L1 bv) :
    Calls Try.prog 39 #[.pointer (some ⟨v, 0, none⟩), .func (.func 65) #[] #[.pointer (some ⟨bt, 0, none⟩), .pointer (some ⟨bv, 0, none⟩)]] W fun e w' => e = .returned (.tuple #[]) ∧ ∃ C2 L2, VStep W w' v C1 L1 C2 L2 (letGoV V (heldAll V.C f)) :=
  callsIn_wide.1 (letGo_in W v C1 L1 V hV h5 hC hL 65 #[.pointer (some ⟨bt, 0, none⟩), .pointer (some ⟨bv, 0, none⟩)] (heldAll V.C f) 1057 (enters_of Try.func65 (by kernel_rfl) rfl)
    (fun X B hX => held_all 99 (by omega) X v bv bt f B V C1 L1 W hV hC hbv hbt (fun hx => by have := (hX _ hx).1; have := blk_lt hbt; omega) (fun hx => by have := (hX _ hx).1; have := blk_lt hbv; omega) hft hfv (fun k hk => (hX k hk).2) hFk) hF)

def dropW (V : VolR) (i : Nat) : VolR := flushV (putV V 5 (listTo (lessE (entsOf (cl V.C 5)) i) 4))
def firstE (V : VolR) (s : ByteArray) : Nat := ((entsOf (cl V.C 5)).getD (entR V s).1.toNat ze).first
/-- What letGo asks of a volume and a first table. -/
structure Goes (V : VolR) (f : Nat) : Prop where
  len : V.C.length ≤ 256
  own : FirstOK V f
  all : ∀ g ∈ firstsOf (letGoV1 V (heldAll V.C f)), FirstOK (letGoV1 V (heldAll V.C f)) g
def dropR (V : VolR) (s : ByteArray) : VolR × Nat :=
  if (entR V s).2 = 0 then (letGoV (dropW V (entR V s).1.toNat) (heldAll (dropW V (entR V s).1.toNat).C (firstE V s)), 0) else (V, (entR V s).2)

set_option maxHeartbeats 2000000 in
set_option maxRecDepth 100000 in
theorem volDrop_any (w : World) (v : Nat) (Cv Lv : Value) (V : VolR) (h : VolAt w v Cv Lv V) (h5 : 5 < V.C.length) (hC : V.C.length ≤ 256) (hL : V.L.length ≤ 400000000) (s : ByteArray) (hs : s.size ≤ maxLen)
    (hG : (entR V s).2 = 0 → Goes (dropW V (entR V s).1.toNat) (firstE V s)) :
    Calls Try.prog 22 #[.pointer (some ⟨v, 0, none⟩), .string s] w fun e w' => e = .returned (.int .i64 ((dropR V s).2 : Nat)) ∧ ∃ C1 L1, VStep w w' v Cv Lv C1 L1 (dropR V s).1 := by
  have He := hide (entry_any w v Cv Lv V h h5 s hs)
  have H := hide h
  clear h
  rcases (show (∃ m, m ≠ 0 ∧ entR V s = (0, m)) ∨ ∃ i, i < lenOf (entsOf (cl V.C 5)) ∧ entR V s = (((i : Nat) : Int), 0) by
    rcases entR_cases V s with (e | e) | ⟨i, hi, e, _⟩
    · exact Or.inl ⟨2, by decide, e⟩
    · exact Or.inl ⟨4, by decide, e⟩
    · exact Or.inr ⟨i, hi, e⟩) with ⟨m, hm, e⟩ | ⟨i, hi, e⟩
  · have hR : dropR V s = (V, m) := by unfold dropR; rw [e, if_neg hm]
    rw [hR]
    rw [e] at He
    dsimp only at He ⊢
    have d0 : (((m : Nat) : Int) != 0) = true := by rw [bne_iff_ne]; omega
    clear hG hR e
    go_enter Try.func22, Try.ntmps22
    go_wp2_with fail
    refine (unhide He).mono ?_
    rintro e w1 ⟨rfl, hb1⟩
    have B1 := hide ((VStep.refl (unhide H)).later hb1)
    clear hb1 He
    go_wp2
    go_ret
    exact ⟨rfl, _, _, unhide B1⟩
  · have hG := hG (by rw [e])
    have hR : dropR V s = (letGoV (dropW V i) (heldAll (dropW V i).C (firstE V s)), 0) := by unfold dropR; rw [e]; rfl
    have hfe : firstE V s = ((entsOf (cl V.C 5)).getD i ze).first := by unfold firstE; rw [e]; rfl
    rw [hR]
    rw [e] at He hG
    dsimp only at He hG ⊢
    have hG : Goes (dropW V i) (firstE V s) := hG
    have Hl : Hid (∀ W, VolAt W v Cv Lv V → _) := fun W hW => list_vol W v Cv Lv V hW h5
    have hel := entsOf_length (cl V.C 5)
    have hle := lenOf_le (entsOf (cl V.C 5))
    have Hwo : Hid (∀ W, _) := fun W => without_any W (entsOf (cl V.C 5)) hel i (by omega)
    have hsh := (short_ents (cl V.C 5)).less i
    have hll : (lessE (entsOf (cl V.C 5)) i).length = 4 := by unfold lessE; rw [List.length_append, List.length_eraseIdx, hel, if_pos (by omega)]; rfl
    have HPl : Hid (∀ W C1 L1, VolAt W v C1 L1 V → _) := fun W C1 L1 hW => putList_any W v C1 L1 V hW (lessE (entsOf (cl V.C 5)) i) hll hsh (by omega) (by omega)
    have HD : Hid (dropW V i = flushV (putV V 5 (listTo (lessE (entsOf (cl V.C 5)) i) 4))) := rfl
    have hpL := putV_lenL V 5 (listTo (lessE (entsOf (cl V.C 5)) i) 4)
    have hpC := putV_lenC V 5 (listTo (lessE (entsOf (cl V.C 5)) i) 4)
    generalize listTo (lessE (entsOf (cl V.C 5)) i) 4 = lb at *
    generalize lessE (entsOf (cl V.C 5)) i = E' at *
    have HFl : Hid (∀ W C1 L1, VolAt W v C1 L1 (putV V 5 lb) → _) := fun W C1 L1 hW => flush_any W v C1 L1 (putV V 5 lb) hW (by omega)
    have hfL := flushV_lenL (putV V 5 lb)
    have hfC : (flushV (putV V 5 lb)).C.length = (putV V 5 lb).C.length := by rw [flushV_C]
    rw [← unhide HD] at HFl hfL hfC
    generalize putV V 5 lb = V1 at *
    generalize dropW V i = V2 at *
    have HLg : Hid (∀ W C1 L1 bv bt, VolAt W v C1 L1 V2 → _ → _ → _ → _ → _) := fun W C1 L1 bv bt hW => heldGo_any v V2 (by omega) hG.len (by omega) (firstE V s) hG.own hG.all W C1 L1 bv bt hW
    generalize letGoV V2 (heldAll V2.C (firstE V s)) = V3 at *
    rw [hfe] at HLg
    clear hG hfe hR e HD
    generalize entsOf (cl V.C 5) = E at *
    go_enter Try.func22, Try.ntmps22
    go_wp2_with fail
    refine (unhide He).mono ?_
    rintro e w1 ⟨rfl, hb1⟩
    have E1 := hide ((Env.start (unhide H)).later hb1)
    clear hb1 He
    go_wp2_with fail
    refine (unhide Hl _ (unhide E1).at').mono ?_
    rintro e w2 ⟨rfl, hb2⟩
    have E2 := ((unhide E1).later hb2).lay (.cells (lv E).toArray 57)
    have l1 := blk_has E2.o0 (n := 8) (by rw [lv_length, hel])
    have l2 := blk_cells E2.o0 (n := 8) (by rw [lv_length, hel])
    have E2 := hide E2
    have zll : zl.length = 4 := rfl
    clear hb2 Hl E1
    go_wp2_with fail
    refine (unhide Hwo _).mono ?_
    rintro e w3 ⟨rfl, hb3⟩
    have E3 := hide ((unhide E2).later hb3)
    clear hb3 Hwo E2 l1 l2
    go_wp2_with fail
    refine (unhide HPl _ _ _ (unhide E3).at').mono ?_
    rintro e w4 ⟨rfl, C4, L4, hS4⟩
    have E4 := hide ((unhide E3).does hS4)
    clear hS4 HPl E3
    go_wp2_with fail
    refine (unhide HFl _ _ _ (unhide E4).at').mono ?_
    rintro e w5 ⟨rfl, C5, L5, hS5⟩
    have E5 := (unhide E4).does hS5
    have c5 := ent_first E5.o0 i (by omega)
    have hii : (i : Int) < 4 := by omega
    have E6 := (E5.lay (.cells #[.pointer (some ⟨v, 0, none⟩)] 48)).lay (.cells #[.int .i64 ((E.getD i ze).first : Nat)] 3)
    simp only [World.size_alloc] at E6
    have Hm := hide (held_make w5 v (E.getD i ze).first)
    have E6 := hide E6
    clear hS5 HFl E4 E5
    generalize (E.getD i ze).first = ff at *
    go_wp2_with fail
    refine (unhide Hm).mono ?_
    rintro e w6 ⟨rfl, rfl⟩
    have Hg := hide (unhide HLg _ _ _ _ _ (unhide E6).at' (unhide E6).o1 (unhide E6).o0 (unhide E6).n0 (unhide E6).n1)
    clear HLg Hm c5
    go_wp2_with fail
    refine (unhide Hg).mono ?_
    rintro e w7 ⟨rfl, C7, L7, hS7⟩
    have ES := hide ((unhide E6).does hS7).step
    clear hS7 E6 Hg
    go_wp2
    go_ret
    exact ⟨rfl, _, _, unhide ES⟩
end Go.Proofs.Ytknjjjenklfeoaa

/-
  The program's Return, of a volume; Take, Return and Drop of a disk.
-/
namespace Go.Proofs.Ytknjjjenklfeoaa
open Go.RowKit

attribute [local go_sem ↓] loadVar_clus storeVar_clus zeroValue_clus loadVar_tab storeVar_tab zeroValue_tab loadVar_cnt storeVar_cnt zeroValue_cnt loadVar_head storeVar_head zeroValue_head build_head buildSlice_clus loadVar_wr storeVar_wr zeroValue_wr build_wr buildSlice_wr equalIn_clus loadVar_place storeVar_place zeroValue_place build_place loadVar_lst storeVar_lst zeroValue_lst storeVar_ent build_ent
attribute [local go_sem] run_loadClus run_storeClus run_zeroClus run_storeClus_new run_loadClus_new zc_length run_loadTab run_storeTab run_zeroTab run_storeTab_new run_loadTab_new zt_length run_loadCnt run_storeCnt run_zeroCnt run_storeCnt_new run_loadCnt_new zk_length run_loadHead run_storeHead run_zeroHead run_storeHead_new run_bHead HasAt_drew cellsAt_drew HasAt_drewN cellsAt_drewN run_bsClus run_loadWr run_zeroWr run_storeWr run_storeWr_new run_bWr0 run_bsWr run_loadPlace run_storePlace run_zeroPlace run_storePlace_new run_bPlace run_loadLst run_storeLst run_zeroLst run_storeLst_new run_storeEnt run_bEnt
attribute [local go_sem] field_head1 field_head0 Oper.semAt_some
attribute [local go_sem ↓] loadVar_ent zeroValue_ent
attribute [local go_sem] run_loadEnt run_zeroEnt run_storeEnt_new
attribute [local go_sem] field_ent0 field_ent1
set_option maxHeartbeats 1000000 in
set_option maxRecDepth 100000 in
theorem diskTake_any (w : World) (d v : Nat) (Cv Lv : Value) (V : VolR) (h : DskAt w d v Cv Lv V) (h5 : 5 < V.C.length) (hC : V.C.length ≤ 256) (hL : V.L.length ≤ 400000000) (hF : FirstOK V (num (cl V.C 0) 6)) (s : ByteArray) (hs : s.size ≤ maxLen) :
    Calls Try.prog 7 #[.pointer (some ⟨d, 0, none⟩), .string s] w fun e w' => e = .returned (.int .i64 ((takeR V s).2 : Nat)) ∧ ∃ C1 L1, VStep w w' v Cv Lv C1 L1 (takeR V s).1 := by
  have Hm := hide (made_any _ d v Cv Lv V h)
  have c0 := h.c0
  have Hw := hide (volTake_any w v Cv Lv V h.vol h5 hC hL hF s hs)
  clear h hF
  generalize takeR V s = R at *
  obtain ⟨R1, R2⟩ := R
  dsimp only at Hw ⊢
  go_enter Try.func7, Try.ntmps7
  go_wp2_with fail
  refine (unhide Hm).mono ?_
  rintro e w1 ⟨rfl, rfl⟩
  go_wp2_with fail
  refine (unhide Hw).mono ?_
  rintro e w2 ⟨rfl, C2, L2, hS2⟩
  have ES := hide hS2
  clear hS2 Hw Hm
  go_wp2
  go_ret
  exact ⟨rfl, C2, L2, unhide ES⟩

set_option maxHeartbeats 1000000 in
set_option maxRecDepth 100000 in
theorem diskDrop_any (w : World) (d v : Nat) (Cv Lv : Value) (V : VolR) (h : DskAt w d v Cv Lv V) (h5 : 5 < V.C.length) (hC : V.C.length ≤ 256) (hL : V.L.length ≤ 400000000) (s : ByteArray) (hs : s.size ≤ maxLen)
    (hG : (entR V s).2 = 0 → Goes (dropW V (entR V s).1.toNat) (firstE V s)) :
    Calls Try.prog 11 #[.pointer (some ⟨d, 0, none⟩), .string s] w fun e w' => e = .returned (.int .i64 ((dropR V s).2 : Nat)) ∧ ∃ C1 L1, VStep w w' v Cv Lv C1 L1 (dropR V s).1 := by
  have Hm := hide (made_any _ d v Cv Lv V h)
  have c0 := h.c0
  have Hw := hide (volDrop_any w v Cv Lv V h.vol h5 hC hL s hs hG)
  clear h hG
  generalize dropR V s = R at *
  obtain ⟨R1, R2⟩ := R
  dsimp only at Hw ⊢
  go_enter Try.func11, Try.ntmps11
  go_wp2_with fail
  refine (unhide Hm).mono ?_
  rintro e w1 ⟨rfl, rfl⟩
  go_wp2_with fail
  refine (unhide Hw).mono ?_
  rintro e w2 ⟨rfl, C2, L2, hS2⟩
  have ES := hide hS2
  clear hS2 Hw Hm
  go_wp2
  go_ret
  exact ⟨rfl, C2, L2, unhide ES⟩
end Go.Proofs.Ytknjjjenklfeoaa

/-
  The reference's pictures: Find, there, ReadOf, Return.
-/
namespace Go.Proofs.Ytknjjjenklfeoaa
open Go.RowKit
attribute [local go_sem ↓] loadVar_clus storeVar_clus zeroValue_clus
attribute [local go_sem] run_loadClus run_storeClus run_zeroClus run_storeClus_new run_loadClus_new zc_length
def refFindFrom (Ps : List PicR) (s : ByteArray) : Nat → Nat → Int
  | 0, _ => -1
  | m + 1, k => if txt (picAt Ps k).name = s then (k : Int) else refFindFrom Ps s m (k + 1)
def refFind (D : DiskR) (s : ByteArray) : Int := refFindFrom D.L s D.L.length 0
/-- What there answers. -/
def thereR (D : DiskR) (s : ByteArray) : Int × Nat := if isNameB s.data.toList = false then (-1, 2) else if refFind D s < 0 then (-1, 4) else (refFind D s, 0)
end Go.Proofs.Ytknjjjenklfeoaa

/-
  The program's List.
-/
namespace Go.Proofs.Ytknjjjenklfeoaa
open Go.RowKit

attribute [local go_sem ↓] loadVar_clus storeVar_clus zeroValue_clus loadVar_tab storeVar_tab zeroValue_tab loadVar_cnt storeVar_cnt zeroValue_cnt loadVar_head storeVar_head zeroValue_head build_head buildSlice_clus loadVar_wr storeVar_wr zeroValue_wr build_wr buildSlice_wr equalIn_clus loadVar_place storeVar_place zeroValue_place build_place loadVar_lst storeVar_lst zeroValue_lst storeVar_ent build_ent
attribute [local go_sem] run_loadClus run_storeClus run_zeroClus run_storeClus_new run_loadClus_new zc_length run_loadTab run_storeTab run_zeroTab run_storeTab_new run_loadTab_new zt_length run_loadCnt run_storeCnt run_zeroCnt run_storeCnt_new run_loadCnt_new zk_length run_loadHead run_storeHead run_zeroHead run_storeHead_new run_bHead HasAt_drew cellsAt_drew HasAt_drewN cellsAt_drewN run_bsClus run_loadWr run_zeroWr run_storeWr run_storeWr_new run_bWr0 run_bsWr run_loadPlace run_storePlace run_zeroPlace run_storePlace_new run_bPlace run_loadLst run_storeLst run_zeroLst run_storeLst_new run_storeEnt run_bEnt
attribute [local go_sem] field_head1 field_head0 Oper.semAt_some
attribute [local go_sem ↓] loadVar_ent zeroValue_ent
attribute [local go_sem] run_loadEnt run_zeroEnt run_storeEnt_new
def sv (N : List (List UInt8)) : List Value := N.map fun s => .string (txt s)
end Go.Proofs.Ytknjjjenklfeoaa

/-
  The reference's pictures: Return, List.
-/
namespace Go.Proofs.Ytknjjjenklfeoaa
open Go.RowKit
attribute [local go_sem ↓] loadVar_clus storeVar_clus zeroValue_clus
attribute [local go_sem] run_loadClus run_storeClus run_zeroClus run_storeClus_new run_loadClus_new zc_length
end Go.Proofs.Ytknjjjenklfeoaa

/-
  The reference's pictures: Take, Drop.
-/
namespace Go.Proofs.Ytknjjjenklfeoaa
open Go.RowKit
attribute [local go_sem ↓] loadVar_clus storeVar_clus zeroValue_clus
attribute [local go_sem] run_loadClus run_storeClus run_zeroClus run_storeClus_new run_loadClus_new zc_length
def refTakeR (D : DiskR) (s : ByteArray) : DiskR × Nat :=
  if isNameB s.data.toList = false then (D, 2) else if 0 ≤ refFind D s then (D, 3) else if 4 ≤ D.L.length then (D, 5) else (⟨D.C, D.L ++ [⟨s.data.toList, D.C⟩]⟩, 0)
end Go.Proofs.Ytknjjjenklfeoaa

/-
  The reference's pictures: Drop.
-/
namespace Go.Proofs.Ytknjjjenklfeoaa
open Go.RowKit
attribute [local go_sem ↓] loadVar_clus storeVar_clus zeroValue_clus
attribute [local go_sem] run_loadClus run_storeClus run_zeroClus run_storeClus_new run_loadClus_new zc_length
def refDropR (D : DiskR) (s : ByteArray) : DiskR × Nat := if (thereR D s).2 = 0 then (⟨D.C, D.L.eraseIdx (thereR D s).1.toNat⟩, 0) else (D, (thereR D s).2)
end Go.Proofs.Ytknjjjenklfeoaa
