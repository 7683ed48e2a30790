import Derived.Test.YtknjjjenklfeoaaP02
import Derived.Lib.ConvBytes
import Derived.Test.YtknjjjenklfeoaaP11
/-
  The program's isName.
-/
namespace Go.Proofs.Ytknjjjenklfeoaa
open Go.RowKit

set_option maxHeartbeats 1000000 in
set_option maxRecDepth 100000 in
theorem pIsName_any (s : ByteArray) (w : World) (hs : s.size ≤ maxLen) :
    Calls Try.prog 27 #[.string s] w fun e w' => e = .returned (.bool (isNameB s.data.toList)) ∧ Below w.heap.size w w' := by
  unfold maxLen at hs
  have hlen : s.data.toList.length = s.size := by rw [Array.length_toList]; rfl
  have Hr : Hid (isNameB s.data.toList = (s.data.toList.all letter && (decide (1 ≤ s.data.toList.length) && decide (s.data.toList.length ≤ 12)))) := rfl
  rw [hlen] at Hr
  have Hlen := hide hlen
  clear hlen
  by_cases h1 : s.size < 1
  · have d1 : decide ((s.size : Int) < 1) = true := decide_eq_true (by omega)
    rw [show decide (1 ≤ s.size) = false from decide_eq_false (by omega), Bool.false_and, Bool.and_false] at Hr
    go_enter Try.func27, Try.ntmps27
    go_wp2
    go_ret
    exact ⟨by rw [unhide Hr]; rfl, Below.refl _ _⟩
  have d1 : decide ((s.size : Int) < 1) = false := decide_eq_false (by omega)
  rw [show decide (1 ≤ s.size) = true from decide_eq_true (by omega), Bool.true_and] at Hr
  by_cases h12 : 12 < s.size
  · have d2 : decide ((12 : Int) < (s.size : Int)) = true := decide_eq_true (by omega)
    rw [show decide (s.size ≤ 12) = false from decide_eq_false (by omega), Bool.and_false] at Hr
    go_enter Try.func27, Try.ntmps27
    go_wp2
    go_ret
    exact ⟨by rw [unhide Hr]; rfl, Below.refl _ _⟩
  have d2 : decide ((12 : Int) < (s.size : Int)) = false := decide_eq_false (by omega)
  rw [show decide (s.size ≤ 12) = true from decide_eq_true (by omega), Bool.and_true] at Hr
  have hconv := Lib.run_convert_string_bytes (P := Try.prog) w 9 100 5 s Try.underlying9 Try.underlying100 Try.underlying5
  have hB : Hid (Below w.heap.size w (Lib.bytesWorld w 5 s)) := ⟨rfl, rfl, rfl, by rw [Lib.bytesWorld_size]; omega, fun k hk => Lib.bytesWorld_at_old w _ s k hk⟩
  have hC : Hid (∀ j, j < s.size → (Lib.bytesWorld w 5 s).cell? ⟨w.heap.size, j, none⟩ = some (.int .u8 (s.data.toList.getD j 0).toNat)) := fun j hj => Lib.bytesWorld_cell w _ s j hj
  generalize Lib.bytesWorld w 5 s = w1 at hconv hB hC
  generalize grownCap w s.size 0 5 = cap at hconv
  go_enter Try.func27, Try.ntmps27
  go_wp2
  go_loop [16] (fun i => ∃ k : Nat, k ≤ s.size ∧ i = .int .i64 k ∧ (s.data.toList.take k).all letter = true) (fun i => s.size - (intOf i).toNat)
  case atStart => exact ⟨0, Nat.zero_le _, rfl, by simp⟩
  case round =>
    obtain ⟨k, hk, rfl, ha⟩ := hrel
    have Ha := hide ha
    clear ha
    by_cases hlt : k < s.size
    · have hget : s.data.toList.getD k 0 = s[k] := by
        rw [List.getD_eq_getElem?_getD, List.getElem?_eq_getElem (by rw [unhide Hlen]; exact hlt)]; rfl
      have hcell := unhide hC k hlt
      rw [hget] at hcell
      have hts : s.data.toList.take (k + 1) = s.data.toList.take k ++ [s[k]] := by
        rw [List.take_succ_eq_append_getElem (by rw [unhide Hlen]; exact hlt)]; rfl
      have hb := s[k].toNat_lt
      have hl : letter s[k] = (decide (97 ≤ s[k].toNat) && decide (s[k].toNat ≤ 122)) := rfl
      have hall : letter s[k] = false → isNameB s.data.toList = false := fun hf => by
        have : s.data.toList.all letter = false := by
          rw [List.all_eq_false]
          exact ⟨s[k], by rw [← List.take_append_drop (k + 1) s.data.toList, hts]; simp, by rw [hf]; simp⟩
        rw [unhide Hr, this]
      have hnext : letter s[k] = true → (s.data.toList.take (k + 1)).all letter = true := fun ht => by rw [hts, List.all_append, unhide Ha]; simp [ht]
      have HA := hide hall
      have HN := hide hnext
      have HL := hide hl
      clear hall hnext hl hts hget
      by_cases h97 : s[k].toNat < 97
      · have d3 : decide ((s[k].toNat : Int) < 97) = true := decide_eq_true (by omega)
        have e := hide (unhide HA (by rw [unhide HL, show decide (97 ≤ s[k].toNat) = false from decide_eq_false (by omega)]; rfl))
        go_wp2
        go_ret
        exact ⟨by rw [unhide e]; rfl, unhide hB⟩
      · have d3 : decide ((s[k].toNat : Int) < 97) = false := decide_eq_false (by omega)
        by_cases h122 : 122 < s[k].toNat
        · have d4 : decide ((122 : Int) < (s[k].toNat : Int)) = true := decide_eq_true (by omega)
          have e := hide (unhide HA (by rw [unhide HL, show decide (s[k].toNat ≤ 122) = false from decide_eq_false (by omega)]; simp))
          go_wp2
          go_ret
          exact ⟨by rw [unhide e]; rfl, unhide hB⟩
        · have d4 : decide ((122 : Int) < (s[k].toNat : Int)) = false := decide_eq_false (by omega)
          have e := hide (unhide HN (by rw [unhide HL, show decide (97 ≤ s[k].toNat) = true from decide_eq_true (by omega), show decide (s[k].toNat ≤ 122) = true from decide_eq_true (by omega)]; rfl))
          go_wp2
          go_round
          case rel => exact ⟨k + 1, by omega, by go_num, unhide e⟩
          case measure => simp [intOf]; omega
    · have hks : k = s.size := by omega
      have hall : s.data.toList.all letter = true := by
        have := unhide Ha
        rwa [hks, ← unhide Hlen, List.take_length] at this
      rw [hall] at Hr
      clear hall
      go_wp2
      go_ret
      exact ⟨by rw [unhide Hr]; rfl, unhide hB⟩
end Go.Proofs.Ytknjjjenklfeoaa

/-
  The program's Find of a picture's name.
-/
namespace Go.Proofs.Ytknjjjenklfeoaa
open Go.RowKit

attribute [local go_sem ↓] loadVar_clus storeVar_clus zeroValue_clus loadVar_tab storeVar_tab zeroValue_tab loadVar_cnt storeVar_cnt zeroValue_cnt loadVar_head storeVar_head zeroValue_head build_head buildSlice_clus loadVar_wr storeVar_wr zeroValue_wr build_wr buildSlice_wr equalIn_clus loadVar_place storeVar_place zeroValue_place build_place loadVar_lst storeVar_lst zeroValue_lst storeVar_ent build_ent
attribute [local go_sem] run_loadClus run_storeClus run_zeroClus run_storeClus_new run_loadClus_new zc_length run_loadTab run_storeTab run_zeroTab run_storeTab_new run_loadTab_new zt_length run_loadCnt run_storeCnt run_zeroCnt run_storeCnt_new run_loadCnt_new zk_length run_loadHead run_storeHead run_zeroHead run_storeHead_new run_bHead HasAt_drew cellsAt_drew HasAt_drewN cellsAt_drewN run_bsClus run_loadWr run_zeroWr run_storeWr run_storeWr_new run_bWr0 run_bsWr run_loadPlace run_storePlace run_zeroPlace run_storePlace_new run_bPlace run_loadLst run_storeLst run_zeroLst run_storeLst_new run_storeEnt run_bEnt
attribute [local go_sem] field_head1 field_head0 Oper.semAt_some
attribute [local go_sem ↓] loadVar_ent zeroValue_ent
attribute [local go_sem] run_loadEnt run_zeroEnt run_storeEnt_new
/-- The place of the entry of that name among those from the k-th on, m of them; -1: there is none. -/
def findFrom (E : List EntR) (s : ByteArray) : Nat → Nat → Int
  | 0, _ => -1
  | m + 1, k => if txt (E.getD k ze).name = s then (k : Int) else findFrom E s m (k + 1)
def findE (E : List EntR) (s : ByteArray) : Int := findFrom E s (lenOf E) 0

set_option maxHeartbeats 1000000 in
set_option maxRecDepth 100000 in
theorem find_any (w : World) (E : List EntR) (hE : E.length = 4) (s : ByteArray) :
    Calls Try.prog 29 #[.agg (lv E).toArray, .string s] w fun e w' => e = .returned (.int .i64 (findE E s)) ∧ Below w.heap.size w w' := by
  have L0 := hide (Locs.one w (.cells (lv E).toArray 57))
  have l1 := blk_has (unhide L0).o0 (n := 8) (by rw [lv_length, hE])
  have l2 := blk_cells (unhide L0).o0 (n := 8) (by rw [lv_length, hE])
  have Hn := hide (len_any (w.alloc (.cells (lv E).toArray 57)) E hE)
  have hl4 := lenOf_le E
  have zll : zl.length = 4 := rfl
  have hF : findE E s = findFrom E s (lenOf E) 0 := rfl
  have HF := hide hF
  clear hF
  go_enter Try.func29, Try.ntmps29
  go_wp2_with fail
  refine (unhide Hn).mono ?_
  rintro e W5 ⟨rfl, hb5⟩
  have L1 := hide ((unhide L0).later hb5)
  clear Hn L0 l1 l2 hb5
  generalize lenOf E = n0 at *
  have hli : (n0 : Int) ≤ 4 := by omega
  go_wp2
  go_loopw [11] (fun i wr => ∃ k : Nat, k ≤ n0 ∧ i = .int .i64 k ∧ Locs w wr [.cells (lv E).toArray 57] ∧ findE E s = findFrom E s (n0 - k) k) (fun i _ => n0 - (intOf i).toNat)
  case atStart => exact ⟨0, by omega, rfl, unhide L1, unhide HF⟩
  case round =>
    obtain ⟨k, hk, rfl, hL, hl⟩ := hrel
    clear L1 HF
    by_cases hlt : k < n0
    · have hki : (k : Int) < (n0 : Int) := by omega
      have hkE : k < E.length := by omega
      have l1 := hasAt_of_range (n := 2) (ent_range hL.o0 k hkE) rfl
      have l2 := cellsAt_of_range (n := 2) (ent_range hL.o0 k hkE) rfl
      have hs : findFrom E s (n0 - k) k = if txt (E.getD k ze).name = s then (k : Int) else findFrom E s (n0 - (k + 1)) (k + 1) := by
        rw [show n0 - k = (n0 - (k + 1)) + 1 by omega, findFrom]
      rw [hs] at hl
      generalize E.getD k ze = p at *
      have hLa := hide (hL.alloc (.cells (ev p).toArray 55))
      have HB := hide (unhide hLa).below
      have c5 : (wr.alloc (.cells (ev p).toArray 55)).cell? ⟨wr.heap.size, 0, none⟩ = some (.string (txt p.name)) := (cell_new wr _ _ _ 0).trans rfl
      clear hL hs
      generalize txt p.name = q at *
      by_cases h0 : q = s
      · rw [if_pos h0] at hl
        have Hl := hide hl
        subst h0
        clear hl
        go_wp2
        go_ret
        exact ⟨by rw [unhide Hl]; rfl, unhide HB⟩
      · rw [if_neg h0] at hl
        have Hl := hide hl
        have d0 : (q.toList == s.toList) = false := beq_eq_false_iff_ne.2 (fun he => h0 (Go.WideShapes.bytes_inj (by rw [← Go.ByteArray.toList_eq, ← Go.ByteArray.toList_eq]; exact he)))
        clear hl
        go_wp2
        go_roundw
        case rel => exact ⟨k + 1, by omega, by go_num, unhide hLa, unhide Hl⟩
        case measure => simp [intOf]; omega
    · have hk4 : k = n0 := by omega
      subst hk4
      rw [Nat.sub_self] at hl
      have HB := hide hL.below
      have Hl := hide hl
      clear hl hL
      go_wp2
      go_ret
      exact ⟨by rw [unhide Hl]; rfl, unhide HB⟩
end Go.Proofs.Ytknjjjenklfeoaa

/-
  The program's entry: the place of a picture in the list, by its name.
-/
namespace Go.Proofs.Ytknjjjenklfeoaa
open Go.RowKit

/-- What entry answers: a place and how it went. -/
def entR (V : VolR) (s : ByteArray) : Int × Nat :=
  if isNameB s.data.toList = false then (0, 2) else if findE (entsOf (cl V.C 5)) s < 0 then (0, 4) else (findE (entsOf (cl V.C 5)) s, 0)

set_option maxHeartbeats 1000000 in
set_option maxRecDepth 100000 in
theorem entry_any (w : World) (v : Nat) (Cv Lv : Value) (V : VolR) (h : VolAt w v Cv Lv V) (h5 : 5 < V.C.length) (s : ByteArray) (hs : s.size ≤ maxLen) :
    Calls Try.prog 37 #[.pointer (some ⟨v, 0, none⟩), .string s] w fun e w' => e = .returned (.tuple #[.int .i64 (entR V s).1, .int .i64 ((entR V s).2 : Nat)]) ∧ Below w.heap.size w w' := by
  have Hi := hide (pIsName_any s w hs)
  have Hh := hide h
  have HE : Hid (entR V s = if isNameB s.data.toList = false then (0, 2) else if findE (entsOf (cl V.C 5)) s < 0 then (0, 4) else (findE (entsOf (cl V.C 5)) s, 0)) := rfl
  have hel := entsOf_length (cl V.C 5)
  clear h
  cases hb : isNameB s.data.toList
  · rw [hb] at Hi HE
    rw [if_pos rfl] at HE
    clear hb
    go_enter Try.func37, Try.ntmps37
    go_wp2_with fail
    refine (unhide Hi).mono ?_
    rintro e w1 ⟨rfl, hb1⟩
    have B1 := hide hb1
    clear hb1 Hi
    go_wp2
    go_ret2
    exact ⟨by rw [unhide HE]; rfl, unhide B1⟩
  · rw [hb] at Hi HE
    rw [if_neg (by simp)] at HE
    clear hb
    go_enter Try.func37, Try.ntmps37
    go_wp2_with fail
    refine (unhide Hi).mono ?_
    rintro e w1 ⟨rfl, hb1⟩
    have Hl := hide (list_vol w1 v Cv Lv V ((unhide Hh).below hb1) h5)
    have B1 := hide hb1
    clear hb1 Hi
    go_wp2_with fail
    refine (unhide Hl).mono ?_
    rintro e w2 ⟨rfl, hb2⟩
    have Hf := hide (find_any w2 (entsOf (cl V.C 5)) hel s)
    have B2 := hide ((unhide B1).trans (hb2.mono (unhide B1).size))
    clear hb2 Hl B1
    generalize entsOf (cl V.C 5) = E at *
    go_wp2_with fail
    refine (unhide Hf).mono ?_
    rintro e w3 ⟨rfl, hb3⟩
    have B3 := hide ((unhide B2).trans (hb3.mono (unhide B2).size))
    clear hb3 Hf B2
    generalize findE E s = f at *
    by_cases hf : f < 0
    · have df : decide (f < 0) = true := decide_eq_true hf
      rw [if_pos hf] at HE
      go_wp2
      go_ret2
      exact ⟨by rw [unhide HE]; rfl, unhide B3⟩
    · have df : decide (f < 0) = false := decide_eq_false hf
      rw [if_neg hf] at HE
      go_wp2
      go_ret2
      exact ⟨by rw [unhide HE]; rfl, unhide B3⟩
end Go.Proofs.Ytknjjjenklfeoaa

/-
  The program's ReadOf.
-/
namespace Go.Proofs.Ytknjjjenklfeoaa
open Go.RowKit

attribute [local go_sem ↓] loadVar_clus storeVar_clus zeroValue_clus loadVar_tab storeVar_tab zeroValue_tab loadVar_cnt storeVar_cnt zeroValue_cnt loadVar_head storeVar_head zeroValue_head build_head buildSlice_clus loadVar_wr storeVar_wr zeroValue_wr build_wr buildSlice_wr equalIn_clus loadVar_place storeVar_place zeroValue_place build_place loadVar_lst storeVar_lst zeroValue_lst storeVar_ent build_ent
attribute [local go_sem] run_loadClus run_storeClus run_zeroClus run_storeClus_new run_loadClus_new zc_length run_loadTab run_storeTab run_zeroTab run_storeTab_new run_loadTab_new zt_length run_loadCnt run_storeCnt run_zeroCnt run_storeCnt_new run_loadCnt_new zk_length run_loadHead run_storeHead run_zeroHead run_storeHead_new run_bHead HasAt_drew cellsAt_drew HasAt_drewN cellsAt_drewN run_bsClus run_loadWr run_zeroWr run_storeWr run_storeWr_new run_bWr0 run_bsWr run_loadPlace run_storePlace run_zeroPlace run_storePlace_new run_bPlace run_loadLst run_storeLst run_zeroLst run_storeLst_new run_storeEnt run_bEnt
attribute [local go_sem] field_head1 field_head0 Oper.semAt_some
attribute [local go_sem ↓] loadVar_ent zeroValue_ent
attribute [local go_sem] run_loadEnt run_zeroEnt run_storeEnt_new
theorem findFrom_some (E : List EntR) (s : ByteArray) : ∀ m k, 0 ≤ findFrom E s m k → ∃ i, k ≤ i ∧ i < k + m ∧ findFrom E s m k = (i : Int)
  | 0, k, h => by simp [findFrom] at h
  | m + 1, k, h => by
    unfold findFrom at h ⊢
    split
    · exact ⟨k, by omega, by omega, rfl⟩
    · rename_i hn
      rw [if_neg hn] at h
      obtain ⟨i, h1, h2, h3⟩ := findFrom_some E s m (k + 1) h
      exact ⟨i, by omega, by omega, h3⟩
theorem entR_cases (V : VolR) (s : ByteArray) : (entR V s = (0, 2) ∨ entR V s = (0, 4)) ∨ ∃ i, i < lenOf (entsOf (cl V.C 5)) ∧ entR V s = (((i : Nat) : Int), 0) ∧ findE (entsOf (cl V.C 5)) s = (i : Int) := by
  unfold entR
  split
  · exact Or.inl (Or.inl rfl)
  · split
    · exact Or.inl (Or.inr rfl)
    · rename_i h
      obtain ⟨i, _, h2, h3⟩ := findFrom_some (entsOf (cl V.C 5)) s (lenOf (entsOf (cl V.C 5))) 0 (by unfold findE at h; omega)
      have h4 : findE (entsOf (cl V.C 5)) s = (i : Int) := h3
      exact Or.inr ⟨i, by omega, by rw [h4], h4⟩

end Go.Proofs.Ytknjjjenklfeoaa

/-
  The program's pictures: ReadOf.
-/
namespace Go.Proofs.Ytknjjjenklfeoaa
open Go.RowKit

attribute [local go_sem ↓] loadVar_clus storeVar_clus zeroValue_clus loadVar_tab storeVar_tab zeroValue_tab loadVar_cnt storeVar_cnt zeroValue_cnt loadVar_head storeVar_head zeroValue_head build_head buildSlice_clus loadVar_wr storeVar_wr zeroValue_wr build_wr buildSlice_wr equalIn_clus loadVar_place storeVar_place zeroValue_place build_place loadVar_lst storeVar_lst zeroValue_lst storeVar_ent build_ent
attribute [local go_sem] run_loadClus run_storeClus run_zeroClus run_storeClus_new run_loadClus_new zc_length run_loadTab run_storeTab run_zeroTab run_storeTab_new run_loadTab_new zt_length run_loadCnt run_storeCnt run_zeroCnt run_storeCnt_new run_loadCnt_new zk_length run_loadHead run_storeHead run_zeroHead run_storeHead_new run_bHead HasAt_drew cellsAt_drew HasAt_drewN cellsAt_drewN run_bsClus run_loadWr run_zeroWr run_storeWr run_storeWr_new run_bWr0 run_bsWr run_loadPlace run_storePlace run_zeroPlace run_storePlace_new run_bPlace run_loadLst run_storeLst run_zeroLst run_storeLst_new run_storeEnt run_bEnt
attribute [local go_sem] field_head1 field_head0 Oper.semAt_some
attribute [local go_sem ↓] loadVar_ent zeroValue_ent
attribute [local go_sem] run_loadEnt run_zeroEnt run_storeEnt_new
theorem lv_part (E : List EntR) : ∀ k, k < E.length → ((lv E).drop (k * 2)).take 2 = ev (E.getD k ze) := by
  induction E with
  | nil => intro k hk; cases hk
  | cons e r ih =>
    intro k hk
    cases k with
    | zero => rfl
    | succ k =>
      have := ih k (by simpa using hk)
      show ((ev e ++ lv r).drop ((k + 1) * 2)).take 2 = _
      rw [List.drop_append, show (ev e).drop ((k + 1) * 2) = [] by rw [List.drop_eq_nil_of_le]; simp [ev]; omega, show (k + 1) * 2 - (ev e).length = k * 2 by simp [ev]; omega, List.nil_append, this]
      rfl
theorem part_ent (E : List EntR) (k : Nat) (hk : k < E.length) (w : World) : (part 55 (lv E).toArray (k * 2)).run Try.prog w = .ok (.agg (ev (E.getD k ze)).toArray) w := by
  have ha : (isAgg 55).run Try.prog w = .ok true w := by unfold isAgg; rw [Sem.run_bind, run_underlying Try.underlying55 w]; rfl
  have hz := run_sizeOf (P := Try.prog) (e := 55) (sz := 2) (by kernel_rfl) w
  unfold part
  rw [Sem.run_bind, ha]
  simp only [Result.andThen_ok, if_true]
  rw [Sem.run_bind, hz]
  simp only [Result.andThen_ok]
  have : (lv E).toArray.extract (k * 2) (k * 2 + 2) = (ev (E.getD k ze)).toArray := by
    rw [List.extract_toArray, List.extract_eq_take_drop, show k * 2 + 2 - k * 2 = 2 by omega, lv_part E k hk]
  rw [this]
  rfl
theorem run_index_lst (w : World) (E : List EntR) (hE : E.length = 4) (k : Nat) (hk : k < 4) : (Instr.index 57 (.agg (lv E).toArray) (.int .i64 (k : Int))).run Try.prog w = .ok (.agg (ev (E.getD k ze)).toArray) w :=
  run_index_arr w _ _ 4 2 Try.underlying57 (by kernel_rfl) _ k hk _ (part_ent E k (by omega) w)
theorem field_ent1 (e : EntR) (w : World) : (Instr.field 55 (.agg (ev e).toArray) 1).run Try.prog w = .ok (.int .i64 (e.first : Nat)) w := by
  kernel_rfl
theorem field_ent0 (e : EntR) (w : World) : (Instr.field 55 (.agg (ev e).toArray) 0).run Try.prog w = .ok (.string (txt e.name)) w := by
  kernel_rfl
attribute [local go_sem] field_ent0 field_ent1 field_head1 field_head0
end Go.Proofs.Ytknjjjenklfeoaa

/-
  The program's pictures: the list with one more, with one less, as a cluster.
-/
namespace Go.Proofs.Ytknjjjenklfeoaa
open Go.RowKit

attribute [local go_sem ↓] loadVar_clus storeVar_clus zeroValue_clus loadVar_tab storeVar_tab zeroValue_tab loadVar_cnt storeVar_cnt zeroValue_cnt loadVar_head storeVar_head zeroValue_head build_head buildSlice_clus loadVar_wr storeVar_wr zeroValue_wr build_wr buildSlice_wr equalIn_clus loadVar_place storeVar_place zeroValue_place build_place loadVar_lst storeVar_lst zeroValue_lst storeVar_ent build_ent
attribute [local go_sem] run_loadClus run_storeClus run_zeroClus run_storeClus_new run_loadClus_new zc_length run_loadTab run_storeTab run_zeroTab run_storeTab_new run_loadTab_new zt_length run_loadCnt run_storeCnt run_zeroCnt run_storeCnt_new run_loadCnt_new zk_length run_loadHead run_storeHead run_zeroHead run_storeHead_new run_bHead HasAt_drew cellsAt_drew HasAt_drewN cellsAt_drewN run_bsClus run_loadWr run_zeroWr run_storeWr run_storeWr_new run_bWr0 run_bsWr run_loadPlace run_storePlace run_zeroPlace run_storePlace_new run_bPlace run_loadLst run_storeLst run_zeroLst run_storeLst_new run_storeEnt run_bEnt
attribute [local go_sem] field_head1 field_head0 Oper.semAt_some
attribute [local go_sem ↓] loadVar_ent zeroValue_ent
attribute [local go_sem] run_loadEnt run_zeroEnt run_storeEnt_new
theorem run_copy_wide {P : Program} (w : World) (dT sT ty elem : TypeId) (sz b o dLen dCap : Nat) (a : Addr) (sLen sCap : Nat) (cs : List Value)
    (hu : P.underlying dT = some (.slice elem)) (hs : (P.info? elem).map (·.size) = some sz) (hn : cs.length = Nat.min sLen dLen * sz)
    (hsrc : ∀ j v, cs[j]? = some v → w.cell? (a.add j) = some v) (hc : ∀ j, j < cs.length → (w.cell? ⟨b, o + j, none⟩).isSome = true) (hf : ∀ j, j < cs.length → w.frozen? ⟨b, o + j, none⟩ = false) (h1 : ∀ v ∈ cs, v.oneCell' = true) :
    (Builtin.copy_ #[dT, sT] ty #[.slice (some ⟨b, o, none⟩) dLen dCap, .slice (some a) sLen sCap]).run P w = .ok (goInt (Nat.min sLen dLen : Nat)) (w.setCells b o cs) := by
  have hl := run_loadCells_list (P := P) w a cs hsrc
  have hst := run_storeCells_cells (P := P) b o cs 0 w (by simpa using hc) (by simpa using hf) h1
  cases hq : P.info? elem with
  | none => simp [hq] at hs
  | some i =>
    have hi : i.size = sz := by simpa [hq] using hs
    simp [Builtin.copy_, run_underlying hu, Builtin.lenOf, Builtin.firstCells, Go.sizeOf, typeInfo, hq, hi, ← hn, hl, hst]

set_option maxHeartbeats 1000000 in
set_option maxRecDepth 100000 in
theorem with_any (w : World) (E : List EntR) (hE : E.length = 4) (p : EntR) (hl : lenOf E < 4) :
    Calls Try.prog 34 #[.agg (lv E).toArray, .agg (ev p).toArray] w fun e w' => e = .returned (.agg (lv (E.set (lenOf E) p)).toArray) ∧ Below w.heap.size w w' := by
  have L0 := Locs.three w (.cells (lv E).toArray 57) (.cells (ev p).toArray 55) (.cells (lv zl).toArray 57)
  have l1 := blk_has L0.drew.o0 (n := 8) (by rw [lv_length, hE])
  have l2 := blk_cells L0.drew.o0 (n := 8) (by rw [lv_length, hE])
  have l3 := blk_has L0.drew.o1 (n := 2) (by simp [ev])
  have l4 := blk_cells L0.drew.o1 (n := 2) (by simp [ev])
  have Hl := hide (len_any ((((w.alloc (.cells (lv E).toArray 57)).alloc (.cells (ev p).toArray 55)).alloc (.cells (lv zl).toArray 57)).drew) E hE)
  have hki : ((lenOf E : Nat) : Int) < 4 := by omega
  have hset := lv_setList E (lenOf E) (by omega) p
  have hsl : (E.set (lenOf E) p).length = 4 := by rw [List.length_set, hE]
  have L0 := hide L0
  generalize hkk : lenOf E = k at *
  go_enter Try.func34, Try.ntmps34
  go_wp2
  go_region_law (go_simp
                 go_at_call 30
                 refine (unhide Hl).mono ?_
                 rintro e w2 ⟨rfl, hb2⟩
                 have L2 := (unhide L0).drew.later hb2
                 have th := there_blk L2.o0 (k * 2) 2 (by rw [List.size_toArray, lv_length, hE]; omega)
                 have m3 := blk_has L2.o1 (n := 2) (by simp [ev])
                 have m4 := blk_cells L2.o1 (n := 2) (by simp [ev])
                 have L2 := hide L2)
  all_goals
    have L3 := (unhide L2).setCells 0 rfl (k * 2) (ev p)
    rw [Nat.add_zero] at L3
    generalize w2.setCells w.heap.size (k * 2) (ev p) = w3 at *
    rw [Nat.mul_comm k 2, hset] at L3
    simp only [List.set_cons_zero] at L3
    have n1 := blk_has L3.o0 (n := 8) (by rw [lv_length, hsl])
    have n2 := blk_cells L3.o0 (n := 8) (by rw [lv_length, hsl])
    have th2 := there_blk L3.o2 0 8 (by simp [lv_length, zl])
    have L4 := L3.setCells 2 rfl 0 (lv (E.set k p))
    rw [setList_all _ _ (by simp [lv_length, zl, hE])] at L4
    simp only [List.set_cons_zero, List.set_cons_succ] at L4
    have n3 := blk_has L4.o2 (n := 8) (by rw [lv_length, hsl])
    have n4 := blk_cells L4.o2 (n := 8) (by rw [lv_length, hsl])
    have HB := hide L4.below
    clear L4 L3 L2 hb2 th m3 m4 l1 l2 l3 l4 Hl hset
    go_wp2
    refine bodyPost_ret (results_cell Try.results34 ⟨w.heap.size + 1 + 1, 0, none⟩ rfl ?_) rfl ⟨rfl, unhide HB⟩
    rw [loadVar_lst, run_loadLst n3, n4]

/-- The list without its i-th entry. -/
def lessE (E : List EntR) (i : Nat) : List EntR := E.eraseIdx i ++ [ze]
theorem run_bEnt0 (w : World) : (bEnt #[]).run Try.prog w = .ok (.agg (ev ze).toArray) w := by kernel_rfl
attribute [local go_sem] run_bEnt0
set_option maxHeartbeats 2000000 in
set_option maxRecDepth 100000 in
theorem without_any (w : World) (E : List EntR) (hE : E.length = 4) (i : Nat) (hi : i < 4) :
    Calls Try.prog 41 #[.agg (lv E).toArray, .int .i64 (i : Nat)] w fun e w' => e = .returned (.agg (lv (lessE E i)).toArray) ∧ Below w.heap.size w w' := by
  match E, hE with
  | [e0, e1, e2, e3], _ =>
  have L0 := (Locs.two w (.cells (lv [e0, e1, e2, e3]).toArray 57) (.cells (lv zl).toArray 57)).drew
  rcases (show i = 0 ∨ i = 1 ∨ i = 2 ∨ i = 3 by omega) with rfl | rfl | rfl | rfl
  · have hcp := run_copy_wide (P := Try.prog) _ 103 103 3 55 2 w.heap.size 0 4 4 ⟨w.heap.size, 2, none⟩ 3 3 (lv [e1, e2, e3]) Try.underlying103 (by kernel_rfl) (by simp [lv, ev])
      (fun j v hv => by rw [show (⟨w.heap.size, 2, none⟩ : Addr).add j = ⟨w.heap.size, 2 + j, none⟩ by simp [Addr.add]; try omega]; rw [cell_blk L0.o0, List.getElem?_toArray]; simpa [lv, ev, Nat.add_comm] using hv)
      (fun j hj => by rw [cell_blk L0.o0, List.getElem?_toArray, List.getElem?_eq_getElem (by simp [lv, ev] at hj ⊢; try omega)]; rfl) (fun j _ => frozen_blk L0.o0 _) (lv_one _)
    have L1 := L0.setCells 0 rfl 0 (lv [e1, e2, e3])
    rw [Nat.add_zero, show setList (lv [e0, e1, e2, e3]).toArray 0 (lv [e1, e2, e3]) = (lv [e1, e2, e3, e3]).toArray from rfl] at L1
    simp only [List.set_cons_zero] at L1
    generalize hW1 : World.setCells _ w.heap.size 0 (lv [e1, e2, e3]) = W1 at *
    have th1 := there_blk L1.o0 6 2 (by simp [lv_length])
    have L2 := L1.setCells 0 rfl 6 (ev ze)
    rw [Nat.add_zero, show setList (lv [e1, e2, e3, e3]).toArray 6 (ev ze) = (lv (lessE [e0, e1, e2, e3] 0)).toArray from rfl] at L2
    simp only [List.set_cons_zero] at L2
    have n1 := blk_has L2.o0 (n := 8) (by simp [lv_length, lessE])
    have n2 := blk_cells L2.o0 (n := 8) (by simp [lv_length, lessE])
    have th2 := there_blk L2.o1 0 8 (by simp [lv_length, zl])
    have L3 := L2.setCells 1 rfl 0 (lv (lessE [e0, e1, e2, e3] 0))
    rw [setList_all _ _ (by simp [lv_length, zl, lessE])] at L3
    simp only [List.set_cons_zero, List.set_cons_succ] at L3
    have n3 := blk_has L3.o1 (n := 8) (by simp [lv_length, lessE])
    have n4 := blk_cells L3.o1 (n := 8) (by simp [lv_length, lessE])
    have hll : (lessE [e0, e1, e2, e3] 0).length = 4 := rfl
    have HB := hide L3.below
    clear L3 L2 L1 L0
    generalize lessE [e0, e1, e2, e3] 0 = F at *
    simp only [Nat.min_def, goInt] at hcp
    go_enter Try.func41, Try.ntmps41
    go_wp2
    go_region
    go_wp2
    refine bodyPost_ret (results_cell Try.results41 ⟨w.heap.size + 1, 0, none⟩ rfl ?_) rfl ⟨rfl, unhide HB⟩
    rw [loadVar_lst, run_loadLst n3, n4]
  · have hcp := run_copy_wide (P := Try.prog) _ 103 103 3 55 2 w.heap.size 2 3 3 ⟨w.heap.size, 4, none⟩ 2 2 (lv [e2, e3]) Try.underlying103 (by kernel_rfl) (by simp [lv, ev])
      (fun j v hv => by rw [show (⟨w.heap.size, 4, none⟩ : Addr).add j = ⟨w.heap.size, 4 + j, none⟩ by simp [Addr.add]; try omega]; rw [cell_blk L0.o0, List.getElem?_toArray]; simpa [lv, ev, Nat.add_comm] using hv)
      (fun j hj => by rw [cell_blk L0.o0, List.getElem?_toArray, List.getElem?_eq_getElem (by simp [lv, ev] at hj ⊢; try omega)]; rfl) (fun j _ => frozen_blk L0.o0 _) (lv_one _)
    have L1 := L0.setCells 0 rfl 2 (lv [e2, e3])
    rw [Nat.add_zero, show setList (lv [e0, e1, e2, e3]).toArray 2 (lv [e2, e3]) = (lv [e0, e2, e3, e3]).toArray from rfl] at L1
    simp only [List.set_cons_zero] at L1
    generalize hW1 : World.setCells _ w.heap.size 2 (lv [e2, e3]) = W1 at *
    have th1 := there_blk L1.o0 6 2 (by simp [lv_length])
    have L2 := L1.setCells 0 rfl 6 (ev ze)
    rw [Nat.add_zero, show setList (lv [e0, e2, e3, e3]).toArray 6 (ev ze) = (lv (lessE [e0, e1, e2, e3] 1)).toArray from rfl] at L2
    simp only [List.set_cons_zero] at L2
    have n1 := blk_has L2.o0 (n := 8) (by simp [lv_length, lessE])
    have n2 := blk_cells L2.o0 (n := 8) (by simp [lv_length, lessE])
    have th2 := there_blk L2.o1 0 8 (by simp [lv_length, zl])
    have L3 := L2.setCells 1 rfl 0 (lv (lessE [e0, e1, e2, e3] 1))
    rw [setList_all _ _ (by simp [lv_length, zl, lessE])] at L3
    simp only [List.set_cons_zero, List.set_cons_succ] at L3
    have n3 := blk_has L3.o1 (n := 8) (by simp [lv_length, lessE])
    have n4 := blk_cells L3.o1 (n := 8) (by simp [lv_length, lessE])
    have hll : (lessE [e0, e1, e2, e3] 1).length = 4 := rfl
    have HB := hide L3.below
    clear L3 L2 L1 L0
    generalize lessE [e0, e1, e2, e3] 1 = F at *
    simp only [Nat.min_def, goInt] at hcp
    go_enter Try.func41, Try.ntmps41
    go_wp2
    go_region
    go_wp2
    refine bodyPost_ret (results_cell Try.results41 ⟨w.heap.size + 1, 0, none⟩ rfl ?_) rfl ⟨rfl, unhide HB⟩
    rw [loadVar_lst, run_loadLst n3, n4]
  · have hcp := run_copy_wide (P := Try.prog) _ 103 103 3 55 2 w.heap.size 4 2 2 ⟨w.heap.size, 6, none⟩ 1 1 (lv [e3]) Try.underlying103 (by kernel_rfl) (by simp [lv, ev])
      (fun j v hv => by rw [show (⟨w.heap.size, 6, none⟩ : Addr).add j = ⟨w.heap.size, 6 + j, none⟩ by simp [Addr.add]; try omega]; rw [cell_blk L0.o0, List.getElem?_toArray]; simpa [lv, ev, Nat.add_comm] using hv)
      (fun j hj => by rw [cell_blk L0.o0, List.getElem?_toArray, List.getElem?_eq_getElem (by simp [lv, ev] at hj ⊢; try omega)]; rfl) (fun j _ => frozen_blk L0.o0 _) (lv_one _)
    have L1 := L0.setCells 0 rfl 4 (lv [e3])
    rw [Nat.add_zero, show setList (lv [e0, e1, e2, e3]).toArray 4 (lv [e3]) = (lv [e0, e1, e3, e3]).toArray from rfl] at L1
    simp only [List.set_cons_zero] at L1
    generalize hW1 : World.setCells _ w.heap.size 4 (lv [e3]) = W1 at *
    have th1 := there_blk L1.o0 6 2 (by simp [lv_length])
    have L2 := L1.setCells 0 rfl 6 (ev ze)
    rw [Nat.add_zero, show setList (lv [e0, e1, e3, e3]).toArray 6 (ev ze) = (lv (lessE [e0, e1, e2, e3] 2)).toArray from rfl] at L2
    simp only [List.set_cons_zero] at L2
    have n1 := blk_has L2.o0 (n := 8) (by simp [lv_length, lessE])
    have n2 := blk_cells L2.o0 (n := 8) (by simp [lv_length, lessE])
    have th2 := there_blk L2.o1 0 8 (by simp [lv_length, zl])
    have L3 := L2.setCells 1 rfl 0 (lv (lessE [e0, e1, e2, e3] 2))
    rw [setList_all _ _ (by simp [lv_length, zl, lessE])] at L3
    simp only [List.set_cons_zero, List.set_cons_succ] at L3
    have n3 := blk_has L3.o1 (n := 8) (by simp [lv_length, lessE])
    have n4 := blk_cells L3.o1 (n := 8) (by simp [lv_length, lessE])
    have hll : (lessE [e0, e1, e2, e3] 2).length = 4 := rfl
    have HB := hide L3.below
    clear L3 L2 L1 L0
    generalize lessE [e0, e1, e2, e3] 2 = F at *
    simp only [Nat.min_def, goInt] at hcp
    go_enter Try.func41, Try.ntmps41
    go_wp2
    go_region
    go_wp2
    refine bodyPost_ret (results_cell Try.results41 ⟨w.heap.size + 1, 0, none⟩ rfl ?_) rfl ⟨rfl, unhide HB⟩
    rw [loadVar_lst, run_loadLst n3, n4]
  · have hcp := run_copy_wide (P := Try.prog) _ 103 103 3 55 2 w.heap.size 6 1 1 ⟨w.heap.size, 0, none⟩ 0 0 (lv []) Try.underlying103 (by kernel_rfl) (by simp [lv])
      (fun j v hv => by simp [lv] at hv) (fun j hj => by simp [lv] at hj) (fun j _ => frozen_blk L0.o0 _) (lv_one _)
    have L1 := L0.setCells 0 rfl 6 (lv [])
    rw [Nat.add_zero, show setList (lv [e0, e1, e2, e3]).toArray 6 (lv []) = (lv [e0, e1, e2, e3]).toArray from rfl] at L1
    simp only [List.set_cons_zero] at L1
    generalize hW1 : World.setCells _ w.heap.size 6 (lv []) = W1 at *
    have th1 := there_blk L1.o0 6 2 (by simp [lv_length])
    have L2 := L1.setCells 0 rfl 6 (ev ze)
    rw [Nat.add_zero, show setList (lv [e0, e1, e2, e3]).toArray 6 (ev ze) = (lv (lessE [e0, e1, e2, e3] 3)).toArray from rfl] at L2
    simp only [List.set_cons_zero] at L2
    have n1 := blk_has L2.o0 (n := 8) (by simp [lv_length, lessE])
    have n2 := blk_cells L2.o0 (n := 8) (by simp [lv_length, lessE])
    have th2 := there_blk L2.o1 0 8 (by simp [lv_length, zl])
    have L3 := L2.setCells 1 rfl 0 (lv (lessE [e0, e1, e2, e3] 3))
    rw [setList_all _ _ (by simp [lv_length, zl, lessE])] at L3
    simp only [List.set_cons_zero, List.set_cons_succ] at L3
    have n3 := blk_has L3.o1 (n := 8) (by simp [lv_length, lessE])
    have n4 := blk_cells L3.o1 (n := 8) (by simp [lv_length, lessE])
    have hll : (lessE [e0, e1, e2, e3] 3).length = 4 := rfl
    have HB := hide L3.below
    clear L3 L2 L1 L0
    generalize lessE [e0, e1, e2, e3] 3 = F at *
    simp only [Nat.min_def, goInt] at hcp
    go_enter Try.func41, Try.ntmps41
    go_wp2
    go_region
    go_wp2
    refine bodyPost_ret (results_cell Try.results41 ⟨w.heap.size + 1, 0, none⟩ rfl ?_) rfl ⟨rfl, unhide HB⟩
    rw [loadVar_lst, run_loadLst n3, n4]
end Go.Proofs.Ytknjjjenklfeoaa
