import Derived.Test.YtknjjjenklfeoaaGreatDoorC36
import Derived.Test.YtknjjjenklfeoaaGreatDoorC22
import Derived.Test.YtknjjjenklfeoaaGreatDoorC21
set_option maxHeartbeats 8000000
set_option maxRecDepth 100000
namespace Go.Proofs.YtknjjjenklfeoaaGreatDoor
open Go.RowKit
attribute [local go_sem ↓] loadVar_clus storeVar_clus zeroValue_clus loadVar_tab storeVar_tab zeroValue_tab loadVar_cnt storeVar_cnt zeroValue_cnt loadVar_head storeVar_head zeroValue_head build_head buildSlice_clus loadVar_wr storeVar_wr zeroValue_wr build_wr buildSlice_wr equalIn_clus loadVar_place storeVar_place zeroValue_place build_place loadVar_lst storeVar_lst zeroValue_lst storeVar_ent build_ent
attribute [local go_sem] run_loadClus run_storeClus run_zeroClus run_storeClus_new run_loadClus_new zc_length run_loadTab run_storeTab run_zeroTab run_storeTab_new run_loadTab_new zt_length run_loadCnt run_storeCnt run_zeroCnt run_storeCnt_new run_loadCnt_new zk_length run_loadHead run_storeHead run_zeroHead run_storeHead_new run_bHead HasAt_drew cellsAt_drew HasAt_drewN cellsAt_drewN run_bsClus run_loadWr run_zeroWr run_storeWr run_storeWr_new run_bWr0 run_bsWr run_loadPlace run_storePlace run_zeroPlace run_storePlace_new run_bPlace run_loadLst run_storeLst run_zeroLst run_storeLst_new run_storeEnt run_bEnt
attribute [local go_sem] field_head1 field_head0 Oper.semAt_some
attribute [local go_sem ↓] loadVar_ent zeroValue_ent
attribute [local go_sem] run_loadEnt run_zeroEnt run_storeEnt_new
attribute [local go_sem] field_ent0 field_ent1
theorem heldGo_any (v:Nat) (V:VolR) (h5:5<V.C.length) (hC:V.C.length≤256) (hL:V.L.length≤600000000) (f:Nat) (hFk:FirstOK V f) (hF: ∀ g ∈ firstsOf (letGoV1 V (heldAll V.C f)),FirstOK (letGoV1 V (heldAll V.C f)) g) (W:World) (C1 L1:Value) (bv bt:Nat)
   (hV:VolAt W v C1 L1 V) (hbv:W.heap[bv]? = some (.cells #[.pointer (some ⟨v,0,none⟩)] 82 (0,0))) (hbt:W.heap[bt]? = some (.cells #[.int .i64 (f:Nat)] 3 (0,0))) (hft: ¬ foot v C1 L1 bt) (hfv: ¬ foot v C1 L1 bv):
   Calls Tryz.prog 110 #[.pointer (some ⟨v,0,none⟩),.func (.func 166) #[] #[.pointer (some ⟨bt,0,none⟩),.pointer (some ⟨bv,0,none⟩)]] W fun e w'=>e= .returned (.tuple #[])∧ ∃ C2 L2,VStep W w' v C1 L1 C2 L2 (letGoV V (heldAll V.C f)):=
 callsIn_wide.1 (letGo_in W v C1 L1 V hV h5 hC hL 166 #[.pointer (some ⟨bt,0,none⟩),.pointer (some ⟨bv,0,none⟩)] (heldAll V.C f) 1057 (enters_of Tryz.func166 (by kernel_rfl) rfl)
   (fun X B hX=>held_all 99 (by omega) X v bv bt f B V C1 L1 W hV hC hbv hbt (fun hx=>by have:=(hX _ hx).1;have:=blk_lt hbt;omega) (fun hx=>by have:=(hX _ hx).1;have:=blk_lt hbv;omega) hft hfv (fun k hk=>(hX k hk).2) hFk) hF)
def dropW (V:VolR) (i:Nat):VolR:=flushV (putV V 5 (listTo (lessE (entsOf (cl V.C 5)) i) 4))
def firstE (V:VolR) (s:ByteArray):Nat:=((entsOf (cl V.C 5)).getD (entR V s).1.toNat ze).first
structure Goes (V:VolR) (f:Nat):Prop where
 len:V.C.length≤256
 own:FirstOK V f
 all: ∀ g ∈ firstsOf (letGoV1 V (heldAll V.C f)),FirstOK (letGoV1 V (heldAll V.C f)) g
def dropR (V:VolR) (s:ByteArray):VolR × Nat:=
 if (entR V s).2=0 then (letGoV (dropW V (entR V s).1.toNat) (heldAll (dropW V (entR V s).1.toNat).C (firstE V s)),0) else (V,(entR V s).2)
theorem volDrop_any (w:World) (v:Nat) (Cv Lv:Value) (V:VolR) (h:VolAt w v Cv Lv V) (h5:5<V.C.length) (hC:V.C.length≤256) (hL:V.L.length≤400000000) (s:ByteArray) (hs:s.size≤maxLen)
   (hG:(entR V s).2=0→Goes (dropW V (entR V s).1.toNat) (firstE V s)):
   Calls Tryz.prog 56 #[.pointer (some ⟨v,0,none⟩),.string s] w fun e w'=>e= .returned (.int .i64 ((dropR V s).2:Nat))∧ ∃ C1 L1,VStep w w' v Cv Lv C1 L1 (dropR V s).1:=by
 have He:=hide (entry_any w v Cv Lv V h h5 s hs)
 have H:=hide h
 clear h
 rcases (show (∃ m,m≠0∧entR V s=(0,m))∨ ∃ i,i<lenOf (entsOf (cl V.C 5))∧entR V s=(((i:Nat):Int),0) by
   rcases entR_cases V s with (e | e) | ⟨i,hi,e,_⟩
   · exact Or.inl ⟨2,by decide,e⟩
   · exact Or.inl ⟨4,by decide,e⟩
   · exact Or.inr ⟨i,hi,e⟩) with ⟨m,hm,e⟩ | ⟨i,hi,e⟩
 · have hR:dropR V s=(V,m):=by unfold dropR;rw [e,if_neg hm]
   rw [hR]
   rw [e] at He
   dsimp only at He ⊢
   have d0:(((m:Nat):Int) != 0)=true:=by rw [bne_iff_ne];omega
   clear hG hR e
   go_enter Tryz.func56,Tryz.ntmps56
   go_wp2_with fail
   refine (uh He).mono ?_
   rintro e w1 ⟨rfl,hb1⟩
   have B1:=hide ((VStep.refl (uh H)).later hb1)
   clear hb1 He
   go_wp2
   go_ret
   exact ⟨rfl,_,_,uh B1⟩
 · have hG:=hG (by rw [e])
   have hR:dropR V s=(letGoV (dropW V i) (heldAll (dropW V i).C (firstE V s)),0):=by unfold dropR;rw [e];rfl
   have hfe:firstE V s=((entsOf (cl V.C 5)).getD i ze).first:=by unfold firstE;rw [e];rfl
   rw [hR]
   rw [e] at He hG
   dsimp only at He hG ⊢
   have hG:Goes (dropW V i) (firstE V s):=hG
   have Hl:Hid (∀ W,VolAt W v Cv Lv V→_):=fun W hW=>list_vol W v Cv Lv V hW h5
   have hel:=entsOf_length (cl V.C 5)
   have hle:=lenOf_le (entsOf (cl V.C 5))
   have Hwo:Hid (∀ W,_):=fun W=>without_any W (entsOf (cl V.C 5)) hel i (by omega)
   have hsh:=(short_ents (cl V.C 5)).less i
   have hll:(lessE (entsOf (cl V.C 5)) i).length=4:=by unfold lessE;rw [List.length_append,List.length_eraseIdx,hel,if_pos (by omega)];rfl
   have HPl:Hid (∀ W C1 L1,VolAt W v C1 L1 V→_):=fun W C1 L1 hW=>putList_any W v C1 L1 V hW (lessE (entsOf (cl V.C 5)) i) hll hsh (by omega) (by omega)
   have HD:Hid (dropW V i=flushV (putV V 5 (listTo (lessE (entsOf (cl V.C 5)) i) 4))):=rfl
   have hpL:=putV_lenL V 5 (listTo (lessE (entsOf (cl V.C 5)) i) 4)
   have hpC:=putV_lenC V 5 (listTo (lessE (entsOf (cl V.C 5)) i) 4)
   generalize listTo (lessE (entsOf (cl V.C 5)) i) 4=lb at*
   generalize lessE (entsOf (cl V.C 5)) i=E' at*
   have HFl:Hid (∀ W C1 L1,VolAt W v C1 L1 (putV V 5 lb)→_):=fun W C1 L1 hW=>flush_any W v C1 L1 (putV V 5 lb) hW (by omega)
   have hfL:=flushV_lenL (putV V 5 lb)
   have hfC:(flushV (putV V 5 lb)).C.length=(putV V 5 lb).C.length:=by rw [flushV_C]
   rw [← uh HD] at HFl hfL hfC
   generalize putV V 5 lb=V1 at*
   generalize dropW V i=V2 at*
   have HLg:Hid (∀ W C1 L1 bv bt,VolAt W v C1 L1 V2→_→_→_→_→_):=fun W C1 L1 bv bt hW=>heldGo_any v V2 (by omega) hG.len (by omega) (firstE V s) hG.own hG.all W C1 L1 bv bt hW
   generalize letGoV V2 (heldAll V2.C (firstE V s))=V3 at*
   rw [hfe] at HLg
   clear hG hfe hR e HD
   generalize entsOf (cl V.C 5)=E at*
   go_enter Tryz.func56,Tryz.ntmps56
   go_wp2_with fail
   refine (uh He).mono ?_
   rintro e w1 ⟨rfl,hb1⟩
   have E1:=hide ((Env.start (uh H)).later hb1)
   clear hb1 He
   go_wp2_with fail
   refine (uh Hl _ (uh E1).at').mono ?_
   rintro e w2 ⟨rfl,hb2⟩
   have E2:=((uh E1).later hb2).lay (.cells (lv E).toArray 144)
   have l1:=blk_has E2.o0 (n:=8) (by rw [lv_length,hel])
   have l2:=blk_cells E2.o0 (n:=8) (by rw [lv_length,hel])
   have E2:=hide E2
   have zll:zl.length=4:=rfl
   clear hb2 Hl E1
   go_wp2_with fail
   refine (uh Hwo _).mono ?_
   rintro e w3 ⟨rfl,hb3⟩
   have E3:=hide ((uh E2).later hb3)
   clear hb3 Hwo E2 l1 l2
   go_wp2_with fail
   refine (uh HPl _ _ _ (uh E3).at').mono ?_
   rintro e w4 ⟨rfl,C4,L4,hS4⟩
   have E4:=hide ((uh E3).does hS4)
   clear hS4 HPl E3
   go_wp2_with fail
   refine (uh HFl _ _ _ (uh E4).at').mono ?_
   rintro e w5 ⟨rfl,C5,L5,hS5⟩
   have E5:=(uh E4).does hS5
   have c5:=ent_first E5.o0 i (by omega)
   have hii:(i:Int)<4:=by omega
   have E6:=(E5.lay (.cells #[.pointer (some ⟨v,0,none⟩)] 82)).lay (.cells #[.int .i64 ((E.getD i ze).first:Nat)] 3)
   simp only [World.size_alloc] at E6
   have Hm:=hide (held_make w5 v (E.getD i ze).first)
   have E6:=hide E6
   clear hS5 HFl E4 E5
   generalize (E.getD i ze).first=ff at*
   go_wp2_with fail
   refine (uh Hm).mono ?_
   rintro e w6 ⟨rfl,rfl⟩
   have Hg:=hide (uh HLg _ _ _ _ _ (uh E6).at' (uh E6).o1 (uh E6).o0 (uh E6).n0 (uh E6).n1)
   clear HLg Hm c5
   go_wp2_with fail
   refine (uh Hg).mono ?_
   rintro e w7 ⟨rfl,C7,L7,hS7⟩
   have ES:=hide ((uh E6).does hS7).step
   clear hS7 E6 Hg
   go_wp2
   go_ret
   exact ⟨rfl,_,_,uh ES⟩
def retW (V:VolR) (n:Nat):VolR:=flushV (putV V 0 (headBytes (num (cl V.C 0) 4) n))
def returnR (V:VolR) (s:ByteArray):VolR × Nat:=
 if (entR V s).2=0 then
   if (copyR V (firstE V s)).2.2=0 then (letGoV (retW (copyR V (firstE V s)).1 (copyR V (firstE V s)).2.1) (heldAll (retW (copyR V (firstE V s)).1 (copyR V (firstE V s)).2.1).C (num (cl (copyR V (firstE V s)).1.C 0) 6)),0)
   else ((copyR V (firstE V s)).1,(copyR V (firstE V s)).2.2)
 else (V,(entR V s).2)
theorem volReturn_any (w:World) (v:Nat) (Cv Lv:Value) (V:VolR) (h:VolAt w v Cv Lv V) (h5:5<V.C.length) (hC:V.C.length≤256) (hL:V.L.length≤400000000) (s:ByteArray) (hs:s.size≤maxLen)
   (hF:(entR V s).2=0→FirstOK V (firstE V s))
   (hG:(entR V s).2=0→(copyR V (firstE V s)).2.2=0→Goes (retW (copyR V (firstE V s)).1 (copyR V (firstE V s)).2.1) (num (cl (copyR V (firstE V s)).1.C 0) 6)):
   Calls Tryz.prog 55 #[.pointer (some ⟨v,0,none⟩),.string s] w fun e w'=>e= .returned (.int .i64 ((returnR V s).2:Nat))∧ ∃ C1 L1,VStep w w' v Cv Lv C1 L1 (returnR V s).1:=by
 have He:=hide (entry_any w v Cv Lv V h h5 s hs)
 have H:=hide h
 clear h
 rcases (show (∃ m,m≠0∧entR V s=(0,m))∨ ∃ i,i<lenOf (entsOf (cl V.C 5))∧entR V s=(((i:Nat):Int),0) by
   rcases entR_cases V s with (e | e) | ⟨i,hi,e,_⟩
   · exact Or.inl ⟨2,by decide,e⟩
   · exact Or.inl ⟨4,by decide,e⟩
   · exact Or.inr ⟨i,hi,e⟩) with ⟨m,hm,e⟩ | ⟨i,hi,e⟩
 · have hR:returnR V s=(V,m):=by unfold returnR;rw [e,if_neg hm]
   rw [hR]
   rw [e] at He
   dsimp only at He ⊢
   have d0:(((m:Nat):Int) != 0)=true:=by rw [bne_iff_ne];omega
   clear hG hF hR e
   go_enter Tryz.func55,Tryz.ntmps55
   go_wp2_with fail
   refine (uh He).mono ?_
   rintro e w1 ⟨rfl,hb1⟩
   have B1:=hide ((VStep.refl (uh H)).later hb1)
   clear hb1 He
   go_wp2
   go_ret
   exact ⟨rfl,_,_,uh B1⟩
 · have h0:(entR V s).2=0:=by rw [e]
   have hF:=hF h0
   have hG:=hG h0
   have HR:Hid (returnR V s=if (copyR V (firstE V s)).2.2=0 then (letGoV (retW (copyR V (firstE V s)).1 (copyR V (firstE V s)).2.1) (heldAll (retW (copyR V (firstE V s)).1 (copyR V (firstE V s)).2.1).C (num (cl (copyR V (firstE V s)).1.C 0) 6)),0) else ((copyR V (firstE V s)).1,(copyR V (firstE V s)).2.2)):=by
     show _=_
     unfold returnR
     rw [if_pos h0]
   have hfe:firstE V s=((entsOf (cl V.C 5)).getD i ze).first:=by unfold firstE;rw [e];rfl
   rw [e] at He
   dsimp only at He
   have Hl:Hid (∀ W,VolAt W v Cv Lv V→_):=fun W hW=>list_vol W v Cv Lv V hW h5
   have hel:=entsOf_length (cl V.C 5)
   have hle:=lenOf_le (entsOf (cl V.C 5))
   have Hx:Hid (∀ W,_):=fun W=>run_index_lst W (entsOf (cl V.C 5)) hel i (by omega)
   have Hco:Hid (∀ W,VolAt W v Cv Lv V→_):=fun W hW=>copyFirst_any W v Cv Lv V hW h5 hC hL (firstE V s) hF
   obtain ⟨q1,q2,q3,q4⟩:=copyR_len V (firstE V s) hC h5 hF
   generalize copyR V (firstE V s)=R at*
   rw [hfe] at Hco
   obtain ⟨V1,n,er⟩:=R
   dsimp only at q1 q2 q3 q4 HR Hco hG
   clear e h0 hF hfe
   generalize (entsOf (cl V.C 5)).getD i ze=ent at*
   generalize entsOf (cl V.C 5)=E at*
   go_enter Tryz.func55,Tryz.ntmps55
   go_wp2_with fail
   refine (uh He).mono ?_
   rintro e w1 ⟨rfl,hb1⟩
   have E1:=hide ((Env.start (uh H)).later hb1)
   clear hb1 He
   go_wp2_with fail
   refine (uh Hl _ (uh E1).at').mono ?_
   rintro e w2 ⟨rfl,hb2⟩
   have E2:=hide ((uh E1).later hb2)
   have hx2:=uh Hx w2
   clear hb2 Hl E1 Hx
   go_wp2_with fail
   refine (uh Hco _ (uh E2).at').mono ?_
   rintro e w3 ⟨rfl,C3,L3,hS3⟩
   have E3:=hide ((uh E2).does hS3)
   clear hS3 Hco E2 hx2
   by_cases her:er=0
   · subst her
     have hG:=hG rfl
     have hR:Hid (returnR V s=(letGoV (retW V1 n) (heldAll (retW V1 n).C (num (cl V1.C 0) 6)),0)):=by show _=_;rw [uh HR,if_pos rfl]
     have HD:Hid (retW V1 n=flushV (putV V1 0 (headBytes (num (cl V1.C 0) 4) n))):=rfl
     have Hh:Hid (∀ W C1 L1,VolAt W v C1 L1 V1→_):=fun W C1 L1 hW=>head_vol W v C1 L1 V1 hW (by omega)
     have hnl:=num_lt (cl V1.C 0) 4
     have HPh:Hid (∀ W C1 L1,VolAt W v C1 L1 V1→_):=fun W C1 L1 hW=>putHead_any W v C1 L1 V1 hW (num (cl V1.C 0) 4) n (by omega) (by omega) (by omega) (by omega)
     have hpL:=putV_lenL V1 0 (headBytes (num (cl V1.C 0) 4) n)
     have hpC:=putV_lenC V1 0 (headBytes (num (cl V1.C 0) 4) n)
     generalize headBytes (num (cl V1.C 0) 4) n=hb at*
     have HFl:Hid (∀ W C1 L1,VolAt W v C1 L1 (putV V1 0 hb)→_):=fun W C1 L1 hW=>flush_any W v C1 L1 (putV V1 0 hb) hW (by omega)
     have hfL:=flushV_lenL (putV V1 0 hb)
     have hfC:(flushV (putV V1 0 hb)).C.length=(putV V1 0 hb).C.length:=by rw [flushV_C]
     rw [← uh HD] at HFl hfL hfC
     generalize putV V1 0 hb=V2 at*
     generalize retW V1 n=V3 at*
     generalize num (cl V1.C 0) 6=old at*
     generalize num (cl V1.C 0) 4=cc at*
     have HLg:Hid (∀ W C1 L1 bv bt,VolAt W v C1 L1 V3→_→_→_→_→_):=fun W C1 L1 bv bt hW=>heldGo_any v V3 (by omega) hG.len (by omega) old hG.own hG.all W C1 L1 bv bt hW
     generalize letGoV V3 (heldAll V3.C old)=V4 at*
     clear hG HR HD
     go_wp2_with fail
     refine (uh Hh _ _ _ (uh E3).at').mono ?_
     rintro e w4 ⟨rfl,hb4⟩
     have E4:=((uh E3).later hb4).lay (.cells (hv cc old).toArray 128)
     have c4:(w4.alloc (.cells (hv cc old).toArray 128)).cell? ⟨w4.heap.size,1,none⟩=some (.int .i64 (old:Nat)):=(cell_blk E4.o0 1).trans rfl
     have f4:=frozen_blk E4.o0
     have E5:=((uh E3).later hb4).lay (.cells ((hv cc old).set 1 (.int .i64 (n:Nat))).toArray 128)
     have l1:=blk_has E5.o0 (n:=2) (by rw [List.length_set];exact hv_length _ _)
     have l2:cellsAt (w4.alloc (.cells ((hv cc old).set 1 (.int .i64 (n:Nat))).toArray 128)) w4.heap.size 0 2=hv cc n:=(blk_cells E5.o0 (n:=2) (by rw [List.length_set];exact hv_length _ _)).trans rfl
     have E5:=hide E5
     clear hb4 Hh E3 E4
     go_wp2_with fail
     refine (uh HPh _ _ _ (uh E5).at').mono ?_
     rintro e w6 ⟨rfl,C6,L6,hS6⟩
     have E6:=hide ((uh E5).does hS6)
     clear hS6 HPh E5 l1 l2 c4 f4
     go_wp2_with fail
     refine (uh HFl _ _ _ (uh E6).at').mono ?_
     rintro e w7 ⟨rfl,C7,L7,hS7⟩
     have E7:=(((uh E6).does hS7).lay (.cells #[.pointer (some ⟨v,0,none⟩)] 82)).lay (.cells #[.int .i64 (old:Nat)] 3)
     simp only [World.size_alloc] at E7
     have Hm:=hide (held_make w7 v old)
     have E7:=hide E7
     clear hS7 HFl E6
     go_wp2_with fail
     refine (uh Hm).mono ?_
     rintro e w8 ⟨rfl,rfl⟩
     have Hg:=hide (uh HLg _ _ _ _ _ (uh E7).at' (uh E7).o1 (uh E7).o0 (uh E7).n0 (uh E7).n1)
     clear HLg Hm
     go_wp2_with fail
     refine (uh Hg).mono ?_
     rintro e w9 ⟨rfl,C9,L9,hS9⟩
     have ES:=hide ((uh E7).does hS9).step
     clear hS9 E7 Hg
     go_wp2
     go_ret
     rw [uh hR]
     exact ⟨rfl,_,_,uh ES⟩
   · have hR:Hid (returnR V s=(V1,er)):=by show _=_;rw [uh HR,if_neg her]
     have de:(((er:Nat):Int) != 0)=true:=by rw [bne_iff_ne];omega
     have ES:=hide (uh E3).step
     clear E3 HR
     go_wp2
     go_ret
     rw [uh hR]
     exact ⟨rfl,_,_,uh ES⟩
theorem diskTake_any (w:World) (d v:Nat) (Cv Lv:Value) (V:VolR) (h:DskAt w d v Cv Lv V) (h5:5<V.C.length) (hC:V.C.length≤256) (hL:V.L.length≤400000000) (hF:FirstOK V (num (cl V.C 0) 6)) (s:ByteArray) (hs:s.size≤maxLen):
   Calls Tryz.prog 17 #[.pointer (some ⟨d,0,none⟩),.string s] w fun e w'=>e= .returned (.int .i64 ((takeR V s).2:Nat))∧ ∃ C1 L1,VStep w w' v Cv Lv C1 L1 (takeR V s).1:=by
 have Hm:=hide (made_any _ d v Cv Lv V h)
 have c0:=h.c0
 have Hw:=hide (volTake_any w v Cv Lv V h.vol h5 hC hL hF s hs)
 clear h hF
 generalize takeR V s=R at*
 obtain ⟨R1,R2⟩:=R
 dsimp only at Hw ⊢
 go_enter Tryz.func17,Tryz.ntmps17
 go_wp2_with fail
 refine (uh Hm).mono ?_
 rintro e w1 ⟨rfl,rfl⟩
 go_wp2_with fail
 refine (uh Hw).mono ?_
 rintro e w2 ⟨rfl,C2,L2,hS2⟩
 have ES:=hide hS2
 clear hS2 Hw Hm
 go_wp2
 go_ret
 exact ⟨rfl,C2,L2,uh ES⟩
theorem diskReturn_any (w:World) (d v:Nat) (Cv Lv:Value) (V:VolR) (h:DskAt w d v Cv Lv V) (h5:5<V.C.length) (hC:V.C.length≤256) (hL:V.L.length≤400000000) (s:ByteArray) (hs:s.size≤maxLen)
   (hF:(entR V s).2=0→FirstOK V (firstE V s))
   (hG:(entR V s).2=0→(copyR V (firstE V s)).2.2=0→Goes (retW (copyR V (firstE V s)).1 (copyR V (firstE V s)).2.1) (num (cl (copyR V (firstE V s)).1.C 0) 6)):
   Calls Tryz.prog 28 #[.pointer (some ⟨d,0,none⟩),.string s] w fun e w'=>e= .returned (.int .i64 ((returnR V s).2:Nat))∧ ∃ C1 L1,VStep w w' v Cv Lv C1 L1 (returnR V s).1:=by
 have Hm:=hide (made_any _ d v Cv Lv V h)
 have c0:=h.c0
 have Hw:=hide (volReturn_any w v Cv Lv V h.vol h5 hC hL s hs hF hG)
 clear h hF hG
 generalize returnR V s=R at*
 obtain ⟨R1,R2⟩:=R
 dsimp only at Hw ⊢
 go_enter Tryz.func28,Tryz.ntmps28
 go_wp2_with fail
 refine (uh Hm).mono ?_
 rintro e w1 ⟨rfl,rfl⟩
 go_wp2_with fail
 refine (uh Hw).mono ?_
 rintro e w2 ⟨rfl,C2,L2,hS2⟩
 have ES:=hide hS2
 clear hS2 Hw Hm
 go_wp2
 go_ret
 exact ⟨rfl,C2,L2,uh ES⟩
theorem diskDrop_any (w:World) (d v:Nat) (Cv Lv:Value) (V:VolR) (h:DskAt w d v Cv Lv V) (h5:5<V.C.length) (hC:V.C.length≤256) (hL:V.L.length≤400000000) (s:ByteArray) (hs:s.size≤maxLen)
   (hG:(entR V s).2=0→Goes (dropW V (entR V s).1.toNat) (firstE V s)):
   Calls Tryz.prog 29 #[.pointer (some ⟨d,0,none⟩),.string s] w fun e w'=>e= .returned (.int .i64 ((dropR V s).2:Nat))∧ ∃ C1 L1,VStep w w' v Cv Lv C1 L1 (dropR V s).1:=by
 have Hm:=hide (made_any _ d v Cv Lv V h)
 have c0:=h.c0
 have Hw:=hide (volDrop_any w v Cv Lv V h.vol h5 hC hL s hs hG)
 clear h hG
 generalize dropR V s=R at*
 obtain ⟨R1,R2⟩:=R
 dsimp only at Hw ⊢
 go_enter Tryz.func29,Tryz.ntmps29
 go_wp2_with fail
 refine (uh Hm).mono ?_
 rintro e w1 ⟨rfl,rfl⟩
 go_wp2_with fail
 refine (uh Hw).mono ?_
 rintro e w2 ⟨rfl,C2,L2,hS2⟩
 have ES:=hide hS2
 clear hS2 Hw Hm
 go_wp2
 go_ret
 exact ⟨rfl,C2,L2,uh ES⟩
end Go.Proofs.YtknjjjenklfeoaaGreatDoor
namespace Go.Proofs.YtknjjjenklfeoaaGreatDoor
open Go.RowKit
attribute [local go_sem ↓] loadVar_clus storeVar_clus zeroValue_clus loadVar_cont storeVar_cont zeroValue_cont build_disk equalIn_cont loadVar_pic buildSlice_pic equalIn_pic build_pic
attribute [local go_sem] run_loadClus run_storeClus run_zeroClus run_storeClus_new run_loadClus_new zc_length run_loadCont run_storeCont run_zeroCont run_bDisk run_loadPic run_bsPic run_bPic
theorem DiskAt.setC {w:World} {d:Nat} {Pv:Value} {C:List Clus} {L:List PicR} (h:DiskAt w d Pv ⟨C,L⟩) {C':List Clus} (hC:Cont C'):DiskAt (w.setCells d 0 (flatC C')) d Pv ⟨C',L⟩:=by
 have hk:Kept (fun x=>x=d) w (w.setCells d 0 (flatC C')):=Kept.onlys _ _ _ _
 refine ⟨?_,ownsRow_kept hk h.row (fun g hg=>h.neP g hg),hC,h.pics⟩
 have:=heap_setCells_same (flatC C') 0 w d _ _ _ h.blk
 rw [this]
 congr 2
 show setList (flatC C++[Pv]).toArray 0 (flatC C')=(flatC C'++[Pv]).toArray
 exact setList_front _ _ _ (by have h1:=h.cont.flat;have h2:=hC.flat;simp only at h1;omega)
def refReturnR (D:DiskR) (s:ByteArray):DiskR × Nat:=if (thereR D s).2=0 then (⟨(picAt D.L (thereR D s).1.toNat).C,D.L⟩,0) else (D,(thereR D s).2)
theorem refReturn_any (w:World) (d:Nat) (Pv:Value) (D:DiskR) (h:DiskAt w d Pv D) (h4:D.L.length≤1000) (s:ByteArray) (hs:s.size≤maxLen):
   Calls Tryz.prog 121 #[.pointer (some ⟨d,0,none⟩),.string s] w fun e w'=>e= .returned (.int .i64 ((refReturnR D s).2:Nat))∧DiskAt w' d Pv (refReturnR D s).1∧Kept (fun x=>x=d) w w':=by
 obtain ⟨C,L⟩:=D
 have Ht:=hide (there_any w d Pv ⟨C,L⟩ h h4 s hs)
 have H:=hide h
 obtain ⟨a,cap,hPv⟩:=row_form h.row
 subst hPv
 simp only at h4
 have HR:Hid (refReturnR ⟨C,L⟩ s=if (thereR ⟨C,L⟩ s).2=0 then (⟨(picAt L (thereR ⟨C,L⟩ s).1.toNat).C,L⟩,0) else (⟨C,L⟩,(thereR ⟨C,L⟩ s).2)):=rfl
 clear h
 rcases (show (∃ m,m≠0∧thereR ⟨C,L⟩ s=(-1,m))∨ ∃ i,i<L.length∧thereR ⟨C,L⟩ s=(((i:Nat):Int),0) by
   rcases thereR_cases ⟨C,L⟩ s with (e | e) | ⟨i,hi,e⟩
   · exact Or.inl ⟨2,by decide,e⟩
   · exact Or.inl ⟨4,by decide,e⟩
   · exact Or.inr ⟨i,hi,e⟩) with ⟨m,hm,e⟩ | ⟨i,hi,e⟩
 · rw [e,if_neg hm] at HR
   rw [e] at Ht
   dsimp only at Ht HR
   have d0:(((m:Nat):Int) == 0)=false:=by rw [beq_eq_false_iff_ne];omega
   clear e
   go_enter Tryz.func121,Tryz.ntmps121
   go_wp2_with fail
   refine (uh Ht).mono ?_
   rintro e w1 ⟨rfl,hb1⟩
   have H1:=hide ((uh H).below hb1)
   have HK:Hid (Kept (fun x=>x=d) w w1):=⟨hb1.os,hb1.tape,hb1.output,hb1.size,fun k hk _=>hb1.block k hk⟩
   clear hb1 Ht
   go_wp2
   go_ret
   rw [uh HR]
   exact ⟨rfl,uh H1,uh HK⟩
 · rw [e,if_pos rfl] at HR
   rw [e] at Ht
   dsimp only at Ht HR
   rw [Int.toNat_natCast] at HR
   have hii:(i:Int)<(L.length:Int):=by omega
   obtain ⟨g2,cap2,e2,_⟩:=row_some (uh H).row (show 0<L.length by omega)
   obtain ⟨rfl,rfl⟩:a=some ⟨g2,0,none⟩∧cap=cap2:=by injection e2 with x1 x2 x3;exact ⟨x1,x3⟩
   clear e e2
   go_enter Tryz.func121,Tryz.ntmps121
   go_wp2_with fail
   refine (uh Ht).mono ?_
   rintro e w1 ⟨rfl,hb1⟩
   have H1:=(uh H).below hb1
   have hpc:=H1.pics _ (picAt_mem hi)
   have rg:=pic_cont (pics_range H1.row H1.pics i hi)
   have c1:w1.cell? ⟨d,4096,none⟩=some (.slice (some ⟨g2,0,none⟩) L.length cap):=H1.cPv
   have r1:=hasAt_of_range (n:=4096) rg hpc.flat
   have r2:=cellsAt_of_range (n:=4096) rg hpc.flat
   have th:=there_blk H1.blk 0 4096 (by have:=H1.cont.flat;simp only at this;simp [diskCells,this])
   have hA:=hpc.all
   have hl:=hpc.len
   generalize (picAt L i).C=C' at*
   have H2:=hide (H1.setC hpc)
   have HK:Hid (Kept (fun x=>x=d) w (w1.setCells d 0 (flatC C'))):=(show Kept (fun x=>x=d) w w1 from ⟨hb1.os,hb1.tape,hb1.output,hb1.size,fun k hk _=>hb1.block k hk⟩).trans (Kept.onlys w1 d 0 (flatC C'))
   clear hb1 Ht H1 rg
   go_wp2
   go_ret
   rw [uh HR]
   exact ⟨rfl,uh H2,uh HK⟩
def picNames (Ps:List PicR) (k:Nat):List (List UInt8):=(Ps.take k).map (·.name)
theorem picNames_succ (Ps:List PicR) (k:Nat) (hk:k<Ps.length):picNames Ps (k+1)=picNames Ps k++[(picAt Ps k).name]:=by
 unfold picNames picAt
 rw [List.take_succ_eq_append_getElem hk,List.map_append,List.getD_eq_getElem?_getD,List.getElem?_eq_getElem hk];rfl
theorem refList_any (w:World) (d:Nat) (Pv:Value) (D:DiskR) (h:DiskAt w d Pv D) (h4:D.L.length≤1000):
   Calls Tryz.prog 128 #[.pointer (some ⟨d,0,none⟩)] w fun e w'=> ∃ x,e= .returned x∧w'.ownsRow w.heap.size 9 1 x D.L.length (sv (picNames D.L D.L.length))∧Below w.heap.size w w':=by
 obtain ⟨i0,hi0,hz0,hz1,hz2⟩:=info_parts Tryz.infoStr
 obtain ⟨C,L⟩:=D
 obtain ⟨a,cap,hPv⟩:=row_form h.row
 subst hPv
 have hlt0:=h.lt
 simp only at h4
 have H:=hide h
 clear h
 go_enter Tryz.func128,Tryz.ntmps128
 go_wp2
 go_loopw [3,4] (fun f i w'=> ∃ k:Nat,k≤L.length∧i= .int .i64 k∧w'.ownsRow w.heap.size 9 1 f k (sv (picNames L k))∧Below w.heap.size w w') (fun _ i _=>L.length - (intOf i).toNat)
 case atStart=>exact ⟨0,by omega,rfl,World.ownsRow_nil _ _ _ _,Below.refl _ _⟩
 case round=>
   obtain ⟨k,hk,rfl,hrow,hb⟩:=hrel
   obtain ⟨fa,fcap,rfl⟩:=row_form hrow
   have hD:=(uh H).below hb
   have c0:wr.cell? ⟨d,4096,none⟩=some (.slice a L.length cap):=hD.cPv
   by_cases hlt:k<L.length
   · obtain ⟨g2,cap2,e2,_⟩:=row_some hD.row (show 0<L.length by omega)
     obtain ⟨rfl,rfl⟩:a=some ⟨g2,0,none⟩∧cap=cap2:=by injection e2 with x1 x2 x3;exact ⟨x1,x3⟩
     have c1:=pic_name (pics_range hD.row hD.pics k hlt)
     have hki:(k:Int)<(L.length:Int):=by omega
     have hs:=picNames_succ L k hlt
     generalize (picAt L k).name=nm at*
     have Hrow:=hide hrow
     have Hb:=hide hb
     clear hrow hb hD e2
     go_wp2_with (at_builtin;refine wpList_append_lies _ rfl _ _ _ rfl w.heap.size 9 i0 _ 1 16 Tryz.underlying34 hi0 hz0 hz1 hz2 rfl (by omega) (.slice fa k fcap) k (sv (picNames L k)) rfl ((uh Hrow).alloc _) ⟨wr.heap.size,0,none⟩ 1 1 [.string (txt nm)] rfl rfl (World.news_of_block (cs:= #[.string (txt nm)]) (t:=9) (fr:=(0,0)) (heap_alloc_new wr _)) (by simp [Value.oneCell']) (by omega) (by unfold maxLen;omega) (by omega) (by have:=(uh Hb).size;simp;omega) (wr.heap.size+1) (by simp) ?_;intro g5 cap5 w5 hown5 hgrow hat hlt5)
     have S5:=hide (((uh Hb).alloc (uh Hb).size (.cells #[.string (txt nm)] 9)).grown hgrow (by have:=(uh Hb).size;simp;omega) (fun k hk=>((uh Hrow).lt k hk).1))
     go_roundw
     case rel=>exact ⟨k+1,by omega,by go_num,by rw [hs,sv_snoc];exact hown5,uh S5⟩
     case measure=>simp [intOf];omega
   · have hk4:k=L.length:=by omega
     have Hrow:=hide hrow
     have Hb:=hide hb
     clear hrow hb hD
     rw [hk4] at Hrow
     go_wp2
     go_ret
     refine ⟨_,rfl,?_,uh Hb⟩
     have:=uh Hrow
     rw [← hk4] at this ⊢
     exact this
def refTakeR (D:DiskR) (s:ByteArray):DiskR × Nat:=
 if isNameB s.data.toList=false then (D,2) else if 0≤refFind D s then (D,3) else if 4≤D.L.length then (D,5) else (⟨D.C,D.L++[⟨s.data.toList,D.C⟩]⟩,0)
structure DStep (w w':World) (d:Nat) (Pv Qv:Value) (D':DiskR):Prop where
 at':DiskAt w' d Qv D'
 kept:Kept (fun x=>x=d∨Pv.ownBlock=some x) w w'
 new: ∀ g,Qv.ownBlock=some g→Pv.ownBlock=some g∨w.heap.size≤g
theorem DStep.refl {w:World} {d:Nat} {Pv:Value} {D:DiskR} (h:DiskAt w d Pv D):DStep w w d Pv Pv D:=⟨h,Kept.refl _ _,fun _ hg=>Or.inl hg⟩
theorem refTake_any (w:World) (d:Nat) (Pv:Value) (D:DiskR) (h:DiskAt w d Pv D) (h4:D.L.length≤1000) (s:ByteArray) (hs:s.size≤maxLen):
   Calls Tryz.prog 119 #[.pointer (some ⟨d,0,none⟩),.string s] w fun e w'=>e= .returned (.int .i64 ((refTakeR D s).2:Nat))∧ ∃ Qv,DStep w w' d Pv Qv (refTakeR D s).1:=by
 have Hi:=hide (isName_any s w hs)
 have Hf:=hide (refFind_any w d Pv D h h4 s)
 have HR:Hid (refTakeR D s=if isNameB s.data.toList=false then (D,2) else if 0≤refFind D s then (D,3) else if 4≤D.L.length then (D,5) else (⟨D.C,D.L++[⟨s.data.toList,D.C⟩]⟩,0)):=rfl
 generalize isNameB s.data.toList=b at*
 generalize refFind D s=f at*
 have H:=hide h
 cases b with
 | false=>
   rw [if_pos rfl] at HR
   clear h
   go_enter Tryz.func119,Tryz.ntmps119
   go_wp2_with fail
   refine (uh Hi).mono ?_
   rintro e w1 ⟨rfl,rfl⟩
   go_wp2
   go_ret
   rw [uh HR]
   exact ⟨rfl,_,DStep.refl (uh H)⟩
 | true=>
   rw [if_neg (by decide)] at HR
   by_cases hf:0≤f
   · rw [if_pos hf] at HR
     have df:decide (f≥0)=true:=decide_eq_true hf
     clear h
     go_enter Tryz.func119,Tryz.ntmps119
     go_wp2_with fail
     refine (uh Hi).mono ?_
     rintro e w1 ⟨rfl,rfl⟩
     go_wp2_with fail
     refine (uh Hf).mono ?_
     rintro e w2 ⟨rfl,rfl⟩
     go_wp2
     go_ret
     rw [uh HR]
     exact ⟨rfl,_,DStep.refl (uh H)⟩
   · rw [if_neg hf] at HR
     have df:decide (f≥0)=false:=decide_eq_false hf
     obtain ⟨C,L⟩:=D
     obtain ⟨a,cap,hPv⟩:=row_form h.row
     subst hPv
     simp only at h4 HR
     have c0:w.cell? ⟨d,4096,none⟩=some (.slice a L.length cap):=h.cPv
     by_cases hl:4≤L.length
     · rw [if_pos hl] at HR
       have dl:decide (((L.length:Nat):Int)≥4)=true:=decide_eq_true (by omega)
       clear h
       go_enter Tryz.func119,Tryz.ntmps119
       go_wp2_with fail
       refine (uh Hi).mono ?_
       rintro e w1 ⟨rfl,rfl⟩
       go_wp2_with fail
       refine (uh Hf).mono ?_
       rintro e w2 ⟨rfl,rfl⟩
       go_wp2
       go_ret
       rw [uh HR]
       exact ⟨rfl,_,DStep.refl (uh H)⟩
     · rw [if_neg hl] at HR
       have dl:decide (((L.length:Nat):Int)≥4)=false:=decide_eq_false (by omega)
       obtain ⟨i0,hi0,hz0,hz1,hz2⟩:=info_parts Tryz.infoPic
       have l1:HasAt w.drew d 0 4096:=h.has
       have l2:cellsAt w.drew d 0 4096=flatC C:=h.cells
       have hA:=h.cont.all
       have hlC:=h.cont.len
       have hpc:Cont (⟨s.data.toList,C⟩:PicR).C:=h.cont
       have c1:w.drew.cell? ⟨d,4096,none⟩=some (.slice a L.length cap):=h.cPv
       have c3: ∀ o,(w.alloc o).drew.cell? ⟨d,4096,none⟩=some (.slice a L.length cap):=fun o=>(World.cell?_alloc_lt w o _ h.lt).trans h.cPv
       have hbp:=run_bPic (w:=w.drew) (nm:=s.data.toList) hA hlC
       rw [txt_self] at hbp
       have hrow:=h.row
       simp only at hrow
       have Hrow:=hide hrow
       have Hne:=hide h.neP
       have hdl:=h.lt
       clear hrow h
       go_enter Tryz.func119,Tryz.ntmps119
       go_wp2_with fail
       refine (uh Hi).mono ?_
       rintro e w1 ⟨rfl,rfl⟩
       go_wp2_with fail
       refine (uh Hf).mono ?_
       rintro e w2 ⟨rfl,rfl⟩
       clear Hi Hf
       go_wp2
       go_region_law (refine step_append_lies _ (by rfl) _ _ _ (by rfl) 0 139 i0 _ 4097 4112 Tryz.underlying68 hi0 hz0 hz1 hz2 (by rw [show (Value.agg (picCells ⟨[],zD⟩).toArray).cells.size=(picCells ⟨[],zD⟩).length from by simp [Value.cells]];exact picCells_length (p:=⟨[],zD⟩) ⟨zD_all,zD_length⟩) (by omega) (.slice a L.length cap) L.length (L.flatMap picCells) (by rfl) ((ownsRow_kept (S:=fun _=>False) ((Kept.refl _ w2).drew) (uh Hrow) (fun _ _=>id)).alloc _) ⟨w2.heap.size,0,none⟩ 1 1 (picCells ⟨s.data.toList,C⟩) (by rfl) (by rw [picCells_length hpc]) (World.news_of_block (cs:=(picCells ⟨s.data.toList,C⟩).toArray) (t:=139) (fr:=(0,0)) (heap_alloc_new w2.drew _)) (picCells_one ⟨s.data.toList,C⟩) (by omega) (by unfold maxLen;omega) (by omega) (by omega) (w2.heap.size+1) (by simp) ?_
                      intro g5 cap5 w5 hown5 hgrow hat hlt5
                      have b5:=hide (grown_blk hgrow ((uh H).below (((Below.refl _ w2).drew).alloc (Nat.le_refl _) _)).blk (uh Hne))
                      have c5:w5.cell? ⟨d,4096,none⟩=some (.slice a L.length cap):=(cell_blk (uh b5) 4096).trans (by rw [← cell_blk (uh H).blk];exact (uh H).cPv)
                      have z5: ∀ i,w5.frozen? ⟨d,i,none⟩=false:=fun i=>frozen_blk (uh b5) i)
       all_goals
         have hgn:g5≠d:=by
           rcases hat with x | x
           · exact uh Hne g5 x
           · omega
         have hD5:DiskAt (w5.setCell ⟨d,4096,none⟩ (.slice (some ⟨g5,0,none⟩) (L.length+1) cap5)) d (.slice (some ⟨g5,0,none⟩) (L.length+1) cap5) ⟨C,L++[⟨s.data.toList,C⟩]⟩:=
           ((uh H).below (((Below.refl _ w2).drew).alloc (Nat.le_refl _) (.cells (picCells ⟨s.data.toList,C⟩).toArray 139))).growP (g5:=g5) (cap5:=cap5) hpc (uh Hne) hgrow hown5 hgn
         have kA:Kept (fun x=>x=d∨(Value.slice a L.length cap).ownBlock=some x) w2 (w2.drew.alloc (.cells (picCells ⟨s.data.toList,C⟩).toArray 139)):=((Kept.refl _ _).drew).alloc _
         have kB:Kept (fun x=>x=d∨(Value.slice a L.length cap).ownBlock=some x) (w2.drew.alloc (.cells (picCells ⟨s.data.toList,C⟩).toArray 139)) w5:=⟨hgrow.os,hgrow.tape,hgrow.output,hgrow.size,fun k hk hs=>hgrow.block k hk (fun e=>hs (Or.inr e.symm))⟩
         have kC:Kept (fun x=>x=d∨(Value.slice a L.length cap).ownBlock=some x) w5 (w5.setCell ⟨d,4096,none⟩ (.slice (some ⟨g5,0,none⟩) (L.length+1) cap5)):=(Kept.only w5 d 4096 _).mono (fun _ e=>Or.inl e)
         have HS:Hid (DStep w2 (w5.setCell ⟨d,4096,none⟩ (.slice (some ⟨g5,0,none⟩) (L.length+1) cap5)) d (.slice a L.length cap) (.slice (some ⟨g5,0,none⟩) (L.length+1) cap5) ⟨C,L++[⟨s.data.toList,C⟩]⟩):=
           ⟨hD5,(kA.trans kB).trans kC,fun g hg=>by
             simp only [Value.ownBlock,Option.some.injEq] at hg
             subst hg
             rcases hat with x | x
             · exact Or.inl x
             · exact Or.inr (by omega)⟩
         clear hD5 hgrow hown5 kA kB kC
         go_wp2
         go_ret
         rw [uh HR]
         exact ⟨rfl,_,uh HS⟩
theorem DiskAt.newP {w:World} {d:Nat} {Pv Qv:Value} {C:List Clus} {L L':List PicR} (h:DiskAt w d Pv ⟨C,L⟩) (hrow:w.ownsRow 0 139 4097 Qv L'.length (L'.flatMap picCells)) (hp: ∀ p ∈ L',Cont p.C) (hne: ∀ g,Qv.ownBlock=some g→g≠d):
   DiskAt (w.setCell ⟨d,4096,none⟩ Qv) d Qv ⟨C,L'⟩:=by
 have hk:Kept (fun x=>x=d) w (w.setCell ⟨d,4096,none⟩ Qv):=Kept.only _ _ _ _
 refine ⟨?_,ownsRow_kept hk hrow hne,h.cont,hp⟩
 rw [heap_setCell_same _ _ _ _ _ _ _ h.blk]
 congr 2
 have hf:=h.cont.flat
 simp only at hf
 show (flatC C++[Pv]).toArray.setIfInBounds 4096 Qv=(flatC C++[Qv]).toArray
 rw [List.setIfInBounds_toArray,List.set_append_right _ _ (by omega),hf]
 rfl
def erTo (L:List PicR) (a k:Nat):List PicR:=(L.take k).eraseIdx a
theorem erTo_skip (L:List PicR) (a:Nat) (ha:a<L.length):erTo L a (a+1)=erTo L a a:=by
 unfold erTo
 have hl:(L.take a).length=a:=by simp;omega
 have e1:(L.take a++[L[a]]).eraseIdx a=L.take a:=by
   rw [List.eraseIdx_append_of_length_le (by omega),show a - (L.take a).length=0 by omega]
   simp
 have e2:(L.take a).eraseIdx a=L.take a:=List.eraseIdx_of_length_le (by omega)
 rw [List.take_succ_eq_append_getElem ha,e1,e2]
theorem erTo_add (L:List PicR) (a k:Nat) (hk:k<L.length) (hne:k≠a):erTo L a (k+1)=erTo L a k++[picAt L k]:=by
 unfold erTo
 have hl:(L.take k).length=k:=by simp;omega
 have hp:picAt L k=L[k]:=by unfold picAt;rw [List.getD_eq_getElem?_getD,List.getElem?_eq_getElem hk];rfl
 rw [List.take_succ_eq_append_getElem hk,hp]
 by_cases h:a<k
 · rw [List.eraseIdx_append_of_lt_length (by omega)]
 · rw [List.eraseIdx_append_of_length_le (by omega),List.eraseIdx_of_length_le (l:=L.take k) (by omega),List.eraseIdx_of_length_le (by simp;omega)]
theorem erTo_len (L:List PicR) (a k:Nat):(erTo L a k).length≤k:=by
 have:=List.length_eraseIdx_le (L.take k) a
 unfold erTo
 simp only [List.length_take] at this
 omega
structure DOnly (w w':World) (d:Nat) (Pv Qv:Value) (D':DiskR):Prop where
 at':DiskAt w' d Qv D'
 kept:Kept (fun x=>x=d) w w'
 new: ∀ g,Qv.ownBlock=some g→Pv.ownBlock=some g∨w.heap.size≤g
def refDropR (D:DiskR) (s:ByteArray):DiskR × Nat:=if (thereR D s).2=0 then (⟨D.C,D.L.eraseIdx (thereR D s).1.toNat⟩,0) else (D,(thereR D s).2)
theorem refDrop_any (w:World) (d:Nat) (Pv:Value) (D:DiskR) (h:DiskAt w d Pv D) (h4:D.L.length≤1000) (s:ByteArray) (hs:s.size≤maxLen):
   Calls Tryz.prog 65 #[.pointer (some ⟨d,0,none⟩),.string s] w fun e w'=>e= .returned (.int .i64 ((refDropR D s).2:Nat))∧ ∃ Qv,DOnly w w' d Pv Qv (refDropR D s).1:=by
 obtain ⟨C,L⟩:=D
 have Ht:=hide (there_any w d Pv ⟨C,L⟩ h h4 s hs)
 have H:=hide h
 obtain ⟨a,cap,hPv⟩:=row_form h.row
 subst hPv
 simp only at h4
 have hdl:=h.lt
 have HR:Hid (refDropR ⟨C,L⟩ s=if (thereR ⟨C,L⟩ s).2=0 then (⟨C,L.eraseIdx (thereR ⟨C,L⟩ s).1.toNat⟩,0) else (⟨C,L⟩,(thereR ⟨C,L⟩ s).2)):=rfl
 clear h
 rcases (show (∃ m,m≠0∧thereR ⟨C,L⟩ s=(-1,m))∨ ∃ i,i<L.length∧thereR ⟨C,L⟩ s=(((i:Nat):Int),0) by
   rcases thereR_cases ⟨C,L⟩ s with (e | e) | ⟨i,hi,e⟩
   · exact Or.inl ⟨2,by decide,e⟩
   · exact Or.inl ⟨4,by decide,e⟩
   · exact Or.inr ⟨i,hi,e⟩) with ⟨m,hm,e⟩ | ⟨i,hi,e⟩
 · rw [e,if_neg hm] at HR
   rw [e] at Ht
   dsimp only at Ht HR
   have d0:(((m:Nat):Int) != 0)=true:=by rw [bne_iff_ne];omega
   clear e
   go_enter Tryz.func65,Tryz.ntmps65
   go_wp2_with fail
   refine (uh Ht).mono ?_
   rintro e w1 ⟨rfl,hb1⟩
   have HS:Hid (DOnly w w1 d (.slice a L.length cap) (.slice a L.length cap) ⟨C,L⟩):=⟨(uh H).below hb1,Kept.of_below hb1,fun g hg=>Or.inl hg⟩
   clear hb1 Ht
   go_wp2
   go_ret
   rw [uh HR]
   exact ⟨rfl,_,uh HS⟩
 · rw [e,if_pos rfl] at HR
   rw [e] at Ht
   dsimp only at Ht HR
   rw [Int.toNat_natCast] at HR
   obtain ⟨i0,hi0,hz0,hz1,hz2⟩:=info_parts Tryz.infoPic
   obtain ⟨g2,cap2,e2,_⟩:=row_some (uh H).row (show 0<L.length by omega)
   obtain ⟨rfl,rfl⟩:a=some ⟨g2,0,none⟩∧cap=cap2:=by injection e2 with x1 x2 x3;exact ⟨x1,x3⟩
   clear e e2
   go_enter Tryz.func65,Tryz.ntmps65
   go_wp2_with fail
   refine (uh Ht).mono ?_
   rintro e w1 ⟨rfl,hb1⟩
   have B1:=hide hb1
   clear hb1 Ht
   go_wp2
   go_loopw [7,8] (fun f j w'=> ∃ k:Nat,k≤L.length∧j= .int .i64 k∧w'.ownsRow w.heap.size 139 4097 f (erTo L i k).length ((erTo L i k).flatMap picCells)∧Below w.heap.size w w') (fun _ j _=>L.length - (intOf j).toNat)
   case atStart=>exact ⟨0,by omega,rfl,by rw [show erTo L i 0=[] by simp [erTo]];exact World.ownsRow_nil _ _ _ _,uh B1⟩
   case round=>
     obtain ⟨k,hk,rfl,hrow,hb⟩:=hrel
     obtain ⟨fa,fcap,rfl⟩:=row_form hrow
     have hD:=(uh H).below hb
     have c0:wr.cell? ⟨d,4096,none⟩=some (.slice (some ⟨g2,0,none⟩) L.length cap):=hD.cPv
     have hel:=erTo_len L i k
     by_cases hlt:k<L.length
     · have hki:(k:Int)<(L.length:Int):=by omega
       by_cases hki2:k=i
       · subst hki2
         have dn:(((k:Nat):Int) != ((k:Nat):Int))=false:=by simp
         have hs:=erTo_skip L k hlt
         have Hrow:=hide hrow
         have Hb:=hide hb
         clear hrow hb hD
         go_wp2
         go_roundw
         case rel=>exact ⟨k+1,by omega,by go_num,by rw [hs];exact uh Hrow,uh Hb⟩
         case measure=>simp [intOf];omega
       · have dn:(((k:Nat):Int) != ((i:Nat):Int))=true:=by rw [bne_iff_ne];omega
         have rg:=pics_range hD.row hD.pics k hlt
         have hpc:=hD.pics _ (picAt_mem hlt)
         have m1:=hasAt_of_range (n:=4097) rg (picCells_length hpc)
         have m2:=cellsAt_of_range (n:=4097) rg (picCells_length hpc)
         have hs:=erTo_add L i k hlt hki2
         generalize picAt L k=pk at*
         have Hrow:=hide hrow
         have Hb:=hide hb
         clear hrow hb hD rg
         generalize erTo L i k=F at*
         go_wp2_with (at_builtin;refine wpList_append_lies _ rfl _ _ _ rfl w.heap.size 139 i0 _ 4097 4112 Tryz.underlying68 hi0 hz0 hz1 hz2 (by rw [show (Value.agg (picCells ⟨[],zD⟩).toArray).cells.size=(picCells ⟨[],zD⟩).length from by simp [Value.cells]];exact picCells_length (p:=⟨[],zD⟩) ⟨zD_all,zD_length⟩) (by omega) (.slice fa F.length fcap) F.length (F.flatMap picCells) rfl ((uh Hrow).alloc _) ⟨wr.heap.size,0,none⟩ 1 1 (picCells pk) rfl (by rw [picCells_length hpc]) (World.news_of_block (cs:=(picCells pk).toArray) (t:=139) (fr:=(0,0)) (heap_alloc_new wr _)) (picCells_one pk) (by omega) (by unfold maxLen;omega) (by omega) (by have:=(uh Hb).size;simp;omega) (wr.heap.size+1) (by simp) ?_;intro g5 cap5 w5 hown5 hgrow hat hlt5)
         have S5:=hide (((uh Hb).alloc (uh Hb).size (.cells (picCells pk).toArray 139)).grown hgrow (by have:=(uh Hb).size;simp;omega) (fun k hk=>((uh Hrow).lt k hk).1))
         go_roundw
         case rel=>exact ⟨k+1,by omega,by go_num,by rw [hs,List.length_append,List.flatMap_append,List.flatMap_cons,List.flatMap_nil,List.append_nil];exact hown5,uh S5⟩
         case measure=>simp [intOf];omega
     · have hk4:k=L.length:=by omega
       have hE:erTo L i k=L.eraseIdx i:=by unfold erTo;rw [hk4,List.take_length]
       rw [hE] at hrow ⊢
       have hne: ∀ g,(Value.slice fa (L.eraseIdx i).length fcap).ownBlock=some g→g≠d:=fun g hg=>by have:=(hrow.lt g hg).1;omega
       have f0:=fun j=>frozen_blk hD.blk j
       have hD2:=hD.newP (row_base hrow (Nat.zero_le _)) (fun p hp=>hD.pics p (List.mem_of_mem_eraseIdx hp)) hne
       have HS:Hid (DOnly w (wr.setCell ⟨d,4096,none⟩ (.slice fa (L.eraseIdx i).length fcap)) d (.slice (some ⟨g2,0,none⟩) L.length cap) (.slice fa (L.eraseIdx i).length fcap) ⟨C,L.eraseIdx i⟩):=
         ⟨hD2,(Kept.of_below hb).trans (Kept.only wr d 4096 _),fun g hg=>Or.inr (hrow.lt g hg).1⟩
       clear hD2 hD hrow hb hE hel hne
       generalize (L.eraseIdx i).length=nl at*
       go_wp2
       go_ret
       rw [uh HR]
       exact ⟨rfl,_,uh HS⟩
end Go.Proofs.YtknjjjenklfeoaaGreatDoor
