import Derived.Test.YtknjjjenklfeoaaGreatDoorT23
import Derived.Test.YtknjjjenklfeoaaGreatDoorT24
import Derived.Test.YtknjjjenklfeoaaGreatDoorT19
import Derived.Test.YtknjjjenklfeoaaGreatDoorT03
set_option maxHeartbeats 8000000
set_option maxRecDepth 100000
namespace Go.Proofs.YtknjjjenklfeoaaGreatDoor
open Go.RowKit
attribute [local go_sem ↓] loadVar_clus storeVar_clus zeroValue_clus loadVar_tab storeVar_tab zeroValue_tab loadVar_cnt storeVar_cnt zeroValue_cnt loadVar_head storeVar_head zeroValue_head build_head buildSlice_clus loadVar_wr storeVar_wr zeroValue_wr build_wr buildSlice_wr equalIn_clus loadVar_place storeVar_place zeroValue_place build_place loadVar_lst storeVar_lst zeroValue_lst storeVar_ent build_ent
attribute [local go_sem] run_loadClus run_storeClus run_zeroClus run_storeClus_new run_loadClus_new zc_length run_loadTab run_storeTab run_zeroTab run_storeTab_new run_loadTab_new zt_length run_loadCnt run_storeCnt run_zeroCnt run_storeCnt_new run_loadCnt_new zk_length run_loadHead run_storeHead run_zeroHead run_storeHead_new run_bHead HasAt_drew cellsAt_drew HasAt_drewN cellsAt_drewN run_bsClus run_loadWr run_zeroWr run_storeWr run_storeWr_new run_bWr0 run_bsWr run_loadPlace run_storePlace run_zeroPlace run_storePlace_new run_bPlace run_loadLst run_storeLst run_zeroLst run_storeLst_new run_storeEnt run_bEnt
attribute [local go_sem] field_head1 field_head0 Oper.semAt_some
attribute [local go_sem ↓] loadVar_ent zeroValue_ent
attribute [local go_sem] run_loadEnt run_zeroEnt run_storeEnt_new
attribute [local go_sem] field_ent0 field_ent1
theorem txt_self (s:ByteArray):txt s.data.toList=s:=by
 cases s;simp [txt]
theorem short_ents (c:Clus):Short (entsOf c):=fun k=>by
 unfold entsOf
 rw [List.getD_eq_getElem?_getD,List.getElem?_map]
 by_cases hk:k<4
 · rw [List.getElem?_range hk]
   refine ⟨?_,num_lt _ _⟩
   show (entOf c k).name.length≤12
   unfold entOf nameBytes
   simp only [List.length_take,List.length_drop]
   omega
 · rw [List.getElem?_eq_none (by simpa using hk)]
   exact ⟨by simp [ze],by simp [ze]⟩
theorem Short.set {L:List EntR} (h:Short L) (i:Nat) (e:EntR) (h1:e.name.length≤12) (h2:e.first<65536):Short (L.set i e):=fun k=>by
 rw [List.getD_eq_getElem?_getD,List.getElem?_set]
 split
 · split
   · exact ⟨h1,h2⟩
   · decide
 · have:=h k
   rw [List.getD_eq_getElem?_getD] at this
   exact this
theorem Short.less {L:List EntR} (h:Short L) (i:Nat):Short (lessE L i):=fun k=>by
 unfold lessE
 have hall: ∀ e ∈ L.eraseIdx i++[ze],e.name.length≤12∧e.first<65536:=by
   intro e he
   rcases List.mem_append.1 he with x | x
   · obtain ⟨j,hj,rfl⟩:=List.getElem_of_mem (List.mem_of_mem_eraseIdx x)
     have:=h j
     rw [List.getD_eq_getElem?_getD,List.getElem?_eq_getElem hj] at this
     exact this
   · rw [List.mem_singleton.1 x];decide
 rw [List.getD_eq_getElem?_getD]
 by_cases hk:k<(L.eraseIdx i++[ze]).length
 · rw [List.getElem?_eq_getElem hk]
   exact hall _ (List.getElem_mem hk)
 · rw [List.getElem?_eq_none (by omega)]
   decide
theorem copyV_len (V:VolR) (f n:Nat) (hC:V.C.length≤256) (h5:5<V.C.length) (hF:FirstOK V f) (hn:n<256):(copyV V f n).C.length≤256∧5<(copyV V f n).C.length∧(copyV V f n).L.length≤V.L.length+100:=by
 have hlC:=lengthenV_lenC V [n] (by omega)
 have hlL:=lengthenV_lenL V [n]
 have hF1:FirstOK (lengthenV V [n]) f:=hF.same hlC (fun t ht=>cl_lengthen V [n] t ht (by omega))
 have H1:Hid (copy1 V f n=flushV (renumV sharedOf (lengthenV V [n]) (tabsOf (lengthenV V [n]) f))):=rfl
 have H2:Hid (copyV V f n=flushV (putV (putCnt (copy1 V f n) (copyCnt V.C f n) 4) n (cl (putCnt (copy1 V f n) (copyCnt V.C f n) 4).C f))):=rfl
 generalize lengthenV V [n]=V1 at*
 have hrC:=(renumV_same sharedOf_marks (tabsOf V1 f) V1 (tabs_ok hF1)).len
 have hrL:=renumV_lenL sharedOf (tabsOf V1 f) V1
 have hrT:=tabsOf_len V1 f
 generalize renumV sharedOf V1 (tabsOf V1 f)=V2 at*
 have hf2:=flushV_lenL V2
 have hf2c:(flushV V2).C.length=V2.C.length:=by rw [flushV_C]
 rw [← uh H1] at hf2 hf2c
 generalize copy1 V f n=V3 at*
 generalize copyCnt V.C f n=kk at*
 have hpC:=putCnt_lenC' V3 kk (by omega)
 have hpL:=putCnt_lenL V3 kk 4
 generalize putCnt V3 kk 4=V4 at*
 have hqL:=putV_lenL V4 n (cl V4.C f)
 have hqC:=putV_lenC V4 n (cl V4.C f)
 generalize putV V4 n (cl V4.C f)=V5 at*
 have hf5:=flushV_lenL V5
 have hf5c:(flushV V5).C.length=V5.C.length:=by rw [flushV_C]
 rw [← uh H2] at hf5 hf5c
 omega
theorem copyR_len (V:VolR) (f:Nat) (hC:V.C.length≤256) (h5:5<V.C.length) (hF:FirstOK V f):(copyR V f).1.C.length≤256∧5<(copyR V f).1.C.length∧(copyR V f).1.L.length≤V.L.length+100∧(copyR V f).2.1<256:=by
 by_cases hg:0<(lowFree (cntsOf V.C) 1).length∧fitsB (cntsOf V.C) (toldAll V.C f)=true
 · obtain ⟨n,hn,hlt,_⟩:=lowFree_one hg.1
   have e:copyR V f=(copyV V f n,n,0):=by
     unfold copyR
     rw [if_pos hg,hn,List.getD_cons_zero]
   rw [e]
   have:=copyV_len V f n hC h5 hF hlt
   exact ⟨this.1,this.2.1,this.2.2,hlt⟩
 · have e:copyR V f=(V,0,5):=by
     unfold copyR
     rw [if_neg hg]
   rw [e]
   exact ⟨hC,h5,by simp only;omega,by simp only;omega⟩
def takeR (V:VolR) (s:ByteArray):VolR × Nat:=
 if isNameB s.data.toList=false then (V,2)
 else if 0≤findE (entsOf (cl V.C 5)) s then (V,3)
 else if lenOf (entsOf (cl V.C 5))=4 then (V,5)
 else if (copyR V (num (cl V.C 0) 6)).2.2=0 then (flushV (putV (copyR V (num (cl V.C 0) 6)).1 5 (listTo ((entsOf (cl V.C 5)).set (lenOf (entsOf (cl V.C 5))) ⟨s.data.toList,(copyR V (num (cl V.C 0) 6)).2.1⟩) 4)),0)
 else ((copyR V (num (cl V.C 0) 6)).1,(copyR V (num (cl V.C 0) 6)).2.2)
theorem volTake_any (w:World) (v:Nat) (Cv Lv:Value) (V:VolR) (h:VolAt w v Cv Lv V) (h5:5<V.C.length) (hC:V.C.length≤256) (hL:V.L.length≤400000000) (hF:FirstOK V (num (cl V.C 0) 6)) (s:ByteArray) (hs:s.size≤maxLen):
   Calls Tryz.prog 47 #[.pointer (some ⟨v,0,none⟩),.string s] w fun e w'=>e= .returned (.int .i64 ((takeR V s).2:Nat))∧ ∃ C1 L1,VStep w w' v Cv Lv C1 L1 (takeR V s).1:=by
 have Hi:=hide (pIsName_any s w hs)
 have H:=hide h
 clear h
 by_cases hnm:isNameB s.data.toList=false
 · have hR:takeR V s=(V,2):=by unfold takeR;rw [if_pos hnm]
   rw [hR]
   dsimp only
   rw [hnm] at Hi
   go_enter Tryz.func47,Tryz.ntmps47
   go_wp2_with fail
   refine (uh Hi).mono ?_
   rintro e w1 ⟨rfl,hb1⟩
   have B1:=hide ((VStep.refl (uh H)).later hb1)
   clear hb1 Hi
   go_wp2
   go_ret
   exact ⟨rfl,_,_,uh B1⟩
 have hnt:isNameB s.data.toList=true:=by cases e:isNameB s.data.toList;exact absurd e hnm;rfl
 have hsl:=(name_le hnt).2
 rw [hnt] at Hi
 have Hl:Hid (∀ W,VolAt W v Cv Lv V→_):=fun W hW=>list_vol W v Cv Lv V hW h5
 have hel:=entsOf_length (cl V.C 5)
 have hle:=lenOf_le (entsOf (cl V.C 5))
 have Hfi:Hid (∀ W,_):=fun W=>find_any W (entsOf (cl V.C 5)) hel s
 have Hle:Hid (∀ W,_):=fun W=>len_any W (entsOf (cl V.C 5)) hel
 have Hh:Hid (∀ W,VolAt W v Cv Lv V→_):=fun W hW=>head_vol W v Cv Lv V hW (by omega)
 have Hco:Hid (∀ W,VolAt W v Cv Lv V→_):=fun W hW=>copyFirst_any W v Cv Lv V hW h5 hC hL (num (cl V.C 0) 6) hF
 obtain ⟨q1,q2,q3,q4⟩:=copyR_len V (num (cl V.C 0) 6) hC h5 hF
 have hsh:=short_ents (cl V.C 5)
 have HR:Hid (takeR V s=if 0≤findE (entsOf (cl V.C 5)) s then (V,3) else if lenOf (entsOf (cl V.C 5))=4 then (V,5) else if (copyR V (num (cl V.C 0) 6)).2.2=0 then (flushV (putV (copyR V (num (cl V.C 0) 6)).1 5 (listTo ((entsOf (cl V.C 5)).set (lenOf (entsOf (cl V.C 5))) ⟨s.data.toList,(copyR V (num (cl V.C 0) 6)).2.1⟩) 4)),0) else ((copyR V (num (cl V.C 0) 6)).1,(copyR V (num (cl V.C 0) 6)).2.2)):=by
   show _=_
   unfold takeR
   rw [if_neg hnm]
 generalize copyR V (num (cl V.C 0) 6)=R at*
 generalize entsOf (cl V.C 5)=E at*
 generalize num (cl V.C 0) 6=n0 at*
 generalize num (cl V.C 0) 4=cc at*
 obtain ⟨V1,n,er⟩:=R
 dsimp only at q1 q2 q3 q4 HR Hco
 go_enter Tryz.func47,Tryz.ntmps47
 go_wp2_with fail
 refine (uh Hi).mono ?_
 rintro e w1 ⟨rfl,hb1⟩
 have E1:=hide ((Env.start (uh H)).later hb1)
 clear hb1 Hi
 go_wp2_with fail
 refine (uh Hl _ (uh E1).at').mono ?_
 rintro e w2 ⟨rfl,hb2⟩
 have E2:=((uh E1).later hb2).lay (.cells (lv E).toArray 144)
 have l1:=blk_has E2.o0 (n:=8) (by rw [lv_length,hel])
 have l2:=blk_cells E2.o0 (n:=8) (by rw [lv_length,hel])
 have E2:=hide E2
 have zll:zl.length=4:=rfl
 clear hb2 Hl E1
 go_wp2_with fail
 refine (uh Hfi _).mono ?_
 rintro e w3 ⟨rfl,hb3⟩
 have E3:=hide ((uh E2).later hb3)
 clear hb3 Hfi E2 l1 l2
 generalize findE E s=fi at*
 by_cases hfi:0≤fi
 · have hR:Hid (takeR V s=(V,3)):=by show _=_;rw [uh HR,if_pos hfi]
   have df:decide (fi≥0)=true:=decide_eq_true hfi
   have ES:=hide (uh E3).step
   clear E3
   go_wp2
   go_ret
   rw [uh hR]
   exact ⟨rfl,_,_,uh ES⟩
 rw [if_neg hfi] at HR
 have df:decide (fi≥0)=false:=decide_eq_false hfi
 have l3:=blk_has (uh E3).o0 (n:=8) (by rw [lv_length,hel])
 have l4:=blk_cells (uh E3).o0 (n:=8) (by rw [lv_length,hel])
 go_wp2_with fail
 refine (uh Hle _).mono ?_
 rintro e w4 ⟨rfl,hb4⟩
 have E4:=hide ((uh E3).later hb4)
 clear hb4 Hle E3 l3 l4
 by_cases hl4:lenOf E=4
 · have hR:Hid (takeR V s=(V,5)):=by show _=_;rw [uh HR,if_pos hl4]
   have dl:(((lenOf E:Nat):Int) == 4)=true:=by rw [beq_iff_eq];omega
   have ES:=hide (uh E4).step
   clear E4
   go_wp2
   go_ret
   rw [uh hR]
   exact ⟨rfl,_,_,uh ES⟩
 rw [if_neg hl4] at HR
 have dl:(((lenOf E:Nat):Int) == 4)=false:=by rw [beq_eq_false_iff_ne];omega
 have Hw:Hid (∀ W p,_):=fun W p=>with_any W E hel p (by omega)
 have hsE:=hsh.set (lenOf E) ⟨s.data.toList,n⟩ (by exact hsl) (by simp only;omega)
 have hlE:(E.set (lenOf E) ⟨s.data.toList,n⟩).length=4:=by rw [List.length_set,hel]
 have HPl:Hid (∀ W C1 L1,VolAt W v C1 L1 V1→_):=fun W C1 L1 hW=>putList_any W v C1 L1 V1 hW (E.set (lenOf E) ⟨s.data.toList,n⟩) hlE hsE (by omega) (by omega)
 have hpL:=putV_lenL V1 5 (listTo (E.set (lenOf E) ⟨s.data.toList,n⟩) 4)
 have Hw2:Hid (∀ W,_):=fun W=>uh Hw W ⟨s.data.toList,n⟩
 generalize lenOf E=le at*
 generalize E.set le ⟨s.data.toList,n⟩=E' at*
 generalize listTo E' 4=lb at*
 have HFl:Hid (∀ W C1 L1,VolAt W v C1 L1 (putV V1 5 lb)→_):=fun W C1 L1 hW=>flush_any W v C1 L1 (putV V1 5 lb) hW (by omega)
 generalize putV V1 5 lb=V2 at*
 clear Hw
 go_wp2_with fail
 refine (uh Hh _ (uh E4).at').mono ?_
 rintro e w5 ⟨rfl,hb5⟩
 have E5:=hide ((uh E4).later hb5)
 clear hb5 Hh E4
 go_wp2_with fail
 refine (uh Hco _ (uh E5).at').mono ?_
 rintro e w6 ⟨rfl,C6,L6,hS6⟩
 have E6:=hide ((uh E5).does hS6)
 clear hS6 Hco E5
 by_cases her:er=0
 · subst her
   have hR:Hid (takeR V s=(flushV V2,0)):=by show _=_;rw [uh HR,if_pos rfl]
   have l5:=blk_has (uh E6).o0 (n:=8) (by rw [lv_length,hel])
   have l6:=blk_cells (uh E6).o0 (n:=8) (by rw [lv_length,hel])
   have hbe:=run_bEnt s.data.toList n w6
   rw [txt_self] at hbe
   clear HR
   go_wp2_with fail
   refine (uh Hw2 _).mono ?_
   rintro e w7 ⟨rfl,hb7⟩
   have E7:=hide ((uh E6).later hb7)
   clear hb7 Hw2 E6 l5 l6 hbe
   go_wp2_with fail
   refine (uh HPl _ _ _ (uh E7).at').mono ?_
   rintro e w8 ⟨rfl,C8,L8,hS8⟩
   have E8:=hide ((uh E7).does hS8)
   clear hS8 HPl E7
   go_wp2_with fail
   refine (uh HFl _ _ _ (uh E8).at').mono ?_
   rintro e w9 ⟨rfl,C9,L9,hS9⟩
   have ES:=hide ((uh E8).does hS9).step
   clear hS9 HFl E8
   go_wp2
   go_ret
   rw [uh hR]
   exact ⟨rfl,_,_,uh ES⟩
 · have hR:Hid (takeR V s=(V1,er)):=by show _=_;rw [uh HR,if_neg her]
   have de:(((er:Nat):Int) != 0)=true:=by rw [bne_iff_ne];omega
   have ES:=hide (uh E6).step
   clear E6 HR
   go_wp2
   go_ret
   rw [uh hR]
   exact ⟨rfl,_,_,uh ES⟩
theorem heldGo_any (v:Nat) (V:VolR) (h5:5<V.C.length) (hC:V.C.length≤256) (hL:V.L.length≤600000000) (f:Nat) (hFk:FirstOK V f) (hF: ∀ g ∈ firstsOf (letGoV1 V (heldAll V.C f)),FirstOK (letGoV1 V (heldAll V.C f)) g) (W:World) (C1 L1:Value) (bv bt:Nat)
   (hV:VolAt W v C1 L1 V) (hbv:W.heap[bv]? = some (.cells #[.pointer (some ⟨v,0,none⟩)] 82 (0,0))) (hbt:W.heap[bt]? = some (.cells #[.int .i64 (f:Nat)] 3 (0,0))) (hft: ¬ foot v C1 L1 bt) (hfv: ¬ foot v C1 L1 bv):
   Calls Tryz.prog 110 #[.pointer (some ⟨v,0,none⟩),.func (.func 166) #[] #[.pointer (some ⟨bt,0,none⟩),.pointer (some ⟨bv,0,none⟩)]] W fun e w'=>e= .returned (.tuple #[])∧ ∃ C2 L2,VStep W w' v C1 L1 C2 L2 (letGoV V (heldAll V.C f)):=
 callsIn_wide.1 (letGo_in W v C1 L1 V hV h5 hC hL 166 #[.pointer (some ⟨bt,0,none⟩),.pointer (some ⟨bv,0,none⟩)] (heldAll V.C f) 1057 (enters_of Tryz.func166 (by kernel_rfl) rfl)
   (fun X B hX=>held_all 99 (by omega) X v bv bt f B V C1 L1 W hV hC hbv hbt (fun hx=>by have:=(hX _ hx).1;have:=blk_lt hbt;omega) (fun hx=>by have:=(hX _ hx).1;have:=blk_lt hbv;omega) hft hfv (fun k hk=>(hX k hk).2) hFk) hF)
def dropW (V:VolR) (i:Nat):VolR:=flushV (putV V 5 (listTo (lessE (entsOf (cl V.C 5)) i) 4))
def firstE (V:VolR) (s:ByteArray):Nat:=((entsOf (cl V.C 5)).getD (entR V s).1.toNat ze).first
structure Goes (V:VolR) (f:Nat):Prop where
 len:V.C.length≤256
 own:FirstOK V f
 all: ∀ g ∈ firstsOf (letGoV1 V (heldAll V.C f)),FirstOK (letGoV1 V (heldAll V.C f)) g
def dropR (V:VolR) (s:ByteArray):VolR × Nat:=
 if (entR V s).2=0 then (letGoV (dropW V (entR V s).1.toNat) (heldAll (dropW V (entR V s).1.toNat).C (firstE V s)),0) else (V,(entR V s).2)
theorem volDrop_any (w:World) (v:Nat) (Cv Lv:Value) (V:VolR) (h:VolAt w v Cv Lv V) (h5:5<V.C.length) (hC:V.C.length≤256) (hL:V.L.length≤400000000) (s:ByteArray) (hs:s.size≤maxLen)
   (hG:(entR V s).2=0→Goes (dropW V (entR V s).1.toNat) (firstE V s)):
   Calls Tryz.prog 56 #[.pointer (some ⟨v,0,none⟩),.string s] w fun e w'=>e= .returned (.int .i64 ((dropR V s).2:Nat))∧ ∃ C1 L1,VStep w w' v Cv Lv C1 L1 (dropR V s).1:=by
 have He:=hide (entry_any w v Cv Lv V h h5 s hs)
 have H:=hide h
 clear h
 rcases (show (∃ m,m≠0∧entR V s=(0,m))∨ ∃ i,i<lenOf (entsOf (cl V.C 5))∧entR V s=(((i:Nat):Int),0) by
   rcases entR_cases V s with (e | e) | ⟨i,hi,e,_⟩
   · exact Or.inl ⟨2,by decide,e⟩
   · exact Or.inl ⟨4,by decide,e⟩
   · exact Or.inr ⟨i,hi,e⟩) with ⟨m,hm,e⟩ | ⟨i,hi,e⟩
 · have hR:dropR V s=(V,m):=by unfold dropR;rw [e,if_neg hm]
   rw [hR]
   rw [e] at He
   dsimp only at He ⊢
   have d0:(((m:Nat):Int) != 0)=true:=by rw [bne_iff_ne];omega
   clear hG hR e
   go_enter Tryz.func56,Tryz.ntmps56
   go_wp2_with fail
   refine (uh He).mono ?_
   rintro e w1 ⟨rfl,hb1⟩
   have B1:=hide ((VStep.refl (uh H)).later hb1)
   clear hb1 He
   go_wp2
   go_ret
   exact ⟨rfl,_,_,uh B1⟩
 · have hG:=hG (by rw [e])
   have hR:dropR V s=(letGoV (dropW V i) (heldAll (dropW V i).C (firstE V s)),0):=by unfold dropR;rw [e];rfl
   have hfe:firstE V s=((entsOf (cl V.C 5)).getD i ze).first:=by unfold firstE;rw [e];rfl
   rw [hR]
   rw [e] at He hG
   dsimp only at He hG ⊢
   have hG:Goes (dropW V i) (firstE V s):=hG
   have Hl:Hid (∀ W,VolAt W v Cv Lv V→_):=fun W hW=>list_vol W v Cv Lv V hW h5
   have hel:=entsOf_length (cl V.C 5)
   have hle:=lenOf_le (entsOf (cl V.C 5))
   have Hwo:Hid (∀ W,_):=fun W=>without_any W (entsOf (cl V.C 5)) hel i (by omega)
   have hsh:=(short_ents (cl V.C 5)).less i
   have hll:(lessE (entsOf (cl V.C 5)) i).length=4:=by unfold lessE;rw [List.length_append,List.length_eraseIdx,hel,if_pos (by omega)];rfl
   have HPl:Hid (∀ W C1 L1,VolAt W v C1 L1 V→_):=fun W C1 L1 hW=>putList_any W v C1 L1 V hW (lessE (entsOf (cl V.C 5)) i) hll hsh (by omega) (by omega)
   have HD:Hid (dropW V i=flushV (putV V 5 (listTo (lessE (entsOf (cl V.C 5)) i) 4))):=rfl
   have hpL:=putV_lenL V 5 (listTo (lessE (entsOf (cl V.C 5)) i) 4)
   have hpC:=putV_lenC V 5 (listTo (lessE (entsOf (cl V.C 5)) i) 4)
   generalize listTo (lessE (entsOf (cl V.C 5)) i) 4=lb at*
   generalize lessE (entsOf (cl V.C 5)) i=E' at*
   have HFl:Hid (∀ W C1 L1,VolAt W v C1 L1 (putV V 5 lb)→_):=fun W C1 L1 hW=>flush_any W v C1 L1 (putV V 5 lb) hW (by omega)
   have hfL:=flushV_lenL (putV V 5 lb)
   have hfC:(flushV (putV V 5 lb)).C.length=(putV V 5 lb).C.length:=by rw [flushV_C]
   rw [← uh HD] at HFl hfL hfC
   generalize putV V 5 lb=V1 at*
   generalize dropW V i=V2 at*
   have HLg:Hid (∀ W C1 L1 bv bt,VolAt W v C1 L1 V2→_→_→_→_→_):=fun W C1 L1 bv bt hW=>heldGo_any v V2 (by omega) hG.len (by omega) (firstE V s) hG.own hG.all W C1 L1 bv bt hW
   generalize letGoV V2 (heldAll V2.C (firstE V s))=V3 at*
   rw [hfe] at HLg
   clear hG hfe hR e HD
   generalize entsOf (cl V.C 5)=E at*
   go_enter Tryz.func56,Tryz.ntmps56
   go_wp2_with fail
   refine (uh He).mono ?_
   rintro e w1 ⟨rfl,hb1⟩
   have E1:=hide ((Env.start (uh H)).later hb1)
   clear hb1 He
   go_wp2_with fail
   refine (uh Hl _ (uh E1).at').mono ?_
   rintro e w2 ⟨rfl,hb2⟩
   have E2:=((uh E1).later hb2).lay (.cells (lv E).toArray 144)
   have l1:=blk_has E2.o0 (n:=8) (by rw [lv_length,hel])
   have l2:=blk_cells E2.o0 (n:=8) (by rw [lv_length,hel])
   have E2:=hide E2
   have zll:zl.length=4:=rfl
   clear hb2 Hl E1
   go_wp2_with fail
   refine (uh Hwo _).mono ?_
   rintro e w3 ⟨rfl,hb3⟩
   have E3:=hide ((uh E2).later hb3)
   clear hb3 Hwo E2 l1 l2
   go_wp2_with fail
   refine (uh HPl _ _ _ (uh E3).at').mono ?_
   rintro e w4 ⟨rfl,C4,L4,hS4⟩
   have E4:=hide ((uh E3).does hS4)
   clear hS4 HPl E3
   go_wp2_with fail
   refine (uh HFl _ _ _ (uh E4).at').mono ?_
   rintro e w5 ⟨rfl,C5,L5,hS5⟩
   have E5:=(uh E4).does hS5
   have c5:=ent_first E5.o0 i (by omega)
   have hii:(i:Int)<4:=by omega
   have E6:=(E5.lay (.cells #[.pointer (some ⟨v,0,none⟩)] 82)).lay (.cells #[.int .i64 ((E.getD i ze).first:Nat)] 3)
   simp only [World.size_alloc] at E6
   have Hm:=hide (held_make w5 v (E.getD i ze).first)
   have E6:=hide E6
   clear hS5 HFl E4 E5
   generalize (E.getD i ze).first=ff at*
   go_wp2_with fail
   refine (uh Hm).mono ?_
   rintro e w6 ⟨rfl,rfl⟩
   have Hg:=hide (uh HLg _ _ _ _ _ (uh E6).at' (uh E6).o1 (uh E6).o0 (uh E6).n0 (uh E6).n1)
   clear HLg Hm c5
   go_wp2_with fail
   refine (uh Hg).mono ?_
   rintro e w7 ⟨rfl,C7,L7,hS7⟩
   have ES:=hide ((uh E6).does hS7).step
   clear hS7 E6 Hg
   go_wp2
   go_ret
   exact ⟨rfl,_,_,uh ES⟩
def retW (V:VolR) (n:Nat):VolR:=flushV (putV V 0 (headBytes (num (cl V.C 0) 4) n))
def returnR (V:VolR) (s:ByteArray):VolR × Nat:=
 if (entR V s).2=0 then
   if (copyR V (firstE V s)).2.2=0 then (letGoV (retW (copyR V (firstE V s)).1 (copyR V (firstE V s)).2.1) (heldAll (retW (copyR V (firstE V s)).1 (copyR V (firstE V s)).2.1).C (num (cl (copyR V (firstE V s)).1.C 0) 6)),0)
   else ((copyR V (firstE V s)).1,(copyR V (firstE V s)).2.2)
 else (V,(entR V s).2)
theorem volReturn_any (w:World) (v:Nat) (Cv Lv:Value) (V:VolR) (h:VolAt w v Cv Lv V) (h5:5<V.C.length) (hC:V.C.length≤256) (hL:V.L.length≤400000000) (s:ByteArray) (hs:s.size≤maxLen)
   (hF:(entR V s).2=0→FirstOK V (firstE V s))
   (hG:(entR V s).2=0→(copyR V (firstE V s)).2.2=0→Goes (retW (copyR V (firstE V s)).1 (copyR V (firstE V s)).2.1) (num (cl (copyR V (firstE V s)).1.C 0) 6)):
   Calls Tryz.prog 55 #[.pointer (some ⟨v,0,none⟩),.string s] w fun e w'=>e= .returned (.int .i64 ((returnR V s).2:Nat))∧ ∃ C1 L1,VStep w w' v Cv Lv C1 L1 (returnR V s).1:=by
 have He:=hide (entry_any w v Cv Lv V h h5 s hs)
 have H:=hide h
 clear h
 rcases (show (∃ m,m≠0∧entR V s=(0,m))∨ ∃ i,i<lenOf (entsOf (cl V.C 5))∧entR V s=(((i:Nat):Int),0) by
   rcases entR_cases V s with (e | e) | ⟨i,hi,e,_⟩
   · exact Or.inl ⟨2,by decide,e⟩
   · exact Or.inl ⟨4,by decide,e⟩
   · exact Or.inr ⟨i,hi,e⟩) with ⟨m,hm,e⟩ | ⟨i,hi,e⟩
 · have hR:returnR V s=(V,m):=by unfold returnR;rw [e,if_neg hm]
   rw [hR]
   rw [e] at He
   dsimp only at He ⊢
   have d0:(((m:Nat):Int) != 0)=true:=by rw [bne_iff_ne];omega
   clear hG hF hR e
   go_enter Tryz.func55,Tryz.ntmps55
   go_wp2_with fail
   refine (uh He).mono ?_
   rintro e w1 ⟨rfl,hb1⟩
   have B1:=hide ((VStep.refl (uh H)).later hb1)
   clear hb1 He
   go_wp2
   go_ret
   exact ⟨rfl,_,_,uh B1⟩
 · have h0:(entR V s).2=0:=by rw [e]
   have hF:=hF h0
   have hG:=hG h0
   have HR:Hid (returnR V s=if (copyR V (firstE V s)).2.2=0 then (letGoV (retW (copyR V (firstE V s)).1 (copyR V (firstE V s)).2.1) (heldAll (retW (copyR V (firstE V s)).1 (copyR V (firstE V s)).2.1).C (num (cl (copyR V (firstE V s)).1.C 0) 6)),0) else ((copyR V (firstE V s)).1,(copyR V (firstE V s)).2.2)):=by
     show _=_
     unfold returnR
     rw [if_pos h0]
   have hfe:firstE V s=((entsOf (cl V.C 5)).getD i ze).first:=by unfold firstE;rw [e];rfl
   rw [e] at He
   dsimp only at He
   have Hl:Hid (∀ W,VolAt W v Cv Lv V→_):=fun W hW=>list_vol W v Cv Lv V hW h5
   have hel:=entsOf_length (cl V.C 5)
   have hle:=lenOf_le (entsOf (cl V.C 5))
   have Hx:Hid (∀ W,_):=fun W=>run_index_lst W (entsOf (cl V.C 5)) hel i (by omega)
   have Hco:Hid (∀ W,VolAt W v Cv Lv V→_):=fun W hW=>copyFirst_any W v Cv Lv V hW h5 hC hL (firstE V s) hF
   obtain ⟨q1,q2,q3,q4⟩:=copyR_len V (firstE V s) hC h5 hF
   generalize copyR V (firstE V s)=R at*
   rw [hfe] at Hco
   obtain ⟨V1,n,er⟩:=R
   dsimp only at q1 q2 q3 q4 HR Hco hG
   clear e h0 hF hfe
   generalize (entsOf (cl V.C 5)).getD i ze=ent at*
   generalize entsOf (cl V.C 5)=E at*
   go_enter Tryz.func55,Tryz.ntmps55
   go_wp2_with fail
   refine (uh He).mono ?_
   rintro e w1 ⟨rfl,hb1⟩
   have E1:=hide ((Env.start (uh H)).later hb1)
   clear hb1 He
   go_wp2_with fail
   refine (uh Hl _ (uh E1).at').mono ?_
   rintro e w2 ⟨rfl,hb2⟩
   have E2:=hide ((uh E1).later hb2)
   have hx2:=uh Hx w2
   clear hb2 Hl E1 Hx
   go_wp2_with fail
   refine (uh Hco _ (uh E2).at').mono ?_
   rintro e w3 ⟨rfl,C3,L3,hS3⟩
   have E3:=hide ((uh E2).does hS3)
   clear hS3 Hco E2 hx2
   by_cases her:er=0
   · subst her
     have hG:=hG rfl
     have hR:Hid (returnR V s=(letGoV (retW V1 n) (heldAll (retW V1 n).C (num (cl V1.C 0) 6)),0)):=by show _=_;rw [uh HR,if_pos rfl]
     have HD:Hid (retW V1 n=flushV (putV V1 0 (headBytes (num (cl V1.C 0) 4) n))):=rfl
     have Hh:Hid (∀ W C1 L1,VolAt W v C1 L1 V1→_):=fun W C1 L1 hW=>head_vol W v C1 L1 V1 hW (by omega)
     have hnl:=num_lt (cl V1.C 0) 4
     have HPh:Hid (∀ W C1 L1,VolAt W v C1 L1 V1→_):=fun W C1 L1 hW=>putHead_any W v C1 L1 V1 hW (num (cl V1.C 0) 4) n (by omega) (by omega) (by omega) (by omega)
     have hpL:=putV_lenL V1 0 (headBytes (num (cl V1.C 0) 4) n)
     have hpC:=putV_lenC V1 0 (headBytes (num (cl V1.C 0) 4) n)
     generalize headBytes (num (cl V1.C 0) 4) n=hb at*
     have HFl:Hid (∀ W C1 L1,VolAt W v C1 L1 (putV V1 0 hb)→_):=fun W C1 L1 hW=>flush_any W v C1 L1 (putV V1 0 hb) hW (by omega)
     have hfL:=flushV_lenL (putV V1 0 hb)
     have hfC:(flushV (putV V1 0 hb)).C.length=(putV V1 0 hb).C.length:=by rw [flushV_C]
     rw [← uh HD] at HFl hfL hfC
     generalize putV V1 0 hb=V2 at*
     generalize retW V1 n=V3 at*
     generalize num (cl V1.C 0) 6=old at*
     generalize num (cl V1.C 0) 4=cc at*
     have HLg:Hid (∀ W C1 L1 bv bt,VolAt W v C1 L1 V3→_→_→_→_→_):=fun W C1 L1 bv bt hW=>heldGo_any v V3 (by omega) hG.len (by omega) old hG.own hG.all W C1 L1 bv bt hW
     generalize letGoV V3 (heldAll V3.C old)=V4 at*
     clear hG HR HD
     go_wp2_with fail
     refine (uh Hh _ _ _ (uh E3).at').mono ?_
     rintro e w4 ⟨rfl,hb4⟩
     have E4:=((uh E3).later hb4).lay (.cells (hv cc old).toArray 128)
     have c4:(w4.alloc (.cells (hv cc old).toArray 128)).cell? ⟨w4.heap.size,1,none⟩=some (.int .i64 (old:Nat)):=(cell_blk E4.o0 1).trans rfl
     have f4:=frozen_blk E4.o0
     have E5:=((uh E3).later hb4).lay (.cells ((hv cc old).set 1 (.int .i64 (n:Nat))).toArray 128)
     have l1:=blk_has E5.o0 (n:=2) (by rw [List.length_set];exact hv_length _ _)
     have l2:cellsAt (w4.alloc (.cells ((hv cc old).set 1 (.int .i64 (n:Nat))).toArray 128)) w4.heap.size 0 2=hv cc n:=(blk_cells E5.o0 (n:=2) (by rw [List.length_set];exact hv_length _ _)).trans rfl
     have E5:=hide E5
     clear hb4 Hh E3 E4
     go_wp2_with fail
     refine (uh HPh _ _ _ (uh E5).at').mono ?_
     rintro e w6 ⟨rfl,C6,L6,hS6⟩
     have E6:=hide ((uh E5).does hS6)
     clear hS6 HPh E5 l1 l2 c4 f4
     go_wp2_with fail
     refine (uh HFl _ _ _ (uh E6).at').mono ?_
     rintro e w7 ⟨rfl,C7,L7,hS7⟩
     have E7:=(((uh E6).does hS7).lay (.cells #[.pointer (some ⟨v,0,none⟩)] 82)).lay (.cells #[.int .i64 (old:Nat)] 3)
     simp only [World.size_alloc] at E7
     have Hm:=hide (held_make w7 v old)
     have E7:=hide E7
     clear hS7 HFl E6
     go_wp2_with fail
     refine (uh Hm).mono ?_
     rintro e w8 ⟨rfl,rfl⟩
     have Hg:=hide (uh HLg _ _ _ _ _ (uh E7).at' (uh E7).o1 (uh E7).o0 (uh E7).n0 (uh E7).n1)
     clear HLg Hm
     go_wp2_with fail
     refine (uh Hg).mono ?_
     rintro e w9 ⟨rfl,C9,L9,hS9⟩
     have ES:=hide ((uh E7).does hS9).step
     clear hS9 E7 Hg
     go_wp2
     go_ret
     rw [uh hR]
     exact ⟨rfl,_,_,uh ES⟩
   · have hR:Hid (returnR V s=(V1,er)):=by show _=_;rw [uh HR,if_neg her]
     have de:(((er:Nat):Int) != 0)=true:=by rw [bne_iff_ne];omega
     have ES:=hide (uh E3).step
     clear E3 HR
     go_wp2
     go_ret
     rw [uh hR]
     exact ⟨rfl,_,_,uh ES⟩
theorem diskTake_any (w:World) (d v:Nat) (Cv Lv:Value) (V:VolR) (h:DskAt w d v Cv Lv V) (h5:5<V.C.length) (hC:V.C.length≤256) (hL:V.L.length≤400000000) (hF:FirstOK V (num (cl V.C 0) 6)) (s:ByteArray) (hs:s.size≤maxLen):
   Calls Tryz.prog 17 #[.pointer (some ⟨d,0,none⟩),.string s] w fun e w'=>e= .returned (.int .i64 ((takeR V s).2:Nat))∧ ∃ C1 L1,VStep w w' v Cv Lv C1 L1 (takeR V s).1:=by
 have Hm:=hide (made_any _ d v Cv Lv V h)
 have c0:=h.c0
 have Hw:=hide (volTake_any w v Cv Lv V h.vol h5 hC hL hF s hs)
 clear h hF
 generalize takeR V s=R at*
 obtain ⟨R1,R2⟩:=R
 dsimp only at Hw ⊢
 go_enter Tryz.func17,Tryz.ntmps17
 go_wp2_with fail
 refine (uh Hm).mono ?_
 rintro e w1 ⟨rfl,rfl⟩
 go_wp2_with fail
 refine (uh Hw).mono ?_
 rintro e w2 ⟨rfl,C2,L2,hS2⟩
 have ES:=hide hS2
 clear hS2 Hw Hm
 go_wp2
 go_ret
 exact ⟨rfl,C2,L2,uh ES⟩
theorem diskReturn_any (w:World) (d v:Nat) (Cv Lv:Value) (V:VolR) (h:DskAt w d v Cv Lv V) (h5:5<V.C.length) (hC:V.C.length≤256) (hL:V.L.length≤400000000) (s:ByteArray) (hs:s.size≤maxLen)
   (hF:(entR V s).2=0→FirstOK V (firstE V s))
   (hG:(entR V s).2=0→(copyR V (firstE V s)).2.2=0→Goes (retW (copyR V (firstE V s)).1 (copyR V (firstE V s)).2.1) (num (cl (copyR V (firstE V s)).1.C 0) 6)):
   Calls Tryz.prog 28 #[.pointer (some ⟨d,0,none⟩),.string s] w fun e w'=>e= .returned (.int .i64 ((returnR V s).2:Nat))∧ ∃ C1 L1,VStep w w' v Cv Lv C1 L1 (returnR V s).1:=by
 have Hm:=hide (made_any _ d v Cv Lv V h)
 have c0:=h.c0
 have Hw:=hide (volReturn_any w v Cv Lv V h.vol h5 hC hL s hs hF hG)
 clear h hF hG
 generalize returnR V s=R at*
 obtain ⟨R1,R2⟩:=R
 dsimp only at Hw ⊢
 go_enter Tryz.func28,Tryz.ntmps28
 go_wp2_with fail
 refine (uh Hm).mono ?_
 rintro e w1 ⟨rfl,rfl⟩
 go_wp2_with fail
 refine (uh Hw).mono ?_
 rintro e w2 ⟨rfl,C2,L2,hS2⟩
 have ES:=hide hS2
 clear hS2 Hw Hm
 go_wp2
 go_ret
 exact ⟨rfl,C2,L2,uh ES⟩
theorem diskDrop_any (w:World) (d v:Nat) (Cv Lv:Value) (V:VolR) (h:DskAt w d v Cv Lv V) (h5:5<V.C.length) (hC:V.C.length≤256) (hL:V.L.length≤400000000) (s:ByteArray) (hs:s.size≤maxLen)
   (hG:(entR V s).2=0→Goes (dropW V (entR V s).1.toNat) (firstE V s)):
   Calls Tryz.prog 29 #[.pointer (some ⟨d,0,none⟩),.string s] w fun e w'=>e= .returned (.int .i64 ((dropR V s).2:Nat))∧ ∃ C1 L1,VStep w w' v Cv Lv C1 L1 (dropR V s).1:=by
 have Hm:=hide (made_any _ d v Cv Lv V h)
 have c0:=h.c0
 have Hw:=hide (volDrop_any w v Cv Lv V h.vol h5 hC hL s hs hG)
 clear h hG
 generalize dropR V s=R at*
 obtain ⟨R1,R2⟩:=R
 dsimp only at Hw ⊢
 go_enter Tryz.func29,Tryz.ntmps29
 go_wp2_with fail
 refine (uh Hm).mono ?_
 rintro e w1 ⟨rfl,rfl⟩
 go_wp2_with fail
 refine (uh Hw).mono ?_
 rintro e w2 ⟨rfl,C2,L2,hS2⟩
 have ES:=hide hS2
 clear hS2 Hw Hm
 go_wp2
 go_ret
 exact ⟨rfl,C2,L2,uh ES⟩
end Go.Proofs.YtknjjjenklfeoaaGreatDoor
namespace Go.Proofs.YtknjjjenklfeoaaGreatDoor
open Go.RowKit
attribute [local go_sem ↓] loadVar_clus storeVar_clus zeroValue_clus loadVar_cont storeVar_cont zeroValue_cont build_disk equalIn_cont loadVar_pic buildSlice_pic equalIn_pic build_pic
attribute [local go_sem] run_loadClus run_storeClus run_zeroClus run_storeClus_new run_loadClus_new zc_length run_loadCont run_storeCont run_zeroCont run_bDisk run_loadPic run_bsPic run_bPic
def refReturnR (D:DiskR) (s:ByteArray):DiskR × Nat:=if (thereR D s).2=0 then (⟨(picAt D.L (thereR D s).1.toNat).C,D.L⟩,0) else (D,(thereR D s).2)
def picNames (Ps:List PicR) (k:Nat):List (List UInt8):=(Ps.take k).map (·.name)
def refTakeR (D:DiskR) (s:ByteArray):DiskR × Nat:=
 if isNameB s.data.toList=false then (D,2) else if 0≤refFind D s then (D,3) else if 4≤D.L.length then (D,5) else (⟨D.C,D.L++[⟨s.data.toList,D.C⟩]⟩,0)
def refDropR (D:DiskR) (s:ByteArray):DiskR × Nat:=if (thereR D s).2=0 then (⟨D.C,D.L.eraseIdx (thereR D s).1.toNat⟩,0) else (D,(thereR D s).2)
end Go.Proofs.YtknjjjenklfeoaaGreatDoor
namespace Go.Proofs.YtknjjjenklfeoaaGreatDoor
section
variable {base:List Clus} {V:VolR} {N0:Nat} {E:List EntR} {s:ByteArray}
theorem Vol.ents (h:Vol base V N0 E):entsOf (cl V.C 5)=pad4 E∧lenOf (entsOf (cl V.C 5))=E.length:=by
 rw [h.file.list,h.file.ents.entsOf]
 exact ⟨rfl,h.file.ents.lenOf⟩
theorem txt_inj {a b:List UInt8} (h:txt a=txt b):a=b:=by
 have:=congrArg (fun x:ByteArray=>x.data.toList) h
 simpa [txt] using this
theorem dsk_name (L:List Clus) (k:Nat) (hk:k<E.length):(picAt (dskOf L N0 E).L k).name=((pad4 E).getD k ze).name∧(picAt (dskOf L N0 E).L k).C=contentOf L ((pad4 E).getD k ze).first:=by
 rw [pad4_get k hk]
 unfold picAt
 rw [dskOf_L,List.getD_eq_getElem?_getD,List.getD_eq_getElem?_getD,List.getElem?_map,List.getElem?_eq_getElem hk]
 exact ⟨rfl,rfl⟩
theorem find_same (L:List Clus): ∀ m k,k+m=E.length→refFindFrom (dskOf L N0 E).L s m k=findFrom (pad4 E) s m k
 | 0,_,_=>rfl
 | m+1,k,h=>by
   rw [refFindFrom,findFrom,(dsk_name L k (by omega)).1,find_same L m (k+1) (by omega)]
theorem dsk_len (L:List Clus):(dskOf L N0 E).L.length=E.length:=by rw [dskOf_L,List.length_map]
theorem Vol.find (h:Vol base V N0 E):refFind (dskOf V.C N0 E) s=findE (entsOf (cl V.C 5)) s:=by
 unfold refFind findE
 rw [h.ents.2,h.ents.1,dsk_len]
 exact find_same V.C E.length 0 (by omega)
theorem find_none: ∀ m k,k+m=E.length→findFrom (pad4 E) s m k<0→ ∀ j,k≤j→j<E.length→((pad4 E).getD j ze).name≠s.data.toList
 | 0,k,h,_,j,h1,h2=>by omega
 | m+1,k,h,hf,j,h1,h2=>by
   rw [findFrom] at hf
   split at hf
   · omega
   · rename_i hn
     by_cases e:k=j
     · subst e
       intro he
       exact hn (by rw [he];exact txt_self s)
     · exact find_none m (k+1) (by omega) hf j (by omega) h2
theorem Vol.fresh (h:Vol base V N0 E) (hf:findE (entsOf (cl V.C 5)) s<0):s.data.toList ∉ E.map (·.name):=by
 unfold findE at hf
 rw [h.ents.2,h.ents.1] at hf
 intro hm
 obtain ⟨e,he,e1⟩:=List.mem_map.1 hm
 obtain ⟨j,hj,rfl⟩:=List.getElem_of_mem he
 have:=find_none E.length 0 (by omega) hf j (by omega) hj
 rw [pad4_get j hj,List.getD_eq_getElem?_getD,List.getElem?_eq_getElem hj] at this
 exact this e1
theorem Vol.there (h:Vol base V N0 E):(∃ m,m≠0∧m≠5∧entR V s=(0,m)∧thereR (dskOf V.C N0 E) s=(-1,m))∨ ∃ i,i<E.length∧entR V s=(((i:Nat):Int),0)∧thereR (dskOf V.C N0 E) s=(((i:Nat):Int),0)∧refFind (dskOf V.C N0 E) s=(i:Int):=by
 unfold thereR entR
 rw [h.find]
 by_cases hn:isNameB s.data.toList=false
 · rw [if_pos hn,if_pos hn]
   exact Or.inl ⟨2,by decide,by decide,rfl,rfl⟩
 · rw [if_neg hn,if_neg hn]
   by_cases hf:findE (entsOf (cl V.C 5)) s<0
   · rw [if_pos hf,if_pos hf]
     exact Or.inl ⟨4,by decide,by decide,rfl,rfl⟩
   · rw [if_neg hf,if_neg hf]
     obtain ⟨i,_,h2,h3⟩:=findFrom_some (entsOf (cl V.C 5)) s (lenOf (entsOf (cl V.C 5))) 0 (by unfold findE at hf;omega)
     have h4:findE (entsOf (cl V.C 5)) s=(i:Int):=h3
     rw [h4]
     exact Or.inr ⟨i,by rw [h.ents.2] at h2;omega,rfl,rfl,rfl⟩
theorem pad4_snoc (e:EntR) (h:E.length<4):(pad4 E).set E.length e=pad4 (E++[e]):=by
 unfold pad4
 rw [List.set_append_right _ _ (Nat.le_refl _),Nat.sub_self,show 4 - E.length=(4 - (E++[e]).length)+1 by simp;omega,List.replicate_succ,List.set_cons_zero,List.append_assoc]
 rfl
theorem pad4_less (i:Nat) (hi:i<E.length) (h4:E.length≤4):lessE (pad4 E) i=pad4 (E.eraseIdx i):=by
 unfold lessE pad4
 rw [List.eraseIdx_append_of_lt_length hi,List.append_assoc]
 congr 1
 have:(E.eraseIdx i).length=E.length - 1:=by rw [List.length_eraseIdx,if_pos hi]
 rw [this,show 4 - (E.length - 1)=(4 - E.length)+1 by omega,List.replicate_succ']
theorem roomFrom_iff (L:List Clus) (M:List Nat): ∀ m n,roomFrom L M m n=true↔ ∀ j,n≤j→j<n+m→countOf L j+M.getD j 0≤254
 | 0,n=>by simp [roomFrom];intro j h1 h2;omega
 | m+1,n=>by
   rw [roomFrom]
   by_cases hg:254<countOf L n+M.getD n 0
   · rw [if_pos hg]
     constructor
     · intro h;cases h
     · intro h;have:=h n (by omega) (by omega);omega
   · rw [if_neg hg,roomFrom_iff L M m (n+1)]
     constructor
     · intro h j h1 h2
       by_cases e:n=j
       · subst e;omega
       · exact h j (by omega) (by omega)
     · intro h j h1 h2;exact h j (by omega) (by omega)
theorem bump_get (M:List Nat) (n m:Nat) (hn:n<M.length):(bump M n).getD m 0=M.getD m 0+if n=m then 1 else 0:=by
 unfold bump
 rw [List.getD_eq_getElem?_getD,List.getElem?_set]
 by_cases e:n=m
 · subst e
   rw [if_pos rfl,if_pos hn,if_pos rfl,Option.getD_some]
 · rw [if_neg e,if_neg e,List.getD_eq_getElem?_getD];rfl
theorem sumFrom_last (f:Nat→Nat): ∀ m k,sumFrom f (m+1) k=sumFrom f m k+f (k+m)
 | 0,k=>by simp [sumFrom]
 | m+1,k=>by
   rw [sumFrom,sumFrom_last f m (k+1),sumFrom,show k+1+m=k+(m+1) by omega]
   omega
theorem moreIn_get (L:List Clus) (t:Nat) (M:List Nat) (hM:M.length=256) (n:Nat): ∀ k,k≤32→(∀ q,q<k→nm L t q≠0→nm L t q%32768<256)→(moreIn L t M k).getD n 0=M.getD n 0+sumFrom (fun q=>hit (nm L t q) n) k 0
 | 0,_,_=>by simp [moreIn,sumFrom]
 | k+1,hk,hq=>by
   have ih:=moreIn_get L t M hM n k (by omega) (fun q h=>hq q (by omega))
   rw [moreIn,sumFrom_last]
   by_cases h0:num (cl L t) (2*k)=0
   · rw [if_pos h0,ih]
     have:hit (nm L t (0+k)) n=0:=by rw [Nat.zero_add];unfold nm;rw [h0,hit_zero]
     rw [this];omega
   · rw [if_neg h0,bump_get _ _ _ (by rw [moreIn_length,hM];exact hq k (by omega) h0),ih]
     have:hit (nm L t (0+k)) n=if num (cl L t) (2*k)%32768=n then 1 else 0:=by
       rw [Nat.zero_add]
       by_cases e:num (cl L t) (2*k)%32768=n
       · rw [if_pos e];exact hit_one h0 e
       · rw [if_neg e];unfold hit;rw [if_neg (fun z=>e z.2)]
     rw [this];omega
theorem SoundL.more {L:List Clus} {rs:List RootR} (h:SoundL L rs) {r:RootR} (hr:r ∈ rs) (n:Nat):(moreOut L r.N 2).getD n 0=secOcc L r.N 0 n+secOcc L r.N 1 n:=by
 have hlen:=h.len
 have step: ∀ i,i<2→(moreOut L r.N (i+1)).getD n 0=(moreOut L r.N i).getD n 0+secOcc L r.N i n:=by
   intro i hi
   rw [moreOut]
   unfold secOcc
   by_cases h0:num (cl L r.N) (2*i)=0
   · rw [if_pos h0,if_pos h0];rfl
   · rw [if_neg h0,if_neg h0]
     have hsec:IsSec L rs (nm L r.N i%32768):=⟨r,hr,i,hi,h0,rfl⟩
     have hs:=h.sec _ hsec
     have hs':num (cl L r.N) (2*i)%32768<256:=Nat.lt_of_lt_of_le hs.2 hlen
     rw [moreIn_get L _ _ (by rw [bump_length];exact moreOut_length L r.N i) n 32 (Nat.le_refl _) (fun q hq h1=>Nat.lt_of_lt_of_le (h.num_in (Or.inr hsec) q hq h1).2 hlen),bump_get _ _ _ (by rw [moreOut_length];exact hs')]
     have:hit (nm L r.N i) n=if num (cl L r.N) (2*i)%32768=n then 1 else 0:=by
       by_cases e:num (cl L r.N) (2*i)%32768=n
       · rw [if_pos e];exact hit_one h0 e
       · rw [if_neg e];unfold hit;rw [if_neg (fun z=>e z.2)]
     rw [this]
     unfold inOcc
     exact Nat.add_assoc _ _ _
 rw [step 1 (by omega),step 0 (by omega)]
 have:(moreOut L r.N 0).getD n 0=0:=by have:=zI_most n;show zI.getD n 0=0;omega
 omega
theorem Vol.room (h:Vol base V N0 E) {f:Nat} (hf:f ∈ (rsOf N0 E).map (·.N)):roomR V.C f=true↔(0<(lowFree (cntsOf V.C) 1).length∧fitsB (cntsOf V.C) (toldAll V.C f)=true):=by
 obtain ⟨r,hr,rfl⟩:=List.mem_map.1 hf
 obtain ⟨k1,k2⟩:=h.ok.cnts rfl
 have hlen:=h.sound.len
 have hin: ∀ u ∈ toldAll V.C r.N,u<V.C.length:=fun u hu=>(h.sound.held_lt hr u (List.mem_cons.2 (Or.inr hu))).2
 have hfree:0<freeOf V.C↔0<(lowFree (cntsOf V.C) 1).length:=by
   constructor
   · intro hp
     by_cases hl:0<(lowFree (cntsOf V.C) 1).length
     · exact hl
     · have:=free_few h.sound h.file.lens 1 (by omega);omega
   · intro hl
     obtain ⟨n,_,hn,h0⟩:=lowFree_one hl
     rw [h.sound.free_all h.file.lens]
     have key: ∀ k,n<k→0<cntTo (fun m=>byteAt (cntsOf V.C) m == 0) k:=by
       intro k
       induction k with
       | zero=>intro h;omega
       | succ k ih=>
         intro hk
         rw [cntTo]
         by_cases e:n=k
         · subst e;rw [if_pos (by simp [h0])];omega
         · have:=ih (by omega);omega
     exact key 256 hn
 unfold roomR
 rw [Bool.and_eq_true,decide_eq_true_iff,hfree,roomFrom_iff,fits_iff _ _ (fun u hu=>by rw [k1];have:=hin u hu;omega)]
 constructor
 · rintro ⟨h1,h2⟩
   refine ⟨h2,fun u hu=> ?_⟩
   have h3:=h1 u (by omega) (by have:=hin u hu;omega)
   rw [h.sound.more hr,← count_told (h.sound.zero r hr)] at h3
   rw [k2 u (by have:=hin u hu;omega)]
   exact h3
 · rintro ⟨h1,h2⟩
   refine ⟨fun j _ hj=> ?_,h1⟩
   rw [h.sound.more hr,← count_told (h.sound.zero r hr)]
   by_cases hm:j ∈ toldAll V.C r.N
   · have:=h2 j hm
     rw [k2 j (by omega)] at this
     exact this
   · rw [List.count_eq_zero.2 hm]
     have:=h.sound.top j (by omega)
     omega
end
def entGood (E:List EntR) (i:Nat):Bool:=isNameB (E.getD i ze).name && decide (findE E (txt (E.getD i ze).name)=(i:Int))
def emptyB (E:List EntR) (i:Nat):Bool:=decide (txt (E.getD i ze).name=txt []) && decide ((E.getD i ze).first=0)
def allFrom (p:Nat→Bool):Nat→Nat→Bool
 | 0,_=>true
 | m+1,k=>p k && allFrom p m (k+1)
theorem allFrom_iff (p:Nat→Bool): ∀ m k,allFrom p m k=true↔ ∀ j,k≤j→j<k+m→p j=true
 | 0,k=>⟨fun _ j h1 h2=>by omega,fun _=>rfl⟩
 | m+1,k=>by
   rw [allFrom,Bool.and_eq_true,allFrom_iff p m (k+1)]
   constructor
   · rintro ⟨h1,h2⟩ j h3 h4
     by_cases e:j=k
     · rw [e];exact h1
     · exact h2 j (by omega) (by omega)
   · intro h
     exact ⟨h k (by omega) (by omega),fun j h1 h2=>h j (by omega) (by omega)⟩
theorem allFrom_snoc (p:Nat→Bool): ∀ m k,allFrom p (m+1) k=(allFrom p m k && p (k+m))
 | 0,k=>by rw [allFrom,allFrom,allFrom,Bool.and_true,Bool.true_and,Nat.add_zero]
 | m+1,k=>by
   rw [allFrom,allFrom_snoc p m (k+1),allFrom,Bool.and_assoc,show k+1+m=k+(m+1) by omega]
def listGood (c:Clus):Bool:=decide (listTo (entsOf c) 4=c) && (allFrom (entGood (entsOf c)) (lenOf (entsOf c)) 0 && allFrom (emptyB (entsOf c)) (4 - lenOf (entsOf c)) (lenOf (entsOf c)))
end Go.Proofs.YtknjjjenklfeoaaGreatDoor
