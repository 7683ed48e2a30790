import Derived.Test.YtknjjjenklfeoaaGreatDoorT15
set_option maxHeartbeats 8000000
set_option maxRecDepth 100000
namespace Go.Proofs.YtknjjjenklfeoaaGreatDoor
open Go.RowKit
attribute [local go_sem ↓] loadVar_clus storeVar_clus zeroValue_clus loadVar_tab storeVar_tab zeroValue_tab loadVar_cnt storeVar_cnt zeroValue_cnt loadVar_head storeVar_head zeroValue_head build_head buildSlice_clus loadVar_wr storeVar_wr zeroValue_wr build_wr buildSlice_wr equalIn_clus loadVar_place storeVar_place zeroValue_place build_place
attribute [local go_sem] run_loadClus run_storeClus run_zeroClus run_storeClus_new run_loadClus_new zc_length run_loadTab run_storeTab run_zeroTab run_storeTab_new run_loadTab_new zt_length run_loadCnt run_storeCnt run_zeroCnt run_storeCnt_new run_loadCnt_new zk_length run_loadHead run_storeHead run_zeroHead run_storeHead_new run_bHead HasAt_drew cellsAt_drew HasAt_drewN cellsAt_drewN run_bsClus run_loadWr run_zeroWr run_storeWr run_storeWr_new run_bWr0 run_bsWr run_loadPlace run_storePlace run_zeroPlace run_storePlace_new run_bPlace
attribute [local go_sem] field_head1 field_head0
def bsNum2 (parts:Array (Nat × Value)):Sem Value:=Instr.buildSlice 260 2 parts
theorem buildSlice_num2 (parts:Array (Nat × Value)):Instr.buildSlice 260 2 parts=bsNum2 parts:=rfl
theorem run_bsNum2 {w:World} {m n:Nat}:(bsNum2 #[(0,.int .u16 (m:Nat)),(1,.int .u16 (n:Nat))]).run Tryz.prog w= .ok (.slice (some ⟨w.heap.size,0,none⟩) 2 2) (w.alloc (.cells (tv [m,n]).toArray 167)):=
 run_buildSlice_two w 260 167 1 (.int .u16 0) (.int .u16 (m:Nat)) (.int .u16 (n:Nat)) Tryz.underlying260 (by kernel_rfl) (by omega) (by omega) (by rfl) (by rfl)
attribute [local go_sem ↓] buildSlice_num2
attribute [local go_sem] run_bsNum2
def wntT (V:VolR) (p:PlaceR):List Nat:=p.tab.set p.inSecond ((lowFree (cntsOf V.C) 2).getD 1 0+32768)
def wnt1 (V:VolR) (p:PlaceR) (data:Clus):VolR:=flushV (putV (putV (claimV V (lowFree (cntsOf V.C) 2)) ((lowFree (cntsOf V.C) 2).getD 0 0) (bytesOf (wntT V p))) ((lowFree (cntsOf V.C) 2).getD 1 0) data)
def wntV (V:VolR) (p:PlaceR) (data:Clus):VolR:=flushV (putNumV (wnt1 V p data) p.first p.inFirst ((lowFree (cntsOf V.C) 2).getD 0 0+32768))
theorem place_tabs {w:World} {b:Nat} {p:PlaceR} {t:TypeId} {fr:Nat × Nat} (h:w.heap[b]? = some (.cells (placeCells p).toArray t fr)):w.rangeAt b 5 (tv p.tab):=fun j v hv=>by
 rw [cell_blk h,List.getElem?_toArray,placeCells,show 5+j=j+5 by omega]
 simp only [List.getElem?_cons_succ]
 exact hv
theorem writeNewTable_any (w:World) (v:Nat) (Cv Lv:Value) (V V':VolR) (h:VolAt w v Cv Lv V) (h5:5<V.C.length) (hC:V.C.length≤256) (hL:V.L.length≤500000000) (p:PlaceR) (hpt:p.tab.length=32) (hptl: ∀ i,p.tab.getD i 0<65536) (hpf:p.first<V.C.length) (hpi:p.inFirst<32) (hpj:p.inSecond<32) (data:Clus) (hd:data.length=64)
   (hLG:2≤(lowFree (cntsOf V.C) 2).length→LetsGo v (wntV V p data) V' [p.second,p.block]):
   Calls Tryz.prog 106 #[.pointer (some ⟨v,0,none⟩),.agg (placeCells p).toArray,.agg (cv data).toArray] w fun e w'=>
     if 2≤(lowFree (cntsOf V.C) 2).length then e= .returned (.int .i64 0)∧ ∃ C1 L1,VStep w w' v Cv Lv C1 L1 V' else e= .returned (.int .i64 5)∧Below w.heap.size w w':=by
 have E0:=((Env.start h).lay (.cells (placeCells p).toArray 171)).lay (.cells (cv data).toArray 38)
 simp only [World.size_alloc] at E0
 have Hf:=hide (lowestFree_any _ v Cv Lv V E0.at' (by omega) 2 (by omega))
 have HB:Hid (Below w.heap.size w ((w.alloc (.cells (placeCells p).toArray 171)).alloc (.cells (cv data).toArray 38))):=((Below.refl _ w).alloc (Nat.le_refl _) _).alloc (by simp) _
 have hFlt:=lowFree_lt (cntsOf V.C) 2
 have hFle:=(lowTo_le (cntsOf V.C) 2 256).1
 have H0:Hid (wntT V p=p.tab.set p.inSecond ((lowFree (cntsOf V.C) 2).getD 1 0+32768)):=rfl
 have H1:Hid (wnt1 V p data=flushV (putV (putV (claimV V (lowFree (cntsOf V.C) 2)) ((lowFree (cntsOf V.C) 2).getD 0 0) (bytesOf (wntT V p))) ((lowFree (cntsOf V.C) 2).getD 1 0) data)):=rfl
 have H2:Hid (wntV V p data=flushV (putNumV (wnt1 V p data) p.first p.inFirst ((lowFree (cntsOf V.C) 2).getD 0 0+32768))):=rfl
 have E0:=hide E0
 change (lowFree (cntsOf V.C) 2).length≤2 at hFle
 generalize lowFree (cntsOf V.C) 2=F at*
 by_cases hF:2≤F.length
 · simp only [if_pos hF]
   have hlt:=lastOf_lt (by omega) hFlt
   have hF1:F.length=2:=by omega
   have hLG:=hLG hF
   have hs0:F.getD 0 0<256:=by rw [List.getD_eq_getElem?_getD,List.getElem?_eq_getElem (by omega)];exact hFlt _ (List.getElem_mem _)
   have hb0:F.getD 1 0<256:=by rw [List.getD_eq_getElem?_getD,List.getElem?_eq_getElem (by omega)];exact hFlt _ (List.getElem_mem _)
   have hcC:=claimV_lenC V F (by omega)
   have hcL:=claimV_lenL V F
   have HC:Hid (∀ W C1 L1 x,VolAt W v C1 L1 V→W.ownsRow 0 3 1 x F.length (iv F)→_):=fun W C1 L1 x hW hx=>claim_any W v C1 L1 V hW F (by omega) (by omega) hlt hFlt x hx (by omega) (by omega) (by omega)
   generalize claimV V F=V1 at*
   generalize hss:F.getD 0 0=sn at*
   generalize hbb:F.getD 1 0=b at*
   rw [uh H0] at H1
   have hTl:(p.tab.set p.inSecond (b+32768)).length=32:=by rw [List.length_set];exact hpt
   have hTlt:=set_lt hptl p.inSecond (b+32768) (by omega)
   have hTs:=tv_set p.tab p.inSecond (b+32768)
   generalize p.tab.set p.inSecond (b+32768)=T2 at*
   have hbl:=bytesOf_length T2
   have HT:Hid (∀ W,_):=fun W=>tableCluster_any W T2 hTl hTlt
   generalize bytesOf T2=tc at*
   have hpC:=putV_lenC V1 sn tc
   have hpL:=putV_lenL V1 sn tc
   have HP1:Hid (∀ W C1 L1,VolAt W v C1 L1 V1→_):=fun W C1 L1 hW=>put_any W v C1 L1 V1 hW sn (by omega) tc hbl (by omega) (by omega)
   generalize putV V1 sn tc=V2 at*
   have hpC2:=putV_lenC V2 b data
   have hpL2:=putV_lenL V2 b data
   have HP2:Hid (∀ W C1 L1,VolAt W v C1 L1 V2→_):=fun W C1 L1 hW=>put_any W v C1 L1 V2 hW b (by omega) data hd (by omega) (by omega)
   generalize putV V2 b data=V3 at*
   have hf2:=flushV_lenL V3
   have hf2c:(flushV V3).C.length=V3.C.length:=by rw [flushV_C]
   rw [← uh H1] at hf2 hf2c
   have HF2:Hid (∀ W C1 L1,VolAt W v C1 L1 V3→_):=fun W C1 L1 hW=>flush_any W v C1 L1 V3 hW (by omega)
   rw [← uh H1] at HF2
   generalize wnt1 V p data=V4 at*
   have HN:Hid (∀ W C1 L1,VolAt W v C1 L1 V4→_):=fun W C1 L1 hW=>putNumber_vol W v C1 L1 V4 hW p.first p.inFirst (sn+32768) (by omega) hpi (by omega) (by omega) (by omega)
   have hn4:=putV_lenL V4 p.first (bytesOf ((numsOf (cl V4.C p.first)).set p.inFirst (sn+32768)))
   change (putNumV V4 p.first p.inFirst (sn+32768)).L.length≤_ at hn4
   generalize hV5:putNumV V4 p.first p.inFirst (sn+32768)=V5 at*
   have HF4:Hid (∀ W C1 L1,VolAt W v C1 L1 V5→_):=fun W C1 L1 hW=>flush_any W v C1 L1 V5 hW (by omega)
   rw [← uh H2] at HF4
   generalize wntV V p data=V6 at*
   have HO1:Hid (∀ W,_):=fun W=>own_of b (by omega) W
   have HO2:Hid (∀ W,_):=fun W=>own_of sn (by omega) W
   have HLG:=hide hLG
   have hji:(p.inSecond:Int)<32:=by omega
   clear hLG h H0 H1 H2 hV5 hFlt hlt hptl hTlt
   go_enter Tryz.func106,Tryz.ntmps106
   go_wp2_with fail
   refine (uh Hf).mono ?_
   rintro e w1 ⟨x,rfl,hx,hb1⟩
   obtain ⟨g,cap,rfl,_⟩:=row_some hx (by omega)
   have E1:=(uh E0).later hb1
   have cx0:w1.cell? ⟨g,0,none⟩=some (.int .i64 (sn:Nat)):=by rw [← hss];exact ints_get hx 0 (by omega)
   have cx1:w1.cell? ⟨g,1,none⟩=some (.int .i64 (b:Nat)):=by rw [← hbb];exact ints_get hx 1 (by omega)
   have Hx:=hide (row_base hx (Nat.zero_le _))
   have E1:=hide E1
   clear hx hb1 Hf E0 HB
   rw [hF1] at HC Hx ⊢
   go_wp2
   go_quiet (fail)
   have E2:=(uh E1).drewN nq
   have l1:=hasAt_of_range (n:=32) (place_tabs E2.o1) (by rw [tv_length,hpt])
   have l2:=cellsAt_of_range (n:=32) (place_tabs E2.o1) (by rw [tv_length,hpt])
   have Hx2:Hid ((w1.drewN nq).ownsRow 0 3 1 (.slice (some ⟨g,0,none⟩) 2 cap) 2 (iv F)):=uh Hx
   have E2:=hide E2
   clear E1 cx0 cx1 Hx
   generalize w1.drewN nq=w2 at*
   have E3:=(uh E2).lay (.cells (tv p.tab).toArray 169)
   have Hx3:=hide ((uh Hx2).alloc (.cells (tv p.tab).toArray 169))
   have d1:(w2.alloc (.cells (tv p.tab).toArray 169)).drew.cell? ⟨w.heap.size,2,none⟩=some (.int .i64 (p.inSecond:Nat)):=(cell_blk E3.drew.o2 2).trans rfl
   have d2:(w2.alloc (.cells (tv p.tab).toArray 169)).drew.cell? ⟨w2.heap.size,p.inSecond,none⟩=some (.int .u16 ((p.tab.getD p.inSecond 0:Nat):Int)):=by
     rw [cell_blk E3.drew.o0,List.getElem?_toArray,tv_get _ _ (by omega)]
   have f1:=frozen_blk E3.drew.o0
   have hTs':(tv p.tab).set p.inSecond (Value.int .u16 ((b:Int)+32768))=tv T2:=by rw [hTs];rfl
   have E4:=hide (((uh E2).lay (.cells (tv T2).toArray 169)).drew)
   have Hx4:Hid ((w2.alloc (.cells (tv T2).toArray 169)).drew.ownsRow 0 3 1 (.slice (some ⟨g,0,none⟩) 2 cap) 2 (iv F)):=(uh Hx2).alloc _
   clear E3 Hx3 hTs
   generalize p.tab.getD p.inSecond 0=old at*
   go_wp2
   go_region_law (go_simp
                  go_at_call 161
                  refine (uh HO1 _).mono ?_
                  rintro e w3 ⟨rfl,rfl⟩)
   all_goals
     clear d1 d2 f1 l1 l2 HO1 hTs'
     generalize (w2.alloc (.cells (tv T2).toArray 169)).drew=w3 at*
     generalize w2.heap.size=bt at*
     go_wp2_with fail
     refine (uh HC w3 _ _ _ (uh E4).at' (uh Hx4)).mono ?_
     rintro e w4 ⟨rfl,C4,L4,hS4⟩
     have E5:=(uh E4).does hS4
     have l1:=blk_has E5.drew.o0 (n:=32) (by rw [tv_length,hTl])
     have l2:=blk_cells E5.drew.o0 (n:=32) (by rw [tv_length,hTl])
     have E5:=hide E5
     clear hS4 E4 Hx4 HC Hx2 E2
     go_wp2
     go_region_law (first
       | (go_simp
          go_at_call 163
          refine (uh HT _).mono ?_
          rintro e w5 ⟨rfl,hb5⟩
          have E6:=hide ((uh E5).drew.later hb5)
          clear hb5)
       | (go_simp
          go_at_call 70
          refine (uh HP1 _ _ _ (uh E6).at').mono ?_
          rintro e w6 ⟨rfl,C6,L6,hS6⟩
          have E7:=hide ((uh E6).does hS6)
          clear hS6))
     all_goals
       have l3:=box_has (uh E7).drew.o1 hd
       have l4:=box_cells (uh E7).drew.o1 hd
       clear E6 E5 l1 l2 HT HP1
       go_wp2
       go_region_law (go_simp
                      go_at_call 70
                      refine (uh HP2 _ _ _ (uh E7).drew.at').mono ?_
                      rintro e w7 ⟨rfl,C7,L7,hS7⟩
                      have E8:=hide ((uh E7).drew.does hS7)
                      clear hS7)
       all_goals
         clear l3 l4 HP2 E7
         go_wp2_with fail
         refine (uh HF2 _ _ _ (uh E8).at').mono ?_
         rintro e w8 ⟨rfl,C8,L8,hS8⟩
         have E9:=(uh E8).does hS8
         have d1:w8.drew.cell? ⟨w.heap.size,0,none⟩=some (.int .i64 (p.first:Nat)):=(cell_blk E9.drew.o2 0).trans rfl
         have d2:w8.drew.cell? ⟨w.heap.size,1,none⟩=some (.int .i64 (p.inFirst:Nat)):=(cell_blk E9.drew.o2 1).trans rfl
         have E9:=hide E9
         clear hS8 E8 HF2
         go_wp2
         go_region_law (first
           | (go_simp
              go_at_call 161
              refine (uh HO2 _).mono ?_
              rintro e w9 ⟨rfl,rfl⟩)
           | (go_simp
              go_at_call 164
              refine (uh HN _ _ _ (uh E9).drew.at').mono ?_
              rintro e w9 ⟨rfl,C9,L9,hS9⟩
              have E10:=hide ((uh E9).drew.does hS9)
              clear hS9))
         all_goals
           clear E9 d1 d2 HN HO2
           go_wp2_with fail
           refine (uh HF4 _ _ _ (uh E10).at').mono ?_
           rintro e w10 ⟨rfl,C10,L10,hS10⟩
           have E11:=(uh E10).does hS10
           have d3:w10.cell? ⟨w.heap.size,3,none⟩=some (.int .u16 (p.second:Nat)):=(cell_blk E11.o2 3).trans rfl
           have d4:w10.cell? ⟨w.heap.size,4,none⟩=some (.int .u16 (p.block:Nat)):=(cell_blk E11.o2 4).trans rfl
           have E12:=E11.lay (.cells (tv [p.second,p.block]).toArray 167)
           have Hm:=hide (clusters_make (w10.alloc (.cells (tv [p.second,p.block]).toArray 167)) (some ⟨w10.heap.size,0,none⟩) 2 2)
           have E13:=E12.lay (.cells #[.slice (some ⟨w10.heap.size,0,none⟩) 2 2] 260)
           simp only [World.size_alloc] at E13
           have Hg:=hide (uh HLG _ C10 L10 (w10.heap.size+1) w10.heap.size E13.at' E13.o0 E13.o1 (E13.objs (w10.heap.size,.cells (tv [p.second,p.block]).toArray 167 (0,0)) (by simp)).2.2)
           have E13:=hide E13
           clear hS10 E11 E12 E10 HF4 HLG
           go_wp2_with fail
           refine (uh Hm).mono ?_
           rintro e w11 ⟨rfl,rfl⟩
           simp only [World.size_alloc]
           go_wp2_with fail
           refine (uh Hg).mono ?_
           rintro e w12 ⟨rfl,C12,L12,hS12⟩
           have E14:=hide ((uh E13).does hS12).step
           go_wp2
           go_ret
           exact ⟨rfl,C12,L12,uh E14⟩
 · simp only [if_neg hF]
   have hF0:((F.length:Nat):Int)<2:=by omega
   go_enter Tryz.func106,Tryz.ntmps106
   go_wp2_with fail
   refine (uh Hf).mono ?_
   rintro e w1 ⟨x,rfl,hx,hb1⟩
   obtain ⟨g,cap,rfl⟩:=row_form hx
   have HB1:=hide ((uh HB).trans (hb1.mono (uh HB).size))
   go_wp2
   go_ret
   exact ⟨rfl,uh HB1⟩
end Go.Proofs.YtknjjjenklfeoaaGreatDoor
