import Derived.Test.YtknjjjenklfeoaaGreatDoorT07
import Derived.Test.YtknjjjenklfeoaaGreatDoorT08
import Derived.RangeFuncNested
import Derived.RangeFuncBound
import Derived.RangeFuncCalls
import Derived.RangeFuncLeaves
import Derived.Shelf.Abstract
import Derived.Shelf.RegionOpen
import Derived.WalkKit
import Derived.OwnWalkIn
import Derived.TacticsInMore
import Derived.LoopNIn
import Derived.LoopIn
import Derived.Test.YtknjjjenklfeoaaGreatDoorT09
set_option maxHeartbeats 8000000
set_option maxRecDepth 100000
namespace Go.Proofs.YtknjjjenklfeoaaGreatDoor
open Go.RowKit
attribute [local go_sem ↓] loadVar_clus storeVar_clus zeroValue_clus loadVar_tab storeVar_tab zeroValue_tab loadVar_cnt storeVar_cnt zeroValue_cnt loadVar_head storeVar_head zeroValue_head build_head buildSlice_clus loadVar_wr storeVar_wr zeroValue_wr build_wr buildSlice_wr equalIn_clus loadVar_place storeVar_place zeroValue_place build_place loadVar_lst storeVar_lst zeroValue_lst storeVar_ent build_ent
attribute [local go_sem] run_loadClus run_storeClus run_zeroClus run_storeClus_new run_loadClus_new zc_length run_loadTab run_storeTab run_zeroTab run_storeTab_new run_loadTab_new zt_length run_loadCnt run_storeCnt run_zeroCnt run_storeCnt_new run_loadCnt_new zk_length run_loadHead run_storeHead run_zeroHead run_storeHead_new run_bHead HasAt_drew cellsAt_drew HasAt_drewN cellsAt_drewN run_bsClus run_loadWr run_zeroWr run_storeWr run_storeWr_new run_bWr0 run_bsWr run_loadPlace run_storePlace run_zeroPlace run_storePlace_new run_bPlace run_loadLst run_storeLst run_zeroLst run_storeLst_new run_storeEnt run_bEnt
attribute [local go_sem] field_head1 field_head0
def nameBytes (c:Clus) (i:Nat):List UInt8:=(c.drop (16*i+2)).take 12
def entOf (c:Clus) (i:Nat):EntR:=⟨(nameBytes c i).take (cutLen (nameBytes c i)),num c (16*i)⟩
def entsTo (c:Clus) (k:Nat):List EntR:=(List.range 4).map fun i=>if i<k then entOf c i else ze
def entsOf (c:Clus):List EntR:=(List.range 4).map (entOf c)
theorem entsTo_all (c:Clus):entsTo c 4=entsOf c:=by
 unfold entsTo entsOf
 refine List.map_congr_left fun i hi=> ?_
 rw [if_pos (List.mem_range.1 hi)]
theorem nameBytes_length (c:Clus) (i:Nat) (hc:c.length=64) (hi:i<4):(nameBytes c i).length=12:=by simp [nameBytes,hc];omega
theorem name_range {w:World} {b:Nat} {c:Clus} {t:TypeId} {fr:Nat × Nat} (hb:w.heap[b]? = some (.cells (cv c).toArray t fr)) (i:Nat):w.rangeAt b (16*i+2) (cv (nameBytes c i)):=fun j v hv=>by
 rw [cell_blk hb,List.getElem?_toArray]
 simp only [cv,List.getElem?_map,nameBytes] at hv ⊢
 rw [List.getElem?_take] at hv
 split at hv
 · rw [List.getElem?_drop] at hv;exact hv
 · cases hv
theorem range_take {w:World} {b o:Nat} {c:List UInt8} (h:w.rangeAt b o (cv c)) (n:Nat):w.rangeAt b o (cv (c.take n)):=fun j v hv=>by
 refine h j v ?_
 simp only [cv,List.getElem?_map,List.getElem?_take] at hv ⊢
 split at hv
 · exact hv
 · cases hv
theorem lv_append (A B:List EntR):lv (A++B)=lv A++lv B:=by simp [lv]
theorem lv_setList (L:List EntR) (k:Nat) (hk:k<L.length) (p:EntR):setList (lv L).toArray (2*k) (ev p)=(lv (L.set k p)).toArray:=by
 have h1:L=L.take k++[L[k]]++L.drop (k+1):=by rw [List.append_assoc,List.singleton_append,List.getElem_cons_drop,List.take_append_drop]
 have h2:L.set k p=L.take k++[p]++L.drop (k+1):=by rw [List.set_eq_take_append_cons_drop,if_pos hk];simp
 have h3:=setList_mid (lv (L.take k)) (lv [L[k]]) (ev p) (lv (L.drop (k+1))) (by simp [lv,ev])
 rw [← lv_append,← lv_append,← h1,lv_length,List.length_take,Nat.min_eq_left (by omega),Nat.mul_comm] at h3
 rw [h3,h2,lv_append,lv_append]
 simp [lv]
theorem entsTo_succ (c:Clus) (k:Nat) (hk:k<4):entsTo c (k+1)=(entsTo c k).set k (entOf c k):=by
 refine List.ext_getElem? fun i=> ?_
 rw [List.getElem?_set]
 simp only [entsTo,List.getElem?_map,List.length_map,List.length_range]
 by_cases hi:i<4
 · rw [List.getElem?_range hi]
   by_cases e:k=i
   · subst e;simp [hk]
   · simp only [Option.map_some,if_neg e]
     congr 1
     by_cases h:i<k
     · rw [if_pos h,if_pos (by omega)]
     · rw [if_neg h,if_neg (by omega)]
 · rw [List.getElem?_eq_none (by simp;omega)]
   split
   · omega
   · rfl
theorem entsTo_length (c:Clus) (k:Nat):(entsTo c k).length=4:=by simp [entsTo]
theorem entsOf_length (c:Clus):(entsOf c).length=4:=by simp [entsOf]
theorem listOf_any' (w:World) (c:Clus) (hc:c.length=64):
   Calls Tryz.prog 141 #[.agg (cv c).toArray] w fun e w'=>e= .returned (.agg (lv (entsOf c)).toArray)∧Below w.heap.size w w':=by
 have L0:=hide (Locs.three w (.cells (cv c).toArray 38) (.cells (lv zl).toArray 144) (.cells (lv zl).toArray 144))
 go_enter Tryz.func141,Tryz.ntmps141
 go_wp2
 go_loopw [4,5,6,7,8,9] (fun _ _ _ _ _ i w'=> ∃ k:Nat,k≤4∧i= .int .i64 k∧Locs w w' [.cells (cv c).toArray 38,.cells (lv zl).toArray 144,.cells (lv (entsTo c k)).toArray 144]) (fun _ _ _ _ _ i _=>4 - (intOf i).toNat)
 case atStart=>exact ⟨0,by omega,rfl,uh L0⟩
 case round=>
   obtain ⟨k,hk,rfl,hL⟩:=hrel
   clear L0
   by_cases hlt:k<4
   · have hnb:=nameBytes_length c k hc hlt
     have hcut:=cutLen_le (nameBytes c k)
     rcases (show k=0∨k=1∨k=2∨k=3 by omega) with rfl | rfl | rfl | rfl
     · have HL:=hide (hL.alloc (.cells #[.int .u8 0] 5))
       have c1:(wr.alloc (.cells #[.int .u8 0] 5)).cell? ⟨wr.heap.size,0,none⟩=some (.int .u8 0):=(cell_new wr _ _ _ 0).trans rfl
       have Hc:=hide (cut_any _ _ _ (64 - 16*0 - 2) _ (name_range (uh HL).o0 0) (by omega) (by omega) _ c1)
       rw [hnb] at Hc
       simp only [Nat.reduceMul,Nat.reduceAdd,Nat.reduceSub] at Hc
       have Hn:Hid (∀ W,Calls Tryz.prog 149 #[.agg (cv c).toArray,.int .i64 0] W fun e w'=>e= .returned (.int .u16 (num c 0:Nat))∧Below W.heap.size W w'):=fun W=>numberAt_any c 0 W hc (by omega) (by omega)
       have hnl:=num_lt c 0
       have hw:IntKind.i64.wrap ((num c 0:Nat):Int)=(num c 0:Nat):=IntWalk.i64_in _ (by omega)
       have htl:((nameBytes c 0).take (cutLen (nameBytes c 0))).length=cutLen (nameBytes c 0):=by rw [List.length_take];omega
       have HE:Hid (setList (lv (entsTo c 0)).toArray 0 (ev ⟨(nameBytes c 0).take (cutLen (nameBytes c 0)),num c 0⟩)=(lv (entsTo c 1)).toArray):=by
         show _=_
         rw [entsTo_succ c 0 (by omega)]
         exact lv_setList (entsTo c 0) 0 (by rw [entsTo_length];omega) (entOf c 0)
       have hel:=entsTo_length c 0
       clear hL
       go_wp2_with fail
       refine (uh Hc).mono ?_
       rintro e w1 ⟨⟨r2,r3,rfl⟩,hb1⟩
       have L1:=(uh HL).later hb1
       have hcv1:=conv_range ((nameBytes c 0).take (cutLen (nameBytes c 0))) (range_take (name_range L1.drew.o0 0) _) 62
       rw [htl] at hcv1
       have l1:=box_has L1.drew.o0 hc
       have l2:=box_cells L1.drew.o0 hc
       have L1:=hide L1
       clear HL Hc hb1 hcut hnb c1
       generalize hnm:(nameBytes c 0).take (cutLen (nameBytes c 0))=nm at*
       generalize cutLen (nameBytes c 0)=m at*
       generalize num c 0=fn at*
       go_wp2
       go_region_law (go_simp
                      go_at_call 149
                      refine (uh Hn _).mono ?_
                      rintro e w2 ⟨rfl,hb2⟩
                      have L2:=(uh L1).drew.later hb2
                      have hcv2:=conv_range nm (by rw [← hnm];exact range_take (name_range L2.o0 0) _) 62
                      rw [htl] at hcv2
                      have th:=there_blk L2.o2 0 2 (by rw [List.size_toArray,lv_length,hel];omega)
                      have L2:=hide L2)
       all_goals
         have L3:=(uh L2).setCells 2 rfl 0 (ev ⟨nm,fn⟩)
         rw [uh HE] at L3
         have L3:=hide L3
         clear L2 hb2 L1
         go_wp2
         go_roundw
         case rel=>exact ⟨1,by omega,by go_num,uh L3⟩
         case measure=>simp [intOf]
     · have HL:=hide (hL.alloc (.cells #[.int .u8 0] 5))
       have c1:(wr.alloc (.cells #[.int .u8 0] 5)).cell? ⟨wr.heap.size,0,none⟩=some (.int .u8 0):=(cell_new wr _ _ _ 0).trans rfl
       have Hc:=hide (cut_any _ _ _ (64 - 16*1 - 2) _ (name_range (uh HL).o0 1) (by omega) (by omega) _ c1)
       rw [hnb] at Hc
       simp only [Nat.reduceMul,Nat.reduceAdd,Nat.reduceSub] at Hc
       have Hn:Hid (∀ W,Calls Tryz.prog 149 #[.agg (cv c).toArray,.int .i64 16] W fun e w'=>e= .returned (.int .u16 (num c 16:Nat))∧Below W.heap.size W w'):=fun W=>numberAt_any c 16 W hc (by omega) (by omega)
       have hnl:=num_lt c 16
       have hw:IntKind.i64.wrap ((num c 16:Nat):Int)=(num c 16:Nat):=IntWalk.i64_in _ (by omega)
       have htl:((nameBytes c 1).take (cutLen (nameBytes c 1))).length=cutLen (nameBytes c 1):=by rw [List.length_take];omega
       have HE:Hid (setList (lv (entsTo c 1)).toArray 2 (ev ⟨(nameBytes c 1).take (cutLen (nameBytes c 1)),num c 16⟩)=(lv (entsTo c 2)).toArray):=by
         show _=_
         rw [entsTo_succ c 1 (by omega)]
         exact lv_setList (entsTo c 1) 1 (by rw [entsTo_length];omega) (entOf c 1)
       have hel:=entsTo_length c 1
       clear hL
       go_wp2_with fail
       refine (uh Hc).mono ?_
       rintro e w1 ⟨⟨r2,r3,rfl⟩,hb1⟩
       have L1:=(uh HL).later hb1
       have hcv1:=conv_range ((nameBytes c 1).take (cutLen (nameBytes c 1))) (range_take (name_range L1.drew.o0 1) _) 46
       rw [htl] at hcv1
       have l1:=box_has L1.drew.o0 hc
       have l2:=box_cells L1.drew.o0 hc
       have L1:=hide L1
       clear HL Hc hb1 hcut hnb c1
       generalize hnm:(nameBytes c 1).take (cutLen (nameBytes c 1))=nm at*
       generalize cutLen (nameBytes c 1)=m at*
       generalize num c 16=fn at*
       go_wp2
       go_region_law (go_simp
                      go_at_call 149
                      refine (uh Hn _).mono ?_
                      rintro e w2 ⟨rfl,hb2⟩
                      have L2:=(uh L1).drew.later hb2
                      have hcv2:=conv_range nm (by rw [← hnm];exact range_take (name_range L2.o0 1) _) 46
                      rw [htl] at hcv2
                      have th:=there_blk L2.o2 2 2 (by rw [List.size_toArray,lv_length,hel];omega)
                      have L2:=hide L2)
       all_goals
         have L3:=(uh L2).setCells 2 rfl 2 (ev ⟨nm,fn⟩)
         rw [uh HE] at L3
         have L3:=hide L3
         clear L2 hb2 L1
         go_wp2
         go_roundw
         case rel=>exact ⟨2,by omega,by go_num,uh L3⟩
         case measure=>simp [intOf]
     · have HL:=hide (hL.alloc (.cells #[.int .u8 0] 5))
       have c1:(wr.alloc (.cells #[.int .u8 0] 5)).cell? ⟨wr.heap.size,0,none⟩=some (.int .u8 0):=(cell_new wr _ _ _ 0).trans rfl
       have Hc:=hide (cut_any _ _ _ (64 - 16*2 - 2) _ (name_range (uh HL).o0 2) (by omega) (by omega) _ c1)
       rw [hnb] at Hc
       simp only [Nat.reduceMul,Nat.reduceAdd,Nat.reduceSub] at Hc
       have Hn:Hid (∀ W,Calls Tryz.prog 149 #[.agg (cv c).toArray,.int .i64 32] W fun e w'=>e= .returned (.int .u16 (num c 32:Nat))∧Below W.heap.size W w'):=fun W=>numberAt_any c 32 W hc (by omega) (by omega)
       have hnl:=num_lt c 32
       have hw:IntKind.i64.wrap ((num c 32:Nat):Int)=(num c 32:Nat):=IntWalk.i64_in _ (by omega)
       have htl:((nameBytes c 2).take (cutLen (nameBytes c 2))).length=cutLen (nameBytes c 2):=by rw [List.length_take];omega
       have HE:Hid (setList (lv (entsTo c 2)).toArray 4 (ev ⟨(nameBytes c 2).take (cutLen (nameBytes c 2)),num c 32⟩)=(lv (entsTo c 3)).toArray):=by
         show _=_
         rw [entsTo_succ c 2 (by omega)]
         exact lv_setList (entsTo c 2) 2 (by rw [entsTo_length];omega) (entOf c 2)
       have hel:=entsTo_length c 2
       clear hL
       go_wp2_with fail
       refine (uh Hc).mono ?_
       rintro e w1 ⟨⟨r2,r3,rfl⟩,hb1⟩
       have L1:=(uh HL).later hb1
       have hcv1:=conv_range ((nameBytes c 2).take (cutLen (nameBytes c 2))) (range_take (name_range L1.drew.o0 2) _) 30
       rw [htl] at hcv1
       have l1:=box_has L1.drew.o0 hc
       have l2:=box_cells L1.drew.o0 hc
       have L1:=hide L1
       clear HL Hc hb1 hcut hnb c1
       generalize hnm:(nameBytes c 2).take (cutLen (nameBytes c 2))=nm at*
       generalize cutLen (nameBytes c 2)=m at*
       generalize num c 32=fn at*
       go_wp2
       go_region_law (go_simp
                      go_at_call 149
                      refine (uh Hn _).mono ?_
                      rintro e w2 ⟨rfl,hb2⟩
                      have L2:=(uh L1).drew.later hb2
                      have hcv2:=conv_range nm (by rw [← hnm];exact range_take (name_range L2.o0 2) _) 30
                      rw [htl] at hcv2
                      have th:=there_blk L2.o2 4 2 (by rw [List.size_toArray,lv_length,hel];omega)
                      have L2:=hide L2)
       all_goals
         have L3:=(uh L2).setCells 2 rfl 4 (ev ⟨nm,fn⟩)
         rw [uh HE] at L3
         have L3:=hide L3
         clear L2 hb2 L1
         go_wp2
         go_roundw
         case rel=>exact ⟨3,by omega,by go_num,uh L3⟩
         case measure=>simp [intOf]
     · have HL:=hide (hL.alloc (.cells #[.int .u8 0] 5))
       have c1:(wr.alloc (.cells #[.int .u8 0] 5)).cell? ⟨wr.heap.size,0,none⟩=some (.int .u8 0):=(cell_new wr _ _ _ 0).trans rfl
       have Hc:=hide (cut_any _ _ _ (64 - 16*3 - 2) _ (name_range (uh HL).o0 3) (by omega) (by omega) _ c1)
       rw [hnb] at Hc
       simp only [Nat.reduceMul,Nat.reduceAdd,Nat.reduceSub] at Hc
       have Hn:Hid (∀ W,Calls Tryz.prog 149 #[.agg (cv c).toArray,.int .i64 48] W fun e w'=>e= .returned (.int .u16 (num c 48:Nat))∧Below W.heap.size W w'):=fun W=>numberAt_any c 48 W hc (by omega) (by omega)
       have hnl:=num_lt c 48
       have hw:IntKind.i64.wrap ((num c 48:Nat):Int)=(num c 48:Nat):=IntWalk.i64_in _ (by omega)
       have htl:((nameBytes c 3).take (cutLen (nameBytes c 3))).length=cutLen (nameBytes c 3):=by rw [List.length_take];omega
       have HE:Hid (setList (lv (entsTo c 3)).toArray 6 (ev ⟨(nameBytes c 3).take (cutLen (nameBytes c 3)),num c 48⟩)=(lv (entsTo c 4)).toArray):=by
         show _=_
         rw [entsTo_succ c 3 (by omega)]
         exact lv_setList (entsTo c 3) 3 (by rw [entsTo_length];omega) (entOf c 3)
       have hel:=entsTo_length c 3
       clear hL
       go_wp2_with fail
       refine (uh Hc).mono ?_
       rintro e w1 ⟨⟨r2,r3,rfl⟩,hb1⟩
       have L1:=(uh HL).later hb1
       have hcv1:=conv_range ((nameBytes c 3).take (cutLen (nameBytes c 3))) (range_take (name_range L1.drew.o0 3) _) 14
       rw [htl] at hcv1
       have l1:=box_has L1.drew.o0 hc
       have l2:=box_cells L1.drew.o0 hc
       have L1:=hide L1
       clear HL Hc hb1 hcut hnb c1
       generalize hnm:(nameBytes c 3).take (cutLen (nameBytes c 3))=nm at*
       generalize cutLen (nameBytes c 3)=m at*
       generalize num c 48=fn at*
       go_wp2
       go_region_law (go_simp
                      go_at_call 149
                      refine (uh Hn _).mono ?_
                      rintro e w2 ⟨rfl,hb2⟩
                      have L2:=(uh L1).drew.later hb2
                      have hcv2:=conv_range nm (by rw [← hnm];exact range_take (name_range L2.o0 3) _) 14
                      rw [htl] at hcv2
                      have th:=there_blk L2.o2 6 2 (by rw [List.size_toArray,lv_length,hel];omega)
                      have L2:=hide L2)
       all_goals
         have L3:=(uh L2).setCells 2 rfl 6 (ev ⟨nm,fn⟩)
         rw [uh HE] at L3
         have L3:=hide L3
         clear L2 hb2 L1
         go_wp2
         go_roundw
         case rel=>exact ⟨4,by omega,by go_num,uh L3⟩
         case measure=>simp [intOf]
   · have hk4:k=4:=by omega
     subst hk4
     rw [entsTo_all] at hL
     have hel:=entsOf_length c
     have l1:=blk_has hL.o2 (n:=8) (by rw [lv_length,hel])
     have l2:=blk_cells hL.o2 (n:=8) (by rw [lv_length,hel])
     have th:=there_blk hL.o1 0 8 (by simp [lv_length,zl])
     have hset:=hL.setCells 1 rfl 0 (lv (entsOf c))
     rw [setList_all _ _ (by simp [lv_length,zl,hel])] at hset
     have l3:=blk_has hset.o1 (n:=8) (by rw [lv_length,hel])
     have l4:=blk_cells hset.o1 (n:=8) (by rw [lv_length,hel])
     have HB:=hide hset.below
     clear hL hset
     go_wp2
     refine bodyPost_ret (results_cell Tryz.results141 ⟨w.heap.size+1,0,none⟩ rfl ?_) rfl ⟨rfl,uh HB⟩
     rw [loadVar_lst,run_loadLst l3,l4]
theorem list_vol (w:World) (v:Nat) (Cv Lv:Value) (V:VolR) (h:VolAt w v Cv Lv V) (h5:5<V.C.length):
   Calls Tryz.prog 83 #[.pointer (some ⟨v,0,none⟩)] w fun e w'=>e= .returned (.agg (lv (entsOf (cl V.C 5))).toArray)∧Below w.heap.size w w':=by
 have L0:=Locs.one w (.cells (lv zl).toArray 144)
 have Ha:=hide (at_any _ v Cv Lv V (h.below L0.below) 5 h5)
 have Hh:Hid (∀ W,_):=fun W=>listOf_any' W (cl V.C 5) (cl_length h.lenC h5)
 have hel:=entsOf_length (cl V.C 5)
 have L0:=hide L0
 clear h
 generalize entsOf (cl V.C 5)=E at*
 generalize cl V.C 5=c at*
 go_enter Tryz.func83,Tryz.ntmps83
 go_wp2_with fail
 refine (uh Ha).mono ?_
 rintro e w1 ⟨rfl,hb1⟩
 have L1:=hide ((uh L0).later hb1)
 clear Ha L0 hb1
 go_wp2_with fail
 refine (uh Hh w1).mono ?_
 rintro e w2 ⟨rfl,hb2⟩
 have L2:=(uh L1).later hb2
 have th:=there_blk L2.o0 0 8 (by simp [lv_length,zl])
 have hset:=L2.setCells 0 rfl 0 (lv E)
 rw [Nat.add_zero,setList_all _ _ (by simp [lv_length,zl,hel])] at hset
 have l3:=blk_has hset.o0 (n:=8) (by rw [lv_length,hel])
 have l4:=blk_cells hset.o0 (n:=8) (by rw [lv_length,hel])
 have HB:=hide hset.below
 clear hset L2 L1 hb2 Hh
 go_wp2
 refine bodyPost_ret (results_cell Tryz.results83 ⟨w.heap.size,0,none⟩ rfl ?_) rfl ⟨rfl,uh HB⟩
 rw [loadVar_lst,run_loadLst l3,l4]
def lenFrom (E:List EntR):Nat→Nat→Nat
 | 0,k=>k
 | m+1,k=>if (E.getD k ze).first=0 then k else lenFrom E m (k+1)
def lenOf (E:List EntR):Nat:=lenFrom E 4 0
theorem lenFrom_le (E:List EntR): ∀ m k,lenFrom E m k≤k+m
 | 0,k=>by simp [lenFrom]
 | m+1,k=>by
   rw [lenFrom]
   split
   · omega
   · have:=lenFrom_le E m (k+1);omega
theorem lenOf_le (E:List EntR):lenOf E≤4:=by have:=lenFrom_le E 4 0;unfold lenOf;omega
theorem ent_first {w:World} {b:Nat} {E:List EntR} {t:TypeId} {fr:Nat × Nat} (h:w.heap[b]? = some (.cells (lv E).toArray t fr)) (k:Nat) (hk:k<E.length):w.cell? ⟨b,k*2+1,none⟩=some (.int .i64 (((E.getD k ze).first:Nat):Int)):=by
 rw [cell_blk h,List.getElem?_toArray]
 clear h
 induction E generalizing k with
 | nil=>simp at hk
 | cons a r ih=>
   rw [show lv (a :: r)=ev a++lv r from rfl]
   cases k with
   | zero=>rfl
   | succ k=>
     rw [List.getElem?_append_right (by simp [ev];omega),show (k+1)*2+1 - (ev a).length=k*2+1 by simp [ev];omega,ih k (by simpa using hk)]
     simp
theorem len_any (w:World) (E:List EntR) (hE:E.length=4):
   Calls Tryz.prog 85 #[.agg (lv E).toArray] w fun e w'=>e= .returned (.int .i64 (lenOf E:Nat))∧Below w.heap.size w w':=by
 have L0:=hide (Locs.one w (.cells (lv E).toArray 144))
 go_enter Tryz.func85,Tryz.ntmps85
 go_wp2
 go_loopw [3] (fun i w'=> ∃ k:Nat,k≤4∧i= .int .i64 k∧Locs w w' [.cells (lv E).toArray 144]∧lenOf E=lenFrom E (4 - k) k) (fun i _=>4 - (intOf i).toNat)
 case atStart=>exact ⟨0,by omega,rfl,uh L0,rfl⟩
 case round=>
   obtain ⟨k,hk,rfl,hL,hl⟩:=hrel
   clear L0
   by_cases hlt:k<4
   · have hki:(k:Int)<4:=by omega
     have dk:decide ((k:Int)<4)=true:=by simpa using hki
     have c1:=ent_first hL.o0 k (by omega)
     have hs:lenFrom E (4 - k) k=if (E.getD k ze).first=0 then k else lenFrom E (4 - (k+1)) (k+1):=by
       rw [show 4 - k=(4 - (k+1))+1 by omega,lenFrom]
     rw [hs] at hl
     generalize (E.getD k ze).first=fn at*
     have HB:=hide hL.below
     have HL:=hide hL
     clear hL hs
     by_cases h0:fn=0
     · rw [if_pos h0] at hl
       have Hl:=hide hl
       subst h0
       clear hl
       go_wp2
       go_ret
       exact ⟨by rw [uh Hl];rfl,uh HB⟩
     · rw [if_neg h0] at hl
       have Hl:=hide hl
       have d0:(((fn:Nat):Int) != 0)=true:=by rw [bne_iff_ne];omega
       clear hl
       go_wp2
       go_roundw
       case rel=>exact ⟨k+1,by omega,by go_num,uh HL,uh Hl⟩
       case measure=>simp [intOf];omega
   · have hk4:k=4:=by omega
     subst hk4
     have Hl:=hide hl
     have HB:=hide hL.below
     clear hl hL
     go_wp2
     go_ret
     exact ⟨by rw [uh Hl];rfl,uh HB⟩
end Go.Proofs.YtknjjjenklfeoaaGreatDoor
namespace Go.Proofs.YtknjjjenklfeoaaGreatDoor
open Go.RowKit Go.Shelf
attribute [local go_sem ↓] loadVar_clus storeVar_clus zeroValue_clus loadVar_tab storeVar_tab zeroValue_tab loadVar_cnt storeVar_cnt zeroValue_cnt loadVar_head storeVar_head zeroValue_head build_head buildSlice_clus loadVar_wr storeVar_wr zeroValue_wr build_wr buildSlice_wr equalIn_clus loadVar_place storeVar_place zeroValue_place build_place loadVar_lst storeVar_lst zeroValue_lst storeVar_ent build_ent
attribute [local go_sem] run_loadClus run_storeClus run_zeroClus run_storeClus_new run_loadClus_new zc_length run_loadTab run_storeTab run_zeroTab run_storeTab_new run_loadTab_new zt_length run_loadCnt run_storeCnt run_zeroCnt run_storeCnt_new run_loadCnt_new zk_length run_loadHead run_storeHead run_zeroHead run_storeHead_new run_bHead HasAt_drew cellsAt_drew HasAt_drewN cellsAt_drewN run_bsClus run_loadWr run_zeroWr run_storeWr run_storeWr_new run_bWr0 run_bsWr run_loadPlace run_storePlace run_zeroPlace run_storePlace_new run_bPlace run_loadLst run_storeLst run_zeroLst run_storeLst_new run_storeEnt run_bEnt
attribute [local go_sem] field_head1 field_head0 Oper.semAt_some
def loadEnt (a:Addr):Sem Value:=loadVar 142 a
theorem loadVar_ent (a:Addr):loadVar 142 a=loadEnt a:=rfl
theorem run_loadEnt {w:World} {b o:Nat} (h:HasAt w b o 2):(loadEnt ⟨b,o,none⟩).run Tryz.prog w= .ok (.agg (cellsAt w b o 2).toArray) w:=
 run_loadVar_has h 142 _ Tryz.underlying142 rfl (by kernel_rfl)
def zeroEnt:Sem Value:=zeroValue 142
theorem zeroValue_ent:zeroValue 142=zeroEnt:=rfl
theorem run_zeroEnt (w:World):zeroEnt.run Tryz.prog w= .ok (.agg (ev ze).toArray) w:=
 (zero_of_info (P:=Tryz.prog) (t:=142) (v:= .agg (ev ze).toArray) (n:=2) (by kernel_rfl)).1 w
theorem run_storeEnt_new {w:World} {z p:EntR}:
   (storeEnt ⟨w.heap.size,0,none⟩ (.agg (ev p).toArray)).run Tryz.prog (w.alloc (.cells (ev z).toArray 142))= .ok () (w.alloc (.cells (ev p).toArray 142)):=
 run_storeVar_new w 142 (ev z).toArray (ev p).toArray (by simp only [ev];kernel_rfl) (by simp [ev]) (all_oneCell_toArray (ev_one p))
attribute [local go_sem ↓] loadVar_ent zeroValue_ent
attribute [local go_sem] run_loadEnt run_zeroEnt run_storeEnt_new
theorem ent_range {w:World} {b:Nat} {E:List EntR} {t:TypeId} {fr:Nat × Nat} (h:w.heap[b]? = some (.cells (lv E).toArray t fr)) (k:Nat) (hk:k<E.length):w.rangeAt b (k*2) (ev (E.getD k ze)):=fun j x hx=>by
 have hj:j<2:=by have:=(List.getElem?_eq_some_iff.1 hx).1;simpa [ev] using this
 rw [cell_blk h,List.getElem?_toArray,← hx]
 clear h hx
 induction E generalizing k with
 | nil=>simp at hk
 | cons a r ih=>
   rw [show lv (a :: r)=ev a++lv r from rfl]
   cases k with
   | zero=>rw [Nat.zero_mul,Nat.zero_add,List.getElem?_append_left (by simp [ev];omega)];rfl
   | succ k=>
     rw [List.getElem?_append_right (by simp [ev];omega),show (k+1)*2+j - (ev a).length=k*2+j by simp [ev];omega,ih k (by simpa using hk)]
     simp
def picFirsts (C:List Clus):List Nat:=((entsOf (cl C 5)).take (lenOf (entsOf (cl C 5)))).map (·.first)
def firstsOf (V:VolR):List Nat:=num (cl V.C 0) 6 :: picFirsts V.C
theorem picFirsts_get (C:List Clus) (k:Nat) (hk:k<lenOf (entsOf (cl C 5))):((entsOf (cl C 5)).getD k ze).first ∈ picFirsts C:=by
 have h4:=lenOf_le (entsOf (cl C 5))
 have hl:=entsOf_length (cl C 5)
 unfold picFirsts
 refine List.mem_map.2 ⟨(entsOf (cl C 5)).getD k ze,?_,rfl⟩
 rw [List.getD_eq_getElem?_getD,List.getElem?_eq_getElem (by omega)]
 rw [List.mem_take_iff_getElem]
 exact ⟨k,by omega,rfl⟩
theorem firsts_all {Pc:Nat→Prop} (n:Nat) (hn:10≤n) (X:Nat→Prop) (v bv B:Nat) (V:VolR) (Cv Lv:Value) (w:World) (hV:VolAt w v Cv Lv V)
   (hbv:w.heap[bv]? = some (.cells #[.pointer (some ⟨v,0,none⟩)] 82 (0,0))) (hXv: ¬ X bv) (hfv: ¬ foot v Cv Lv bv)
   (hXB: ∀ k,X k→k<w.heap.size) (h5:5<V.C.length) (hP: ∀ t ∈ firstsOf V,Pc t):
   SeqAll n 173 #[.pointer (some ⟨bv,0,none⟩)] (fun x:UM Pc=> #[Value.int .i64 ((x.1:Nat):Int)]) (KeepV X (fun k=>B≤k) v SameNum) (fun ys=>ys.map (·.1)=firstsOf V) 5 B w:=by
 intro l J W hW hBW hJ hY h0
 have B0:Besides X v [(bv,.cells #[.pointer (some ⟨v,0,none⟩)] 82 (0,0))] (SameNum V) W:=by
   refine ⟨⟨Cv,Lv,V,hV.below hW,SameNum.refl V,?_⟩,?_,?_,?_⟩
   · intro x hx;simp only [List.mem_cons,List.not_mem_nil,or_false] at hx;subst hx;exact hfv
   · intro x hx;simp only [List.mem_cons,List.not_mem_nil,or_false] at hx;subst hx;exact (hW.block _ (blk_lt hbv)).trans hbv
   · intro x hx;simp only [List.mem_cons,List.not_mem_nil,or_false] at hx;subst hx;rfl
   · intro x hx;simp only [List.mem_cons,List.not_mem_nil,or_false] at hx;subst hx;exact hXv
 have hXW: ∀ k,W.heap.size≤k→ ¬ X k:=fun k hk hx=>by have:=hXB _ hx;have:=hW.size;omega
 have c1:W.cell? ⟨bv,0,none⟩=some (.pointer (some ⟨v,0,none⟩)):=(cell_blk B0.b0 0).trans rfl
 have Hh:=hide (head_vol W v Cv Lv V (hV.below hW) (by omega))
 have hP0:Pc (num (cl V.C 0) 6):=hP _ (by simp [firstsOf])
 have B0:=hide B0
 refine callsIn_of_wp Tryz.func173 rfl trivial ?_ rfl
 simp only [Tryz.ntmps173,List.size_toArray,List.length_cons,List.length_nil,Nat.reduceAdd,Nat.reduceSub,Array.replicate_succ,Array.replicate_zero,List.push_toArray,List.append_toArray,List.nil_append,List.cons_append]
 gi_wp2_with fail
 refine ⟨trivial,fun _=>by omega,(callsIn_wide.2 (uh Hh)).mono ?_⟩
 rintro e W1 ⟨rfl,hb1⟩
 have B1:=(uh B0).below hb1
 have hJ1:J [] W1:=hJ [] W W1 none h0 ⟨hb1.os,hb1.tape,hb1.output,hb1.size,fun k hk _=>hb1.block k hk⟩ (fun r e=>by cases e)
 obtain ⟨fn,tmps,assign,body,hy,hR⟩:=hY [] ⟨num (cl V.C 0) 6,hP0⟩ W1 hJ1 (by simp)
 dsimp only at hy
 have B1:=hide B1
 have hw1:=hb1.size
 clear Hh B0 hb1 h0 c1 hbv
 gi_wp2_with fail
 refine ⟨fun _=>by omega,hR.mono ?_⟩
 rintro e W3 ⟨rfl,hJ3,hK3⟩
 have B3:=(uh B1).keep (fun _ _ a b=>SameNum.trans a b) hK3
 obtain ⟨C3,L3,V3,hV3,hS3,hf3⟩:=B3.vol
 have c3:W3.cell? ⟨bv,0,none⟩=some (.pointer (some ⟨v,0,none⟩)):=(cell_blk B3.b0 0).trans rfl
 have hs3:W.heap.size≤W3.heap.size:=by have:=hK3.1;omega
 have Hl:=hide (list_vol W3 v C3 L3 V3 hV3 (by rw [hS3.len];exact h5))
 rw [hS3.low 5 (by omega)] at Hl
 have hel:=entsOf_length (cl V.C 5)
 have B3:=hide B3
 have HJ3:=hide hJ3
 clear hR hy hJ1 B1 hK3 hJ3 hV3 hf3
 gi_wp2_with fail
 refine ⟨trivial,fun _=>by omega,(callsIn_wide.2 (uh Hl)).mono ?_⟩
 rintro e W4 ⟨rfl,hb4⟩
 have hs4:W.heap.size≤W4.heap.size:=by have:=hb4.size;omega
 have B4:=((uh B3).below hb4).lay (.cells (lv (entsOf (cl V.C 5))).toArray 144) rfl (hXW _ hs4)
 have hJ4:J [⟨num (cl V.C 0) 6,hP0⟩] (W4.alloc (.cells (lv (entsOf (cl V.C 5))).toArray 144)):=hJ.alloc _ (hJ _ W3 W4 none (uh HJ3) ⟨hb4.os,hb4.tape,hb4.output,hb4.size,fun k hk _=>hb4.block k hk⟩ (fun r e=>by cases e))
 have B4:=hide (B4.sub (cs:=[(W4.heap.size,.cells (lv (entsOf (cl V.C 5))).toArray 144 (0,0))]) (by simp))
 have l1:=blk_has (uh B4).b0 (n:=8) (by rw [lv_length,hel])
 have l2:=blk_cells (uh B4).b0 (n:=8) (by rw [lv_length,hel])
 have Hn:=hide (len_any (W4.alloc (.cells (lv (entsOf (cl V.C 5))).toArray 144)) (entsOf (cl V.C 5)) hel)
 have hl4:=lenOf_le (entsOf (cl V.C 5))
 have HJ4:=hide hJ4
 have zll:zl.length=4:=rfl
 have hPk: ∀ k,k<lenOf (entsOf (cl V.C 5))→Pc ((entsOf (cl V.C 5)).getD k ze).first:=fun k hk=>hP _ (List.mem_cons_of_mem _ (picFirsts_get V.C k hk))
 have hfo:firstsOf V=num (cl V.C 0) 6 :: ((entsOf (cl V.C 5)).take (lenOf (entsOf (cl V.C 5)))).map (·.first):=rfl
 have Hfo:=hide hfo
 clear Hl HJ3 B3 hb4 c3 hJ4 hP hfo
 generalize entsOf (cl V.C 5)=E at*
 gi_wp2_with fail
 refine ⟨trivial,fun _=>by omega,(callsIn_wide.2 (uh Hn)).mono ?_⟩
 rintro e W5 ⟨rfl,hb5⟩
 have B5:=hide ((uh B4).below hb5)
 have HJ5:Hid (J [⟨num (cl V.C 0) 6,hP0⟩] W5):=hJ _ _ W5 none (uh HJ4) ⟨hb5.os,hb5.tape,hb5.output,hb5.size,fun k hk _=>hb5.block k hk⟩ (fun r e=>by cases e)
 clear Hn HJ4 B4 l1 l2 hb5
 generalize hL0:lenOf E=L0 at*
 have hli:(L0:Int)≤4:=by omega
 gi_wp2
 gi_loopw [5,18] (fun _ i wr=> ∃ (k:Nat) (ys:List (UM Pc)),k≤L0∧i= .int .i64 k∧Besides X v [(W4.heap.size,.cells (lv E).toArray 144 (0,0))] (SameNum V) wr∧ys.map (·.1)=(E.take k).map (·.first)∧ys.length=k∧J (⟨num (cl V.C 0) 6,hP0⟩ :: ys) wr) (fun _ i _=>L0 - (intOf i).toNat)
 case atStart=>exact ⟨0,[],by omega,rfl,uh B5,rfl,rfl,uh HJ5⟩
 case round=>
   obtain ⟨k,ys,hk,rfl,hB,hys,hyl,hJk⟩:=hrel
   clear B5 HJ5
   by_cases hlt:k<L0
   · have hki:(k:Int)<(L0:Int):=by omega
     have hkE:k<E.length:=by omega
     have l1:=hasAt_of_range (n:=2) (ent_range hB.b0 k hkE) rfl
     have l2:=cellsAt_of_range (n:=2) (ent_range hB.b0 k hkE) rfl
     have hpk:=hPk k (by omega)
     have htk:(E.take (k+1)).map (·.first)=(E.take k).map (·.first)++[(E.getD k ze).first]:=by
       rw [List.take_succ_eq_append_getElem hkE,List.map_append,List.getD_eq_getElem?_getD,List.getElem?_eq_getElem hkE];rfl
     have Htk:=hide htk
     generalize E.getD k ze=p at*
     have hJa:J (⟨num (cl V.C 0) 6,hP0⟩ :: ys) (wr.alloc (.cells (ev p).toArray 142)):=hJ.alloc _ hJk
     have hBa:=hide (hB.below ((Below.refl _ _).alloc (Nat.le_refl _) (.cells (ev p).toArray 142)))
     have c5:(wr.alloc (.cells (ev p).toArray 142)).cell? ⟨wr.heap.size,1,none⟩=some (.int .i64 (p.first:Nat)):=(cell_new wr _ _ _ 1).trans rfl
     obtain ⟨fn2,tmps2,assign2,body2,hy2,hR2⟩:=hY _ ⟨p.first,hpk⟩ _ hJa (by simp;omega)
     dsimp only at hy2
     clear htk hJk hJa hB
     generalize p.first=pf at*
     gi_wp2
     refine ⟨fun _=>by omega,hR2.mono ?_⟩
     rintro e W6 ⟨rfl,hJ6,hK6⟩
     have B6:=hide ((uh hBa).keep (fun _ _ a b=>SameNum.trans a b) hK6)
     clear hK6 hBa hR2 hy2
     gi_wp2
     go_roundw
     case rel=>exact ⟨k+1,ys++[⟨pf,hpk⟩],by omega,by go_num,uh B6,by rw [uh Htk,List.map_append,hys];rfl,by simp;omega,by rw [List.cons_append] at hJ6;exact hJ6⟩
     case measure=>simp [intOf];omega
   · have hkL:k=L0:=by omega
     subst hkL
     gi_wp2
     go_end0
     exact ⟨⟨_,rfl⟩,_,by rw [uh Hfo,List.map_cons,hys],hJk⟩
end Go.Proofs.YtknjjjenklfeoaaGreatDoor
namespace Go.Proofs.YtknjjjenklfeoaaGreatDoor
open Go.RowKit Go.Shelf
attribute [local go_sem ↓] loadVar_clus storeVar_clus zeroValue_clus loadVar_tab storeVar_tab zeroValue_tab loadVar_cnt storeVar_cnt zeroValue_cnt loadVar_head storeVar_head zeroValue_head build_head buildSlice_clus loadVar_wr storeVar_wr zeroValue_wr build_wr buildSlice_wr equalIn_clus loadVar_place storeVar_place zeroValue_place build_place loadVar_lst storeVar_lst zeroValue_lst storeVar_ent build_ent
attribute [local go_sem] run_loadClus run_storeClus run_zeroClus run_storeClus_new run_loadClus_new zc_length run_loadTab run_storeTab run_zeroTab run_storeTab_new run_loadTab_new zt_length run_loadCnt run_storeCnt run_zeroCnt run_storeCnt_new run_loadCnt_new zk_length run_loadHead run_storeHead run_zeroHead run_storeHead_new run_bHead HasAt_drew cellsAt_drew HasAt_drewN cellsAt_drewN run_bsClus run_loadWr run_zeroWr run_storeWr run_storeWr_new run_bWr0 run_bsWr run_loadPlace run_storePlace run_zeroPlace run_storePlace_new run_bPlace run_loadLst run_storeLst run_zeroLst run_storeLst_new run_storeEnt run_bEnt
attribute [local go_sem] field_head1 field_head0 Oper.semAt_some
def loneOf (k:List UInt8) (n:Nat):Nat:=if byteAt k (n%32768)=1 then n%32768+32768 else n
theorem loneOf_marks (k:List UInt8):Marks (loneOf k):=by
 intro n hn h0 h6
 unfold loneOf
 split <;> omega
theorem lone_changes (k:List UInt8) (hk:k.length=256) (bk M:Nat) (hM:M≤256):Changes 167 #[.pointer (some ⟨bk,0,none⟩)] [(bk,.cells (cv k).toArray 123 (0,0))] (loneOf k) M:=by
 intro W n hcb hn h0 hc
 have hb:=hcb (bk,.cells (cv k).toArray 123 (0,0)) (by simp)
 have Hc:=hide (cluster_of n hn W)
 have HL:Hid (loneOf k n=if byteAt k (n%32768)=1 then n%32768+32768 else n):=rfl
 have c1:W.cell? ⟨bk,n%32768,none⟩=some (.int .u8 (byteAt k (n%32768):Nat)):=by rw [cell_blk hb,List.getElem?_toArray,cv_get _ _ (by omega)]
 have Ho:=hide (own_of (n%32768) (by omega) W)
 have hbl:=byteAt_lt k (n%32768)
 have hci:((n%32768:Nat):Int)<256:=by omega
 clear hcb hb
 generalize byteAt k (n%32768)=bb at*
 generalize n%32768=cc at*
 by_cases h1:bb=1
 · rw [if_pos h1] at HL
   subst h1
   go_enter Tryz.func167,Tryz.ntmps167
   go_wp2_with fail
   refine (uh Hc).mono ?_
   rintro e w1 ⟨rfl,rfl⟩
   go_wp2_with fail
   refine (uh Ho).mono ?_
   rintro e w1 ⟨rfl,rfl⟩
   go_wp2
   go_ret
   exact ⟨by rw [uh HL];rfl,rfl⟩
 · rw [if_neg h1] at HL
   have d1:(((bb:Nat):Int) == 1)=false:=by rw [beq_eq_false_iff_ne];omega
   go_enter Tryz.func167,Tryz.ntmps167
   go_wp2_with fail
   refine (uh Hc).mono ?_
   rintro e w1 ⟨rfl,rfl⟩
   go_wp2
   go_ret
   exact ⟨by rw [uh HL];rfl,rfl⟩
def FirstOK (V:VolR) (t:Nat):Prop:=TabOK V t∧NumsOK (TabOK V) V.C t
theorem SameNum.tabOKs {A B:VolR} (h:SameNum A B) (k:SameNum B A):TabOK B=TabOK A:=by
 funext t
 exact propext ⟨fun x=>k.tabOK x,fun x=>h.tabOK x⟩
theorem SameNum.symm {A B:VolR} (h:SameNum A B):SameNum B A:=⟨h.len.symm,fun t ht=>(h.low t ht).symm,fun t i hi=>(h.zero t i hi).symm,fun t i hi=>(h.same t i hi).symm⟩
theorem SameNum.firstOK {A B:VolR} (h:SameNum A B) {t:Nat} (ht:FirstOK A t):FirstOK B t:=by
 unfold FirstOK
 rw [h.tabOKs h.symm]
 exact ⟨ht.1,h.ok ht.2⟩
theorem tabs_ok {V:VolR} {f:Nat} (hf:FirstOK V f): ∀ t ∈ tabsOf V f,TabOK V t:=by
 intro t ht
 unfold tabsOf at ht
 rcases List.mem_cons.1 ht with rfl | ht
 · exact hf.1
 · unfold toldBy at ht
   obtain ⟨n,hn,rfl⟩:=List.mem_map.1 ht
   obtain ⟨hn1,hn2⟩:=List.mem_filter.1 hn
   obtain ⟨i,hi,rfl⟩:=List.mem_iff_getElem.1 hn1
   have:=(hf.2 i).2
   rw [List.getD_eq_getElem?_getD,List.getElem?_eq_getElem hi] at this
   exact this (by simpa using hn2)
def loneV (k:List UInt8) (V:VolR) (fs:List Nat):VolR:=fs.foldl (fun V f=>renumV (loneOf k) V (tabsOf V f)) V
theorem loneV_snoc (k:List UInt8) (V:VolR) (fs:List Nat) (f:Nat):loneV k V (fs++[f])=renumV (loneOf k) (loneV k V fs) (tabsOf (loneV k V fs) f):=by simp [loneV]
theorem loneV_same (k:List UInt8): ∀ (fs:List Nat) (V:VolR),(∀ f ∈ fs,FirstOK V f)→SameNum V (loneV k V fs)
 | [],V,_=>SameNum.refl V
 | f :: fs,V,h=>by
   have h1:=renumV_same (loneOf_marks k) (tabsOf V f) V (tabs_ok (h f (by simp)))
   exact h1.trans (loneV_same k fs _ (fun x hx=>h1.firstOK (h x (by simp [hx]))))
theorem loneV_lenL (k:List UInt8): ∀ (fs:List Nat) (V:VolR),(loneV k V fs).L.length≤V.L.length+66*fs.length
 | [],_=>by simp [loneV]
 | f :: fs,V=>by
   have h1:=renumV_lenL (loneOf k) (tabsOf V f) V
   have h2:=loneV_lenL k fs (renumV (loneOf k) V (tabsOf V f))
   have h3:=tabsOf_len V f
   show (loneV k (renumV (loneOf k) V (tabsOf V f)) fs).L.length≤_
   simp only [List.length_cons]
   omega
def markLoneV (V:VolR):VolR:=loneV (cntsOf V.C) V (firstsOf V)
theorem markLone_in (w:World) (v:Nat) (Cv Lv:Value) (V:VolR) (h:VolAt w v Cv Lv V) (h5:5<V.C.length) (hC:V.C.length≤256) (hL:V.L.length≤700000000) (hF: ∀ f ∈ firstsOf V,FirstOK V f):
   CallsIn Fence.wide 100 Tryz.prog 114 #[.pointer (some ⟨v,0,none⟩)] w fun e w'=>e= .returned (.tuple #[])∧ ∃ C1 L1,VStep w w' v Cv Lv C1 L1 (markLoneV V):=by
 have E0:=(Env.start h).lay (.cells #[.pointer (some ⟨v,0,none⟩)] 82)
 have c0:(w.alloc (.cells #[.pointer (some ⟨v,0,none⟩)] 82)).cell? ⟨w.heap.size,0,none⟩=some (.pointer (some ⟨v,0,none⟩)):=(cell_blk E0.o0 0).trans rfl
 have Hc:=hide (counts_vol _ v Cv Lv V E0.at' (by omega))
 have hkl:=cntsOf_length V.C h.lenC (by omega)
 have HV:Hid (markLoneV V=loneV (cntsOf V.C) V (firstsOf V)):=rfl
 have E0:=hide E0
 clear h
 generalize cntsOf V.C=k at*
 refine callsIn_of_wp_marks Tryz.func114 rfl trivial ?_ rfl
 simp only [Tryz.ntmps114,List.size_toArray,List.length_cons,List.length_nil,Nat.reduceAdd,Nat.reduceSub,Array.replicate_succ,Array.replicate_zero,List.push_toArray,List.append_toArray,List.nil_append,List.cons_append]
 gi_wp2_with fail
 refine ⟨trivial,(callsIn_wide.2 (uh Hc)).mono ?_⟩
 rintro e W1 ⟨rfl,hb1⟩
 have E1:=((uh E0).later hb1).lay (.cells (cv k).toArray 123)
 have E1':=E1.lay (.cells #[.nilFunc] 206)
 simp only [World.size_alloc] at E1'
 have c189:((W1.alloc (.cells (cv k).toArray 123)).alloc (.cells #[.nilFunc] 206)).cell? ⟨W1.heap.size+1,0,none⟩=some .nilFunc:=(cell_blk E1'.o0 0).trans rfl
 have f189:=frozen_blk E1'.o0
 have E2:=E1'.put (o':= .cells #[.func (.func 167) #[] #[.pointer (some ⟨W1.heap.size,0,none⟩)]] 206 (0,0)) (by
   intro y hy
   simp only [List.mem_cons,List.not_mem_nil,or_false] at hy
   have h1:=blk_lt (uh E0).o0
   have h2:=hb1.size
   rcases hy with rfl | rfl
   · dsimp only;omega
   · dsimp only;omega) (Kept.only _ (W1.heap.size+1) 0 (.func (.func 167) #[] #[.pointer (some ⟨W1.heap.size,0,none⟩)])) (heap_setCell_same _ _ _ _ _ _ _ E1'.o0)
 generalize hW2:World.setCell _ ⟨W1.heap.size+1,0,none⟩ (.func (.func 167) #[] #[.pointer (some ⟨W1.heap.size,0,none⟩)])=W2 at E2
 have hst:(store ⟨W1.heap.size+1,0,none⟩ (.func (.func 167) #[] #[.pointer (some ⟨W1.heap.size,0,none⟩)])).run Tryz.prog ((W1.alloc (.cells (cv k).toArray 123)).alloc (.cells #[.nilFunc] 206))= .ok () W2:=by
   rw [run_store Tryz.prog _ _ _ _ rfl,c189]
   simp [f189,hW2]
 have c2:W2.cell? ⟨w.heap.size,0,none⟩=some (.pointer (some ⟨v,0,none⟩)):=(cell_blk E2.o2 0).trans rfl
 have Hm:=hide (firsts_make W2 v)
 have E3:=hide (E2.lay (.cells #[.pointer (some ⟨v,0,none⟩)] 82))
 clear E2 E1'
 clear E1 Hc E0 c0 hb1
 gi_wp2_with fail
 refine ⟨trivial,(callsIn_wide.2 (uh Hm)).mono ?_⟩
 rintro e W2' ⟨rfl,rfl⟩
 gi_wp2_with fail
 clear c2 Hm hW2 c189 f189 hst
 generalize W2.alloc (.cells #[.pointer (some ⟨v,0,none⟩)] 82)=W3 at*
 have hs3:w.heap.size≤W3.heap.size:=(uh E3).step.kept.size
 have hFA:=firsts_all (Pc:=FirstOK V) 99 (by omega) (fun _=>False) v (W2.heap.size) (W3.heap.size+2) V Cv Lv W3 (uh E3).at' (uh E3).o0 id (uh E3).n0 (fun _ h=>False.elim h) h5 hF
 have E4:=hide ((uh E3).sub (cs:=[(W1.heap.size+1,.cells #[.func (.func 167) #[] #[.pointer (some ⟨W1.heap.size,0,none⟩)]] 206 (0,0)),(W1.heap.size,.cells (cv k).toArray 123 (0,0)),(w.heap.size,.cells #[.pointer (some ⟨v,0,none⟩)] 82 (0,0))]) (by simp))
 clear E3
 refine range_all (by omega) (gf:=173) (lb:= #[.pointer (some ⟨W2.heap.size,0,none⟩)]) rfl (enters_of Tryz.func173 (by kernel_rfl) rfl) hFA
   (fun A B C h k=>KeepV.trans (R:=SameNum) (fun _ _ _ a b=>a.trans b) h k) (fun W o o' hl hc=>KeepV.turn SameNum.refl W _ o o' hl hc (by omega)) (Below.refl _ _) (fun _=>rfl)
   (fun pre W'=> ∃ C1 L1,Env w W' v Cv Lv C1 L1 (loneV k V (pre.map (·.1))) [(W1.heap.size+1,.cells #[.func (.func 167) #[] #[.pointer (some ⟨W1.heap.size,0,none⟩)]] 206 (0,0)),(W1.heap.size,.cells (cv k).toArray 123 (0,0)),(w.heap.size,.cells #[.pointer (some ⟨v,0,none⟩)] 82 (0,0))])
   (fun _ _ _ _ hs hg hr=>by obtain ⟨C1,L1,hE⟩:=hs;exact ⟨C1,L1,Env.turned hE hs3 (by simp [Obj.isCells]) hg hr⟩)
   ⟨Cv,Lv,uh E4⟩
   (fun x a' _=>a'={ tmps:= #[.pointer (some ⟨v,0,none⟩),.pointer (some ⟨w.heap.size,0,none⟩),.pointer (some ⟨W1.heap.size,0,none⟩),.pointer (some ⟨W1.heap.size+1,0,none⟩),.int .i64 ((x.1:Nat):Int),.pointer (some ⟨v,0,none⟩),.agg (cv k).toArray,.func (.func 167) #[] #[.pointer (some ⟨W1.heap.size,0,none⟩)],.pointer (some ⟨v,0,none⟩),.func (.func 173) #[] #[.pointer (some ⟨W2.heap.size,0,none⟩)],.int .i64 ((x.1:Nat):Int),undef,undef,undef,undef],defers:=[] })
   (fun _ _ _ _ _ _ hs _ _=>hs)
   ?assign ?body ?done
 case assign=>
   rintro l pre x W' K hi hK
   gi_wp2
   exact hK _ _ (KeepsFrom.refl _ _) (KeepV.below SameNum.refl (Below.refl _ _)) hi rfl
 case done=>
   rintro D ys W' hD hS ⟨C1,L1,hE⟩ hK
   gi_wp2
   refine ⟨by simp,.inl ⟨_,_,rfl,run_takeDeferred hK,?_⟩⟩
   have hg:=grownBy_putObj' W' D (.deferred none)
   have hk:Kept (fun k=>k=D) W' (W'.putObj D (.deferred none)):=⟨hg.os,hg.tape,hg.output,hg.size,fun k hk hs=>hg.block k hk (fun e=>hs (by injection e))⟩
   refine ⟨_,results_none rfl _ _ _,rfl,C1,L1,?_⟩
   rw [uh HV,← hS]
   exact hE.step.own hk (by rintro k rfl;exact ⟨by omega,hE.at'.notCells hK rfl⟩)
 case body=>
   rintro l pre x a' W hl ⟨r,hr⟩ ⟨C1,L1,hE⟩ rfl hlen
   have hall: ∀ t ∈ pre.map (·.1),FirstOK V t:=by
     intro t ht
     obtain ⟨y,_,rfl⟩:=List.mem_map.1 ht
     exact y.2
   have hS1:=loneV_same k (pre.map (·.1)) V hall
   have hlL:=loneV_lenL k (pre.map (·.1)) V
   rw [List.length_map] at hlL
   have hx1:=hS1.firstOK x.2
   have hsn2:loneV k V (pre.unattach++[x.1])=renumV (loneOf k) (loneV k V (pre.map (·.1))) (tabsOf (loneV k V (pre.map (·.1))) x.1):=loneV_snoc k V (pre.map fun y:UM (FirstOK V)=>y.1) x.1
   have hS2:=renumV_same (loneOf_marks k) (tabsOf (loneV k V (pre.map (·.1))) x.1) _ (tabs_ok hx1)
   have hlen1:(loneV k V (pre.map (·.1))).C.length=V.C.length:=hS1.len
   generalize loneV k V (pre.map (·.1))=V1 at*
   obtain ⟨x,hxo⟩:=x
   dsimp only at*
   have c0:W.cell? ⟨w.heap.size,0,none⟩=some (.pointer (some ⟨v,0,none⟩)):=(cell_blk hE.o2 0).trans rfl
   have c1:W.cell? ⟨W1.heap.size+1,0,none⟩=some (.func (.func 167) #[] #[.pointer (some ⟨W1.heap.size,0,none⟩)]):=(cell_blk hE.o0 0).trans rfl
   have Hr:=hide (callsIn_wide.1 (renumber_in W v C1 L1 V1 hE.at' x hx1.1 hx1.2 (by omega) (by omega) 167 #[.pointer (some ⟨W1.heap.size,0,none⟩)] [(W1.heap.size,.cells (cv k).toArray 123 (0,0))] (loneOf k) (loneOf_marks k) (lone_changes k hkl W1.heap.size _ (by omega)) (enters_of Tryz.func167 (by kernel_rfl) rfl) (by
     intro y hy
     simp only [List.mem_cons,List.not_mem_nil,or_false] at hy
     subst hy
     exact ⟨hE.o1,hE.n1⟩)))
   have HE:=hide hE
   clear hE hFA E4
   gi_wp2_with fail
   refine ⟨trivial,(CallsIn.inRound l (callsIn_wide.2 (uh Hr))).mono ?_⟩
   rintro e W5 ⟨rfl,C5,L5,hS5⟩
   gi_wp2
   refine ⟨VStep.from (uh HE).at' hS5 _,KeepV.step (uh HE).at' hS5 hS2,C5,L5,?_⟩
   first
     | exact (uh HE).does hS5
     | (rw [hsn2];exact (uh HE).does hS5)
end Go.Proofs.YtknjjjenklfeoaaGreatDoor
