import Derived.Test.YtknjjjenklfeoaaGreatDoorT23
import Derived.Test.YtknjjjenklfeoaaGreatDoorT17
import Derived.Test.YtknjjjenklfeoaaGreatDoorT08
import Derived.Test.YtknjjjenklfeoaaGreatDoorT04
import Derived.Test.YtknjjjenklfeoaaGreatDoorT06
set_option maxHeartbeats 8000000
set_option maxRecDepth 100000
namespace Go.Proofs.YtknjjjenklfeoaaGreatDoor
open Go.RowKit
attribute [local go_sem ↓] loadVar_clus storeVar_clus zeroValue_clus loadVar_tab storeVar_tab zeroValue_tab loadVar_cnt storeVar_cnt zeroValue_cnt loadVar_head storeVar_head zeroValue_head build_head buildSlice_clus loadVar_wr storeVar_wr zeroValue_wr build_wr buildSlice_wr equalIn_clus loadVar_place storeVar_place zeroValue_place build_place loadVar_lst storeVar_lst zeroValue_lst storeVar_ent build_ent
attribute [local go_sem] run_loadClus run_storeClus run_zeroClus run_storeClus_new run_loadClus_new zc_length run_loadTab run_storeTab run_zeroTab run_storeTab_new run_loadTab_new zt_length run_loadCnt run_storeCnt run_zeroCnt run_storeCnt_new run_loadCnt_new zk_length run_loadHead run_storeHead run_zeroHead run_storeHead_new run_bHead HasAt_drew cellsAt_drew HasAt_drewN cellsAt_drewN run_bsClus run_loadWr run_zeroWr run_storeWr run_storeWr_new run_bWr0 run_bsWr run_loadPlace run_storePlace run_zeroPlace run_storePlace_new run_bPlace run_loadLst run_storeLst run_zeroLst run_storeLst_new run_storeEnt run_bEnt
attribute [local go_sem] field_head1 field_head0 Oper.semAt_some
attribute [local go_sem ↓] loadVar_ent zeroValue_ent
attribute [local go_sem] run_loadEnt run_zeroEnt run_storeEnt_new
theorem run_copy_wide {P:Program} (w:World) (dT sT ty elem:TypeId) (sz b o dLen dCap:Nat) (a:Addr) (sLen sCap:Nat) (cs:List Value)
   (hu:P.underlying dT=some (.slice elem)) (hs:(P.info? elem).map (·.size)=some sz) (hn:cs.length=Nat.min sLen dLen*sz)
   (hsrc: ∀ j v,cs[j]? = some v→w.cell? (a.add j)=some v) (hc: ∀ j,j<cs.length→(w.cell? ⟨b,o+j,none⟩).isSome=true) (hf: ∀ j,j<cs.length→w.frozen? ⟨b,o+j,none⟩=false) (h1: ∀ v ∈ cs,v.oneCell'=true):
   (Builtin.copy_ #[dT,sT] ty #[.slice (some ⟨b,o,none⟩) dLen dCap,.slice (some a) sLen sCap]).run P w= .ok (goInt (Nat.min sLen dLen:Nat)) (w.setCells b o cs):=by
 have hl:=run_loadCells_list (P:=P) w a cs hsrc
 have hst:=run_storeCells_cells (P:=P) b o cs 0 w (by simpa using hc) (by simpa using hf) h1
 cases hq:P.info? elem with
 | none=>simp [hq] at hs
 | some i=>
   have hi:i.size=sz:=by simpa [hq] using hs
   simp [Builtin.copy_,run_underlying hu,Builtin.lenOf,Builtin.firstCells,Go.sizeOf,typeInfo,hq,hi,← hn,hl,hst]
theorem with_any (w:World) (E:List EntR) (hE:E.length=4) (p:EntR) (hl:lenOf E<4):
   Calls Tryz.prog 89 #[.agg (lv E).toArray,.agg (ev p).toArray] w fun e w'=>e= .returned (.agg (lv (E.set (lenOf E) p)).toArray)∧Below w.heap.size w w':=by
 have L0:=Locs.three w (.cells (lv E).toArray 144) (.cells (ev p).toArray 142) (.cells (lv zl).toArray 144)
 have l1:=blk_has L0.drew.o0 (n:=8) (by rw [lv_length,hE])
 have l2:=blk_cells L0.drew.o0 (n:=8) (by rw [lv_length,hE])
 have l3:=blk_has L0.drew.o1 (n:=2) (by simp [ev])
 have l4:=blk_cells L0.drew.o1 (n:=2) (by simp [ev])
 have Hl:=hide (len_any ((((w.alloc (.cells (lv E).toArray 144)).alloc (.cells (ev p).toArray 142)).alloc (.cells (lv zl).toArray 144)).drew) E hE)
 have hki:((lenOf E:Nat):Int)<4:=by omega
 have hset:=lv_setList E (lenOf E) (by omega) p
 have hsl:(E.set (lenOf E) p).length=4:=by rw [List.length_set,hE]
 have L0:=hide L0
 generalize hkk:lenOf E=k at*
 go_enter Tryz.func89,Tryz.ntmps89
 go_wp2
 go_region_law (go_simp
                go_at_call 85
                refine (uh Hl).mono ?_
                rintro e w2 ⟨rfl,hb2⟩
                have L2:=(uh L0).drew.later hb2
                have th:=there_blk L2.o0 (k*2) 2 (by rw [List.size_toArray,lv_length,hE];omega)
                have m3:=blk_has L2.o1 (n:=2) (by simp [ev])
                have m4:=blk_cells L2.o1 (n:=2) (by simp [ev])
                have L2:=hide L2)
 all_goals
   have L3:=(uh L2).setCells 0 rfl (k*2) (ev p)
   rw [Nat.add_zero] at L3
   generalize w2.setCells w.heap.size (k*2) (ev p)=w3 at*
   rw [Nat.mul_comm k 2,hset] at L3
   simp only [List.set_cons_zero] at L3
   have n1:=blk_has L3.o0 (n:=8) (by rw [lv_length,hsl])
   have n2:=blk_cells L3.o0 (n:=8) (by rw [lv_length,hsl])
   have th2:=there_blk L3.o2 0 8 (by simp [lv_length,zl])
   have L4:=L3.setCells 2 rfl 0 (lv (E.set k p))
   rw [setList_all _ _ (by simp [lv_length,zl,hE])] at L4
   simp only [List.set_cons_zero,List.set_cons_succ] at L4
   have n3:=blk_has L4.o2 (n:=8) (by rw [lv_length,hsl])
   have n4:=blk_cells L4.o2 (n:=8) (by rw [lv_length,hsl])
   have HB:=hide L4.below
   clear L4 L3 L2 hb2 th m3 m4 l1 l2 l3 l4 Hl hset
   go_wp2
   refine bodyPost_ret (results_cell Tryz.results89 ⟨w.heap.size+1+1,0,none⟩ rfl ?_) rfl ⟨rfl,uh HB⟩
   rw [loadVar_lst,run_loadLst n3,n4]
def lessE (E:List EntR) (i:Nat):List EntR:=E.eraseIdx i++[ze]
theorem run_bEnt0 (w:World):(bEnt #[]).run Tryz.prog w= .ok (.agg (ev ze).toArray) w:=by kernel_rfl
attribute [local go_sem] run_bEnt0
theorem without_any (w:World) (E:List EntR) (hE:E.length=4) (i:Nat) (hi:i<4):
   Calls Tryz.prog 112 #[.agg (lv E).toArray,.int .i64 (i:Nat)] w fun e w'=>e= .returned (.agg (lv (lessE E i)).toArray)∧Below w.heap.size w w':=by
 match E,hE with
 | [e0,e1,e2,e3],_=>
 have L0:=(Locs.two w (.cells (lv [e0,e1,e2,e3]).toArray 144) (.cells (lv zl).toArray 144)).drew
 rcases (show i=0∨i=1∨i=2∨i=3 by omega) with rfl | rfl | rfl | rfl
 · have hcp:=run_copy_wide (P:=Tryz.prog) _ 160 160 3 142 2 w.heap.size 0 4 4 ⟨w.heap.size,2,none⟩ 3 3 (lv [e1,e2,e3]) Tryz.underlying160 (by kernel_rfl) (by simp [lv,ev])
     (fun j v hv=>by rw [show (⟨w.heap.size,2,none⟩:Addr).add j=⟨w.heap.size,2+j,none⟩ by simp [Addr.add];try omega];rw [cell_blk L0.o0,List.getElem?_toArray];simpa [lv,ev,Nat.add_comm] using hv)
     (fun j hj=>by rw [cell_blk L0.o0,List.getElem?_toArray,List.getElem?_eq_getElem (by simp [lv,ev] at hj ⊢;try omega)];rfl) (fun j _=>frozen_blk L0.o0 _) (lv_one _)
   have L1:=L0.setCells 0 rfl 0 (lv [e1,e2,e3])
   rw [Nat.add_zero,show setList (lv [e0,e1,e2,e3]).toArray 0 (lv [e1,e2,e3])=(lv [e1,e2,e3,e3]).toArray from rfl] at L1
   simp only [List.set_cons_zero] at L1
   generalize hW1:World.setCells _ w.heap.size 0 (lv [e1,e2,e3])=W1 at*
   have th1:=there_blk L1.o0 6 2 (by simp [lv_length])
   have L2:=L1.setCells 0 rfl 6 (ev ze)
   rw [Nat.add_zero,show setList (lv [e1,e2,e3,e3]).toArray 6 (ev ze)=(lv (lessE [e0,e1,e2,e3] 0)).toArray from rfl] at L2
   simp only [List.set_cons_zero] at L2
   have n1:=blk_has L2.o0 (n:=8) (by simp [lv_length,lessE])
   have n2:=blk_cells L2.o0 (n:=8) (by simp [lv_length,lessE])
   have th2:=there_blk L2.o1 0 8 (by simp [lv_length,zl])
   have L3:=L2.setCells 1 rfl 0 (lv (lessE [e0,e1,e2,e3] 0))
   rw [setList_all _ _ (by simp [lv_length,zl,lessE])] at L3
   simp only [List.set_cons_zero,List.set_cons_succ] at L3
   have n3:=blk_has L3.o1 (n:=8) (by simp [lv_length,lessE])
   have n4:=blk_cells L3.o1 (n:=8) (by simp [lv_length,lessE])
   have hll:(lessE [e0,e1,e2,e3] 0).length=4:=rfl
   have HB:=hide L3.below
   clear L3 L2 L1 L0
   generalize lessE [e0,e1,e2,e3] 0=F at*
   simp only [Nat.min_def,goInt] at hcp
   go_enter Tryz.func112,Tryz.ntmps112
   go_wp2
   go_region
   go_wp2
   refine bodyPost_ret (results_cell Tryz.results112 ⟨w.heap.size+1,0,none⟩ rfl ?_) rfl ⟨rfl,uh HB⟩
   rw [loadVar_lst,run_loadLst n3,n4]
 · have hcp:=run_copy_wide (P:=Tryz.prog) _ 160 160 3 142 2 w.heap.size 2 3 3 ⟨w.heap.size,4,none⟩ 2 2 (lv [e2,e3]) Tryz.underlying160 (by kernel_rfl) (by simp [lv,ev])
     (fun j v hv=>by rw [show (⟨w.heap.size,4,none⟩:Addr).add j=⟨w.heap.size,4+j,none⟩ by simp [Addr.add];try omega];rw [cell_blk L0.o0,List.getElem?_toArray];simpa [lv,ev,Nat.add_comm] using hv)
     (fun j hj=>by rw [cell_blk L0.o0,List.getElem?_toArray,List.getElem?_eq_getElem (by simp [lv,ev] at hj ⊢;try omega)];rfl) (fun j _=>frozen_blk L0.o0 _) (lv_one _)
   have L1:=L0.setCells 0 rfl 2 (lv [e2,e3])
   rw [Nat.add_zero,show setList (lv [e0,e1,e2,e3]).toArray 2 (lv [e2,e3])=(lv [e0,e2,e3,e3]).toArray from rfl] at L1
   simp only [List.set_cons_zero] at L1
   generalize hW1:World.setCells _ w.heap.size 2 (lv [e2,e3])=W1 at*
   have th1:=there_blk L1.o0 6 2 (by simp [lv_length])
   have L2:=L1.setCells 0 rfl 6 (ev ze)
   rw [Nat.add_zero,show setList (lv [e0,e2,e3,e3]).toArray 6 (ev ze)=(lv (lessE [e0,e1,e2,e3] 1)).toArray from rfl] at L2
   simp only [List.set_cons_zero] at L2
   have n1:=blk_has L2.o0 (n:=8) (by simp [lv_length,lessE])
   have n2:=blk_cells L2.o0 (n:=8) (by simp [lv_length,lessE])
   have th2:=there_blk L2.o1 0 8 (by simp [lv_length,zl])
   have L3:=L2.setCells 1 rfl 0 (lv (lessE [e0,e1,e2,e3] 1))
   rw [setList_all _ _ (by simp [lv_length,zl,lessE])] at L3
   simp only [List.set_cons_zero,List.set_cons_succ] at L3
   have n3:=blk_has L3.o1 (n:=8) (by simp [lv_length,lessE])
   have n4:=blk_cells L3.o1 (n:=8) (by simp [lv_length,lessE])
   have hll:(lessE [e0,e1,e2,e3] 1).length=4:=rfl
   have HB:=hide L3.below
   clear L3 L2 L1 L0
   generalize lessE [e0,e1,e2,e3] 1=F at*
   simp only [Nat.min_def,goInt] at hcp
   go_enter Tryz.func112,Tryz.ntmps112
   go_wp2
   go_region
   go_wp2
   refine bodyPost_ret (results_cell Tryz.results112 ⟨w.heap.size+1,0,none⟩ rfl ?_) rfl ⟨rfl,uh HB⟩
   rw [loadVar_lst,run_loadLst n3,n4]
 · have hcp:=run_copy_wide (P:=Tryz.prog) _ 160 160 3 142 2 w.heap.size 4 2 2 ⟨w.heap.size,6,none⟩ 1 1 (lv [e3]) Tryz.underlying160 (by kernel_rfl) (by simp [lv,ev])
     (fun j v hv=>by rw [show (⟨w.heap.size,6,none⟩:Addr).add j=⟨w.heap.size,6+j,none⟩ by simp [Addr.add];try omega];rw [cell_blk L0.o0,List.getElem?_toArray];simpa [lv,ev,Nat.add_comm] using hv)
     (fun j hj=>by rw [cell_blk L0.o0,List.getElem?_toArray,List.getElem?_eq_getElem (by simp [lv,ev] at hj ⊢;try omega)];rfl) (fun j _=>frozen_blk L0.o0 _) (lv_one _)
   have L1:=L0.setCells 0 rfl 4 (lv [e3])
   rw [Nat.add_zero,show setList (lv [e0,e1,e2,e3]).toArray 4 (lv [e3])=(lv [e0,e1,e3,e3]).toArray from rfl] at L1
   simp only [List.set_cons_zero] at L1
   generalize hW1:World.setCells _ w.heap.size 4 (lv [e3])=W1 at*
   have th1:=there_blk L1.o0 6 2 (by simp [lv_length])
   have L2:=L1.setCells 0 rfl 6 (ev ze)
   rw [Nat.add_zero,show setList (lv [e0,e1,e3,e3]).toArray 6 (ev ze)=(lv (lessE [e0,e1,e2,e3] 2)).toArray from rfl] at L2
   simp only [List.set_cons_zero] at L2
   have n1:=blk_has L2.o0 (n:=8) (by simp [lv_length,lessE])
   have n2:=blk_cells L2.o0 (n:=8) (by simp [lv_length,lessE])
   have th2:=there_blk L2.o1 0 8 (by simp [lv_length,zl])
   have L3:=L2.setCells 1 rfl 0 (lv (lessE [e0,e1,e2,e3] 2))
   rw [setList_all _ _ (by simp [lv_length,zl,lessE])] at L3
   simp only [List.set_cons_zero,List.set_cons_succ] at L3
   have n3:=blk_has L3.o1 (n:=8) (by simp [lv_length,lessE])
   have n4:=blk_cells L3.o1 (n:=8) (by simp [lv_length,lessE])
   have hll:(lessE [e0,e1,e2,e3] 2).length=4:=rfl
   have HB:=hide L3.below
   clear L3 L2 L1 L0
   generalize lessE [e0,e1,e2,e3] 2=F at*
   simp only [Nat.min_def,goInt] at hcp
   go_enter Tryz.func112,Tryz.ntmps112
   go_wp2
   go_region
   go_wp2
   refine bodyPost_ret (results_cell Tryz.results112 ⟨w.heap.size+1,0,none⟩ rfl ?_) rfl ⟨rfl,uh HB⟩
   rw [loadVar_lst,run_loadLst n3,n4]
 · have hcp:=run_copy_wide (P:=Tryz.prog) _ 160 160 3 142 2 w.heap.size 6 1 1 ⟨w.heap.size,0,none⟩ 0 0 (lv []) Tryz.underlying160 (by kernel_rfl) (by simp [lv])
     (fun j v hv=>by simp [lv] at hv) (fun j hj=>by simp [lv] at hj) (fun j _=>frozen_blk L0.o0 _) (lv_one _)
   have L1:=L0.setCells 0 rfl 6 (lv [])
   rw [Nat.add_zero,show setList (lv [e0,e1,e2,e3]).toArray 6 (lv [])=(lv [e0,e1,e2,e3]).toArray from rfl] at L1
   simp only [List.set_cons_zero] at L1
   generalize hW1:World.setCells _ w.heap.size 6 (lv [])=W1 at*
   have th1:=there_blk L1.o0 6 2 (by simp [lv_length])
   have L2:=L1.setCells 0 rfl 6 (ev ze)
   rw [Nat.add_zero,show setList (lv [e0,e1,e2,e3]).toArray 6 (ev ze)=(lv (lessE [e0,e1,e2,e3] 3)).toArray from rfl] at L2
   simp only [List.set_cons_zero] at L2
   have n1:=blk_has L2.o0 (n:=8) (by simp [lv_length,lessE])
   have n2:=blk_cells L2.o0 (n:=8) (by simp [lv_length,lessE])
   have th2:=there_blk L2.o1 0 8 (by simp [lv_length,zl])
   have L3:=L2.setCells 1 rfl 0 (lv (lessE [e0,e1,e2,e3] 3))
   rw [setList_all _ _ (by simp [lv_length,zl,lessE])] at L3
   simp only [List.set_cons_zero,List.set_cons_succ] at L3
   have n3:=blk_has L3.o1 (n:=8) (by simp [lv_length,lessE])
   have n4:=blk_cells L3.o1 (n:=8) (by simp [lv_length,lessE])
   have hll:(lessE [e0,e1,e2,e3] 3).length=4:=rfl
   have HB:=hide L3.below
   clear L3 L2 L1 L0
   generalize lessE [e0,e1,e2,e3] 3=F at*
   simp only [Nat.min_def,goInt] at hcp
   go_enter Tryz.func112,Tryz.ntmps112
   go_wp2
   go_region
   go_wp2
   refine bodyPost_ret (results_cell Tryz.results112 ⟨w.heap.size+1,0,none⟩ rfl ?_) rfl ⟨rfl,uh HB⟩
   rw [loadVar_lst,run_loadLst n3,n4]
end Go.Proofs.YtknjjjenklfeoaaGreatDoor
namespace Go.Proofs.YtknjjjenklfeoaaGreatDoor
open Go.RowKit
attribute [local go_sem ↓] loadVar_clus storeVar_clus zeroValue_clus loadVar_tab storeVar_tab zeroValue_tab loadVar_cnt storeVar_cnt zeroValue_cnt loadVar_head storeVar_head zeroValue_head build_head buildSlice_clus loadVar_wr storeVar_wr zeroValue_wr build_wr buildSlice_wr equalIn_clus loadVar_place storeVar_place zeroValue_place build_place loadVar_lst storeVar_lst zeroValue_lst storeVar_ent build_ent
attribute [local go_sem] run_loadClus run_storeClus run_zeroClus run_storeClus_new run_loadClus_new zc_length run_loadTab run_storeTab run_zeroTab run_storeTab_new run_loadTab_new zt_length run_loadCnt run_storeCnt run_zeroCnt run_storeCnt_new run_loadCnt_new zk_length run_loadHead run_storeHead run_zeroHead run_storeHead_new run_bHead HasAt_drew cellsAt_drew HasAt_drewN cellsAt_drewN run_bsClus run_loadWr run_zeroWr run_storeWr run_storeWr_new run_bWr0 run_bsWr run_loadPlace run_storePlace run_zeroPlace run_storePlace_new run_bPlace run_loadLst run_storeLst run_zeroLst run_storeLst_new run_storeEnt run_bEnt
attribute [local go_sem] field_head1 field_head0 Oper.semAt_some
attribute [local go_sem ↓] loadVar_ent zeroValue_ent
attribute [local go_sem] run_loadEnt run_zeroEnt run_storeEnt_new
attribute [local go_sem] field_ent0 field_ent1
def putBytes (c:Clus) (o:Nat) (s:List UInt8):Clus:=c.take o++s++c.drop (o+s.length)
theorem putBytes_length (c:Clus) (o:Nat) (s:List UInt8) (h:o+s.length≤c.length):(putBytes c o s).length=c.length:=by
 simp [putBytes];omega
theorem putBytes_cells (c:Clus) (o:Nat) (s:List UInt8) (h:o+s.length≤c.length):setList (cv c).toArray o (cv s)=(cv (putBytes c o s)).toArray:=by
 have e:c=c.take o++(c.drop o).take s.length++c.drop (o+s.length):=by
   rw [List.append_assoc,← List.drop_drop,List.take_append_drop,List.take_append_drop]
 have h2:=setList_mid (cv (c.take o)) (cv ((c.drop o).take s.length)) (cv s) (cv (c.drop (o+s.length))) (by simp [cv_length];omega)
 rw [← cv_append,← cv_append,← cv_append,← cv_append,← e,cv_length,List.length_take,Nat.min_eq_left (by omega)] at h2
 exact h2
theorem byteAt_putBytes (c:Clus) (o:Nat) (s:List UInt8) (h:o+s.length≤c.length) (i:Nat):byteAt (putBytes c o s) i=if o≤i∧i<o+s.length then byteAt s (i - o) else byteAt c i:=by
 have hl:(c.take o).length=o:=by rw [List.length_take];omega
 unfold byteAt putBytes
 simp only [List.getD_eq_getElem?_getD]
 by_cases h1:i<o
 · rw [List.append_assoc,List.getElem?_append_left (by omega),if_neg (by omega),List.getElem?_take,if_pos h1]
 · by_cases h2:i<o+s.length
   · rw [List.append_assoc,List.getElem?_append_right (by omega),hl,List.getElem?_append_left (by omega),if_pos ⟨by omega,h2⟩]
   · rw [List.getElem?_append_right (by rw [List.length_append];omega),if_neg (by omega),List.getElem?_drop,List.length_append,hl]
     congr 3;omega
theorem byteAt_putN (c:Clus) (k n m:Nat) (hk:k+1<c.length) (hn:n<65536):byteAt (putNum c k n) m=if m=k then n / 256 else if m=k+1 then n%256 else byteAt c m:=by
 unfold putNum
 rw [byteAt_set _ _ _ _ (by rw [List.length_set];exact hk),byteAt_set _ _ _ _ (by omega),toNat_ofNat _ (by omega),toNat_ofNat _ (by omega)]
 by_cases h1:m=k
 · rw [if_neg (by omega),if_pos h1.symm,if_pos h1]
 · rw [if_neg h1]
   by_cases h2:m=k+1
   · rw [if_pos h2.symm,if_pos h2]
   · rw [if_neg (fun e=>h2 e.symm),if_neg (fun e=>h1 e.symm),if_neg h2]
def listTo (L:List EntR):Nat→Clus
 | 0=>zc
 | k+1=>putNum (putBytes (listTo L k) (16*k+2) (L.getD k ze).name) (16*k) (L.getD k ze).first
def Short (L:List EntR):Prop:= ∀ k,(L.getD k ze).name.length≤12∧(L.getD k ze).first<65536
theorem listTo_length {L:List EntR} (h:Short L): ∀ k,k≤4→(listTo L k).length=64
 | 0,_=>zc_length
 | k+1,hk=>by
   have h1:=listTo_length h k (by omega)
   have h2:=(h k).1
   rw [listTo,putNum_length,putBytes_length _ _ _ (by omega),h1]
theorem byteAt_zc (i:Nat):byteAt zc i=0:=by
 unfold byteAt zc
 rw [List.getD_eq_getElem?_getD,List.getElem?_replicate]
 split <;> rfl
theorem byteAt_name (e:EntR) (he:e.first<65536) (j:Nat):byteAt (entBytes e) j=if j=0 then e.first / 256 else if j=1 then e.first%256 else byteAt e.name (j - 2):=by
 match j with
 | 0=>simp only [if_true];unfold byteAt entBytes;simp only [List.getD_cons_zero];exact toNat_ofNat _ (by omega)
 | 1=>simp only [if_true];rw [if_neg (by decide)];unfold byteAt entBytes;simp only [List.getD_cons_succ,List.getD_cons_zero];exact toNat_ofNat _ (by omega)
 | k+2=>rw [if_neg (by omega),if_neg (by omega)];unfold byteAt;rw [entBytes_name];rfl
theorem byteAt_listTo {L:List EntR} (h:Short L): ∀ k,k≤4→ ∀ i j,j<16→byteAt (listTo L k) (16*i+j)=if i<k then byteAt (entBytes (L.getD i ze)) j else 0
 | 0,_,i,j,_=>by rw [if_neg (by omega)];exact byteAt_zc _
 | k+1,hk,i,j,hj=>by
   have h1:=listTo_length h k (by omega)
   obtain ⟨h2,h3⟩:=h k
   have ih:=byteAt_listTo h k (by omega) i j hj
   have hz: ∀ m,12≤m→byteAt (L.getD k ze).name m=0:=fun m hm=>by
     unfold byteAt
     rw [List.getD_eq_getElem?_getD,List.getElem?_eq_none (by omega)];rfl
   rw [listTo,byteAt_putN _ _ _ _ (by rw [putBytes_length _ _ _ (by omega),h1];omega) h3,byteAt_putBytes _ _ _ (by omega),ih]
   by_cases e:i=k
   · subst e
     rw [if_pos (show i<i+1 by omega),byteAt_name _ h3]
     by_cases j0:j=0
     · rw [if_pos (by omega),if_pos j0]
     · by_cases j1:j=1
       · rw [if_neg (by omega),if_pos (by omega),if_neg j0,if_pos j1]
       · rw [if_neg (by omega),if_neg (by omega),if_neg j0,if_neg j1]
         by_cases jl:j<2+(L.getD i ze).name.length
         · rw [if_pos ⟨by omega,by omega⟩];congr 1;omega
         · rw [if_neg (by omega),if_neg (by omega)]
           unfold byteAt
           rw [List.getD_eq_getElem?_getD,List.getElem?_eq_none (by omega)];rfl
   · rw [if_neg (by omega),if_neg (by omega),if_neg (by omega)]
     by_cases hik:i<k
     · rw [if_pos hik,if_pos (by omega)]
     · rw [if_neg hik,if_neg (by omega)]
theorem bytes_ext {a b:Clus} (hl:a.length=b.length) (h: ∀ i,i<a.length→byteAt a i=byteAt b i):a=b:=by
 apply List.ext_getElem hl
 intro i h1 h2
 have:=h i h1
 unfold byteAt at this
 rw [List.getD_eq_getElem?_getD,List.getD_eq_getElem?_getD,List.getElem?_eq_getElem h1,List.getElem?_eq_getElem h2] at this
 exact UInt8.toNat_inj.1 this
theorem EntsOK.short4 {E:List EntR} (h:EntsOK E):Short (pad4 E):=fun k=>by
 refine ⟨?_,h.lt k⟩
 rcases h.at k with e | ⟨_,e⟩
 · rw [e];decide
 · exact e.le
theorem EntsOK.clus {E:List EntR} (h:EntsOK E):listTo (pad4 E) 4=listBytes E:=by
 refine bytes_ext (by rw [listTo_length h.short4 4 (by omega),h.length]) fun i hi=> ?_
 rw [listTo_length h.short4 4 (by omega)] at hi
 have h1:=byteAt_listTo h.short4 4 (by omega) (i / 16) (i%16) (by omega)
 rw [show 16*(i / 16)+i%16=i by omega,if_pos (by omega)] at h1
 rw [h1]
 have h2:=h.get (i / 16) (by omega) (i%16) (by omega)
 rw [show 16*(i / 16)+i%16=i by omega] at h2
 unfold byteAt
 rw [h2]
theorem run_copy_name (w:World) (b o m:Nat) (t:TypeId) (c:Clus) (hc:c.length=64) (hb:w.heap[b]? = some (.cells (cv c).toArray t (0,0))) (s:List UInt8) (hs:s.length≤12) (ho:o+12≤64):
   (Builtin.copy_ #[73,9] 3 #[.slice (some ⟨b,o,none⟩) 12 m,.string (txt s)]).run Tryz.prog w= .ok (.int .i64 (s.length:Nat)) (w.setCells b o (cv s)):=by
 have hz:(txt s).size=s.length:=by simp [txt,ByteArray.size]
 have h:=run_copy_string (P:=Tryz.prog) w 73 9 3 5 b o 12 m (txt s) Tryz.underlying73
   (run_sizeOf Tryz.sizeByte) (by rw [hz];exact hs) (fun j hj=>by rw [cell_blk hb,List.getElem?_toArray,cv_get _ _ (by rw [hc];omega)];rfl) (fun j _=>frozen_blk hb _)
 rw [h,hz];rfl
theorem listCluster_any (w:World) (L:List EntR) (hL:L.length=4) (hs:Short L):
   Calls Tryz.prog 148 #[.agg (lv L).toArray] w fun e w'=>e= .returned (.agg (cv (listTo L 4)).toArray)∧Below w.heap.size w w':=by
 have L0:=hide (Locs.three w (.cells (lv L).toArray 144) (.cells (cv zc).toArray 38) (.cells (cv zc).toArray 38))
 have l1:=blk_has (uh L0).o0 (n:=8) (by rw [lv_length,hL])
 have l2:=blk_cells (uh L0).o0 (n:=8) (by rw [lv_length,hL])
 go_enter Tryz.func148,Tryz.ntmps148
 go_wp2
 clear l1 l2
 go_loopw [4,5,6,8] (fun _ _ _ i w'=> ∃ k:Nat,k≤4∧i= .int .i64 k∧Locs w w' [.cells (lv L).toArray 144,.cells (cv zc).toArray 38,.cells (cv (listTo L k)).toArray 38]) (fun _ _ _ i _=>4 - (intOf i).toNat)
 case atStart=>exact ⟨0,by omega,rfl,uh L0⟩
 case round=>
   obtain ⟨k,hk,rfl,hLo⟩:=hrel
   clear L0
   by_cases hlt:k<4
   · rcases (show k=0∨k=1∨k=2∨k=3 by omega) with rfl | rfl | rfl | rfl
     · have hll:=listTo_length hs 0 (by omega)
       obtain ⟨hn12,hf⟩:=hs 0
       have hix:(Instr.index 144 (.agg (lv L).toArray) (.int .i64 0)).run Tryz.prog wr= .ok (.agg (ev (L.getD 0 ze)).toArray) wr:=run_index_lst wr L hL 0 (by omega)
       have HE:Hid (listTo L 1=putNum (putBytes (listTo L 0) 2 (L.getD 0 ze).name) 0 (L.getD 0 ze).first):=rfl
       generalize L.getD 0 ze=ent at*
       have hset:=putBytes_cells (listTo L 0) 2 ent.name (by omega)
       have hpl:=putBytes_length (listTo L 0) 2 ent.name (by omega)
       have La:=hLo.alloc (.cells (ev ent).toArray 142)
       have b1:(wr.alloc (.cells (ev ent).toArray 142)).drew.heap[wr.heap.size]? = some (.cells (ev ent).toArray 142 (0,0)):=heap_alloc_new _ _
       have c1:(wr.alloc (.cells (ev ent).toArray 142)).drew.cell? ⟨wr.heap.size,0,none⟩=some (.string (txt ent.name)):=(cell_blk b1 0).trans rfl
       have hcp:=run_copy_name _ _ 2 62 _ _ hll La.drew.o2 ent.name hn12 (by omega)
       have L1:=La.drew.setCells 2 rfl 2 (cv ent.name)
       rw [hset] at L1
       simp only [List.set_cons_succ,List.set_cons_zero] at L1
       have hne:wr.heap.size≠w.heap.size+1+1:=by have:=hLo.lt (i:=2) rfl;omega
       have b2:((wr.alloc (.cells (ev ent).toArray 142)).drew.setCells (w.heap.size+1+1) 2 (cv ent.name)).heap[wr.heap.size]? = some (.cells (ev ent).toArray 142 (0,0)):=(Kept.onlys _ (w.heap.size+1+1) 2 (cv ent.name)).blk hne b1
       have c2:((wr.alloc (.cells (ev ent).toArray 142)).drew.setCells (w.heap.size+1+1) 2 (cv ent.name)).cell? ⟨wr.heap.size,1,none⟩=some (.int .i64 (ent.first:Nat)):=(cell_blk b2 1).trans rfl
       have L1:=hide L1
       clear La hLo b1 b2
       generalize hW1:(wr.alloc (.cells (ev ent).toArray 142)).drew.setCells (w.heap.size+1+1) 2 (cv ent.name)=W1 at*
       have Hp:=hide (putNumber_any W1 _ _ _ (uh L1).o2 (hpl.trans hll) 0 ent.first (by omega) hf)
       have ew:IntKind.u16.wrap (ent.first:Int)=ent.first:=wraps_u16 _ (by omega) (by omega)
       have HE2:Hid (txt ent.name=txt ent.name):=rfl
       go_wp2
       go_region
       go_wp2_with fail
       refine (uh Hp).mono ?_
       rintro e w2 ⟨rfl,hb2,hk2⟩
       have L2:=(uh L1).put 2 _ hk2 hb2
       simp only [List.set_cons_succ,List.set_cons_zero] at L2
       rw [← uh HE] at L2
       have L2:=hide L2
       clear L1 Hp hb2 hk2 hcp c1 c2 hix hW1
       go_wp2
       go_roundw
       case rel=>exact ⟨1,by omega,by go_num,uh L2⟩
       case measure=>simp [intOf]
     · have hll:=listTo_length hs 1 (by omega)
       obtain ⟨hn12,hf⟩:=hs 1
       have hix:(Instr.index 144 (.agg (lv L).toArray) (.int .i64 1)).run Tryz.prog wr= .ok (.agg (ev (L.getD 1 ze)).toArray) wr:=run_index_lst wr L hL 1 (by omega)
       have HE:Hid (listTo L 2=putNum (putBytes (listTo L 1) 18 (L.getD 1 ze).name) 16 (L.getD 1 ze).first):=rfl
       generalize L.getD 1 ze=ent at*
       have hset:=putBytes_cells (listTo L 1) 18 ent.name (by omega)
       have hpl:=putBytes_length (listTo L 1) 18 ent.name (by omega)
       have La:=hLo.alloc (.cells (ev ent).toArray 142)
       have b1:(wr.alloc (.cells (ev ent).toArray 142)).drew.heap[wr.heap.size]? = some (.cells (ev ent).toArray 142 (0,0)):=heap_alloc_new _ _
       have c1:(wr.alloc (.cells (ev ent).toArray 142)).drew.cell? ⟨wr.heap.size,0,none⟩=some (.string (txt ent.name)):=(cell_blk b1 0).trans rfl
       have hcp:=run_copy_name _ _ 18 46 _ _ hll La.drew.o2 ent.name hn12 (by omega)
       have L1:=La.drew.setCells 2 rfl 18 (cv ent.name)
       rw [hset] at L1
       simp only [List.set_cons_succ,List.set_cons_zero] at L1
       have hne:wr.heap.size≠w.heap.size+1+1:=by have:=hLo.lt (i:=2) rfl;omega
       have b2:((wr.alloc (.cells (ev ent).toArray 142)).drew.setCells (w.heap.size+1+1) 18 (cv ent.name)).heap[wr.heap.size]? = some (.cells (ev ent).toArray 142 (0,0)):=(Kept.onlys _ (w.heap.size+1+1) 18 (cv ent.name)).blk hne b1
       have c2:((wr.alloc (.cells (ev ent).toArray 142)).drew.setCells (w.heap.size+1+1) 18 (cv ent.name)).cell? ⟨wr.heap.size,1,none⟩=some (.int .i64 (ent.first:Nat)):=(cell_blk b2 1).trans rfl
       have L1:=hide L1
       clear La hLo b1 b2
       generalize hW1:(wr.alloc (.cells (ev ent).toArray 142)).drew.setCells (w.heap.size+1+1) 18 (cv ent.name)=W1 at*
       have Hp:=hide (putNumber_any W1 _ _ _ (uh L1).o2 (hpl.trans hll) 16 ent.first (by omega) hf)
       have ew:IntKind.u16.wrap (ent.first:Int)=ent.first:=wraps_u16 _ (by omega) (by omega)
       have HE2:Hid (txt ent.name=txt ent.name):=rfl
       go_wp2
       go_region
       go_wp2_with fail
       refine (uh Hp).mono ?_
       rintro e w2 ⟨rfl,hb2,hk2⟩
       have L2:=(uh L1).put 2 _ hk2 hb2
       simp only [List.set_cons_succ,List.set_cons_zero] at L2
       rw [← uh HE] at L2
       have L2:=hide L2
       clear L1 Hp hb2 hk2 hcp c1 c2 hix hW1
       go_wp2
       go_roundw
       case rel=>exact ⟨2,by omega,by go_num,uh L2⟩
       case measure=>simp [intOf]
     · have hll:=listTo_length hs 2 (by omega)
       obtain ⟨hn12,hf⟩:=hs 2
       have hix:(Instr.index 144 (.agg (lv L).toArray) (.int .i64 2)).run Tryz.prog wr= .ok (.agg (ev (L.getD 2 ze)).toArray) wr:=run_index_lst wr L hL 2 (by omega)
       have HE:Hid (listTo L 3=putNum (putBytes (listTo L 2) 34 (L.getD 2 ze).name) 32 (L.getD 2 ze).first):=rfl
       generalize L.getD 2 ze=ent at*
       have hset:=putBytes_cells (listTo L 2) 34 ent.name (by omega)
       have hpl:=putBytes_length (listTo L 2) 34 ent.name (by omega)
       have La:=hLo.alloc (.cells (ev ent).toArray 142)
       have b1:(wr.alloc (.cells (ev ent).toArray 142)).drew.heap[wr.heap.size]? = some (.cells (ev ent).toArray 142 (0,0)):=heap_alloc_new _ _
       have c1:(wr.alloc (.cells (ev ent).toArray 142)).drew.cell? ⟨wr.heap.size,0,none⟩=some (.string (txt ent.name)):=(cell_blk b1 0).trans rfl
       have hcp:=run_copy_name _ _ 34 30 _ _ hll La.drew.o2 ent.name hn12 (by omega)
       have L1:=La.drew.setCells 2 rfl 34 (cv ent.name)
       rw [hset] at L1
       simp only [List.set_cons_succ,List.set_cons_zero] at L1
       have hne:wr.heap.size≠w.heap.size+1+1:=by have:=hLo.lt (i:=2) rfl;omega
       have b2:((wr.alloc (.cells (ev ent).toArray 142)).drew.setCells (w.heap.size+1+1) 34 (cv ent.name)).heap[wr.heap.size]? = some (.cells (ev ent).toArray 142 (0,0)):=(Kept.onlys _ (w.heap.size+1+1) 34 (cv ent.name)).blk hne b1
       have c2:((wr.alloc (.cells (ev ent).toArray 142)).drew.setCells (w.heap.size+1+1) 34 (cv ent.name)).cell? ⟨wr.heap.size,1,none⟩=some (.int .i64 (ent.first:Nat)):=(cell_blk b2 1).trans rfl
       have L1:=hide L1
       clear La hLo b1 b2
       generalize hW1:(wr.alloc (.cells (ev ent).toArray 142)).drew.setCells (w.heap.size+1+1) 34 (cv ent.name)=W1 at*
       have Hp:=hide (putNumber_any W1 _ _ _ (uh L1).o2 (hpl.trans hll) 32 ent.first (by omega) hf)
       have ew:IntKind.u16.wrap (ent.first:Int)=ent.first:=wraps_u16 _ (by omega) (by omega)
       have HE2:Hid (txt ent.name=txt ent.name):=rfl
       go_wp2
       go_region
       go_wp2_with fail
       refine (uh Hp).mono ?_
       rintro e w2 ⟨rfl,hb2,hk2⟩
       have L2:=(uh L1).put 2 _ hk2 hb2
       simp only [List.set_cons_succ,List.set_cons_zero] at L2
       rw [← uh HE] at L2
       have L2:=hide L2
       clear L1 Hp hb2 hk2 hcp c1 c2 hix hW1
       go_wp2
       go_roundw
       case rel=>exact ⟨3,by omega,by go_num,uh L2⟩
       case measure=>simp [intOf]
     · have hll:=listTo_length hs 3 (by omega)
       obtain ⟨hn12,hf⟩:=hs 3
       have hix:(Instr.index 144 (.agg (lv L).toArray) (.int .i64 3)).run Tryz.prog wr= .ok (.agg (ev (L.getD 3 ze)).toArray) wr:=run_index_lst wr L hL 3 (by omega)
       have HE:Hid (listTo L 4=putNum (putBytes (listTo L 3) 50 (L.getD 3 ze).name) 48 (L.getD 3 ze).first):=rfl
       generalize L.getD 3 ze=ent at*
       have hset:=putBytes_cells (listTo L 3) 50 ent.name (by omega)
       have hpl:=putBytes_length (listTo L 3) 50 ent.name (by omega)
       have La:=hLo.alloc (.cells (ev ent).toArray 142)
       have b1:(wr.alloc (.cells (ev ent).toArray 142)).drew.heap[wr.heap.size]? = some (.cells (ev ent).toArray 142 (0,0)):=heap_alloc_new _ _
       have c1:(wr.alloc (.cells (ev ent).toArray 142)).drew.cell? ⟨wr.heap.size,0,none⟩=some (.string (txt ent.name)):=(cell_blk b1 0).trans rfl
       have hcp:=run_copy_name _ _ 50 14 _ _ hll La.drew.o2 ent.name hn12 (by omega)
       have L1:=La.drew.setCells 2 rfl 50 (cv ent.name)
       rw [hset] at L1
       simp only [List.set_cons_succ,List.set_cons_zero] at L1
       have hne:wr.heap.size≠w.heap.size+1+1:=by have:=hLo.lt (i:=2) rfl;omega
       have b2:((wr.alloc (.cells (ev ent).toArray 142)).drew.setCells (w.heap.size+1+1) 50 (cv ent.name)).heap[wr.heap.size]? = some (.cells (ev ent).toArray 142 (0,0)):=(Kept.onlys _ (w.heap.size+1+1) 50 (cv ent.name)).blk hne b1
       have c2:((wr.alloc (.cells (ev ent).toArray 142)).drew.setCells (w.heap.size+1+1) 50 (cv ent.name)).cell? ⟨wr.heap.size,1,none⟩=some (.int .i64 (ent.first:Nat)):=(cell_blk b2 1).trans rfl
       have L1:=hide L1
       clear La hLo b1 b2
       generalize hW1:(wr.alloc (.cells (ev ent).toArray 142)).drew.setCells (w.heap.size+1+1) 50 (cv ent.name)=W1 at*
       have Hp:=hide (putNumber_any W1 _ _ _ (uh L1).o2 (hpl.trans hll) 48 ent.first (by omega) hf)
       have ew:IntKind.u16.wrap (ent.first:Int)=ent.first:=wraps_u16 _ (by omega) (by omega)
       have HE2:Hid (txt ent.name=txt ent.name):=rfl
       go_wp2
       go_region
       go_wp2_with fail
       refine (uh Hp).mono ?_
       rintro e w2 ⟨rfl,hb2,hk2⟩
       have L2:=(uh L1).put 2 _ hk2 hb2
       simp only [List.set_cons_succ,List.set_cons_zero] at L2
       rw [← uh HE] at L2
       have L2:=hide L2
       clear L1 Hp hb2 hk2 hcp c1 c2 hix hW1
       go_wp2
       go_roundw
       case rel=>exact ⟨4,by omega,by go_num,uh L2⟩
       case measure=>simp [intOf]
   · have hk4:k=4:=by omega
     subst hk4
     have b1:=hLo.o1
     have b2:=hLo.o2
     have hbl:=listTo_length hs 4 (by omega)
     have l1:=box_has b2 hbl
     have l2:=box_cells b2 hbl
     have th:=there_blk b1 0 64 (by simp [cv_length,zc_length])
     have hset:=hLo.setCells 1 rfl 0 (cv (listTo L 4))
     rw [setList_all _ _ (by simp [cv_length,zc_length,hbl])] at hset
     have o1:=hset.o1
     have l3:=box_has o1 hbl
     have l4:=box_cells o1 hbl
     have HB:=hide hset.below
     clear hLo b1 b2 hset o1
     go_wp2
     refine bodyPost_ret (results_cell Tryz.results148 ⟨w.heap.size+1,0,none⟩ rfl ?_) rfl ⟨rfl,uh HB⟩
     rw [loadVar_clus,run_loadClus l3,l4]
end Go.Proofs.YtknjjjenklfeoaaGreatDoor
namespace Go.Proofs.YtknjjjenklfeoaaGreatDoor
open Go.RowKit
attribute [local go_sem ↓] loadVar_clus storeVar_clus zeroValue_clus loadVar_tab storeVar_tab zeroValue_tab loadVar_cnt storeVar_cnt zeroValue_cnt loadVar_head storeVar_head zeroValue_head build_head buildSlice_clus loadVar_wr storeVar_wr zeroValue_wr build_wr buildSlice_wr equalIn_clus loadVar_place storeVar_place zeroValue_place build_place loadVar_lst storeVar_lst zeroValue_lst storeVar_ent build_ent
attribute [local go_sem] run_loadClus run_storeClus run_zeroClus run_storeClus_new run_loadClus_new zc_length run_loadTab run_storeTab run_zeroTab run_storeTab_new run_loadTab_new zt_length run_loadCnt run_storeCnt run_zeroCnt run_storeCnt_new run_loadCnt_new zk_length run_loadHead run_storeHead run_zeroHead run_storeHead_new run_bHead HasAt_drew cellsAt_drew HasAt_drewN cellsAt_drewN run_bsClus run_loadWr run_zeroWr run_storeWr run_storeWr_new run_bWr0 run_bsWr run_loadPlace run_storePlace run_zeroPlace run_storePlace_new run_bPlace run_loadLst run_storeLst run_zeroLst run_storeLst_new run_storeEnt run_bEnt
attribute [local go_sem] field_head1 field_head0 Oper.semAt_some
attribute [local go_sem ↓] loadVar_ent zeroValue_ent
attribute [local go_sem] run_loadEnt run_zeroEnt run_storeEnt_new
theorem putList_any (w:World) (v:Nat) (Cv Lv:Value) (V:VolR) (h:VolAt w v Cv Lv V) (L:List EntR) (hl4:L.length=4) (hs:Short L) (hC:V.C.length≤1000) (hL:V.L.length≤900000000):
   Calls Tryz.prog 88 #[.pointer (some ⟨v,0,none⟩),.agg (lv L).toArray] w fun e w'=>e= .returned (.tuple #[])∧ ∃ Cv' Lv',VStep w w' v Cv Lv Cv' Lv' (putV V 5 (listTo L 4)):=by
 have E0:=(Env.start h).lay (.cells (lv L).toArray 144)
 have l1:=blk_has E0.drew.o0 (n:=8) (by rw [lv_length,hl4])
 have l2:=blk_cells E0.drew.o0 (n:=8) (by rw [lv_length,hl4])
 have hbl:=listTo_length hs 4 (by omega)
 have Hp:=hide (listCluster_any (w.alloc (.cells (lv L).toArray 144)).drew L hl4 hs)
 have Hpu:Hid (∀ W C1 L1,VolAt W v C1 L1 V→_):=fun W C1 L1 hW=>put_any W v C1 L1 V hW 5 (by omega) (listTo L 4) hbl (by omega) (by omega)
 have HE:=hide E0
 clear E0 h
 generalize listTo L 4=c at*
 go_enter Tryz.func88,Tryz.ntmps88
 go_wp2
 go_region_law (first
   | (go_simp
      go_at_call 148
      refine (uh Hp).mono ?_
      rintro e w1 ⟨rfl,hb1⟩
      have E1:=hide ((uh HE).drew.later hb1))
   | (go_simp
      go_at_call 70
      refine (uh Hpu _ _ _ (uh E1).at').mono ?_
      rintro e w2 ⟨rfl,C2,L2,hS⟩
      have E2:=hide ((uh E1).does hS).step
      clear hS))
 all_goals
   go_end0
   exact ⟨rfl,C2,L2,uh E2⟩
theorem Tryz.infoStr:(Tryz.prog.info? 9).map (fun i=>(i.zero,i.size,i.bytes))=some (some (.string ⟨#[]⟩),1,16):=by kernel_rfl
def sv (N:List (List UInt8)):List Value:=N.map fun s=> .string (txt s)
theorem sv_snoc (N:List (List UInt8)) (s:List UInt8):sv (N++[s])=sv N++[.string (txt s)]:=by simp [sv]
def namesTo (E:List EntR) (k:Nat):List (List UInt8):=(E.take k).map (·.name)
theorem namesTo_len (E:List EntR) (k:Nat) (hk:k≤E.length):(namesTo E k).length=k:=by simp [namesTo];omega
theorem namesTo_succ (E:List EntR) (k:Nat) (hk:k<E.length):namesTo E (k+1)=namesTo E k++[(E.getD k ze).name]:=by
 unfold namesTo
 rw [List.take_succ_eq_append_getElem hk,List.map_append,List.getD_eq_getElem?_getD,List.getElem?_eq_getElem hk];rfl
theorem strs_ne {w:World} {b base n:Nat} {x:Value} {xs:List Value} {cs:Array Value} (hr:w.ownsRow base 9 1 x n xs) (hb:w.heap[b]? = some (.cells cs 144 (0,0))): ∀ g,x.ownBlock=some g→g≠b:=by
 obtain ⟨_,h2⟩:=hr
 rcases h2 with ⟨rfl,_⟩ | ⟨g',cap',cur,rfl,_,h3,_⟩
 · intro g hg;cases hg
 · intro g hg e
   simp only [Value.ownBlock,Option.some.injEq] at hg
   rw [hg,e,hb] at h3
   cases h3
theorem volList_any (w:World) (v:Nat) (Cv Lv:Value) (V:VolR) (h:VolAt w v Cv Lv V) (h5:5<V.C.length):
   Calls Tryz.prog 51 #[.pointer (some ⟨v,0,none⟩)] w fun e w'=> ∃ x,e= .returned x∧w'.ownsRow w.heap.size 9 1 x (lenOf (entsOf (cl V.C 5))) (sv (namesTo (entsOf (cl V.C 5)) (lenOf (entsOf (cl V.C 5)))))∧Below w.heap.size w w':=by
 obtain ⟨i0,hi0,hz0,hz1,hz2⟩:=info_parts Tryz.infoStr
 have Hl:=hide (list_vol w v Cv Lv V h h5)
 have hel:=entsOf_length (cl V.C 5)
 have hle:=lenOf_le (entsOf (cl V.C 5))
 have Hle:Hid (∀ W,_):=fun W=>len_any W (entsOf (cl V.C 5)) hel
 have zll:zl.length=4:=rfl
 clear h
 generalize entsOf (cl V.C 5)=E at*
 generalize lenOf E=n0 at*
 have hli:(n0:Int)≤4:=by omega
 go_enter Tryz.func51,Tryz.ntmps51
 go_wp2_with fail
 refine (uh Hl).mono ?_
 rintro e w1 ⟨rfl,hb1⟩
 have hw1:=hb1.size
 have B1:=hide (hb1.alloc hb1.size (.cells (lv E).toArray 144))
 have b1:(w1.alloc (.cells (lv E).toArray 144)).heap[w1.heap.size]? = some (.cells (lv E).toArray 144 (0,0)):=heap_alloc_new _ _
 have l1:=blk_has b1 (n:=8) (by rw [lv_length,hel])
 have l2:=blk_cells b1 (n:=8) (by rw [lv_length,hel])
 have b1:=hide b1
 clear hb1 Hl
 go_wp2_with fail
 refine (uh Hle _).mono ?_
 rintro e w2 ⟨rfl,hb2⟩
 have hb2s:w1.heap.size<w2.heap.size:=by have:=hb2.size;simp at this;omega
 have B2:=hide ((uh B1).trans (hb2.mono (uh B1).size))
 have b2:=hide ((hb2.block _ (blk_lt (uh b1))).trans (uh b1))
 clear hb2 Hle B1 b1 l1 l2
 go_wp2
 go_loopw [3,6,13] (fun f _ i w'=> ∃ k:Nat,k≤n0∧i= .int .i64 k∧w'.ownsRow w.heap.size 9 1 f k (sv (namesTo E k))∧Below w.heap.size w w'∧w'.heap[w1.heap.size]? = some (.cells (lv E).toArray 144 (0,0))) (fun _ _ i _=>n0 - (intOf i).toNat)
 case atStart=>exact ⟨0,by omega,rfl,World.ownsRow_nil _ _ _ _,uh B2,uh b2⟩
 case round=>
   obtain ⟨k,hk,rfl,hrow,hb,hbx⟩:=hrel
   obtain ⟨fa,fcap,rfl⟩:=row_form hrow
   by_cases hlt:k<n0
   · have hki:(k:Int)<(n0:Int):=by omega
     have hkE:k<E.length:=by omega
     have l1:=hasAt_of_range (n:=2) (ent_range hbx k hkE) rfl
     have l2:=cellsAt_of_range (n:=2) (ent_range hbx k hkE) rfl
     have hs:=namesTo_succ E k hkE
     have hnl:=namesTo_len E k (by omega)
     generalize E.getD k ze=p at*
     have c5:(wr.alloc (.cells (ev p).toArray 142)).cell? ⟨wr.heap.size,0,none⟩=some (.string (txt p.name)):=(cell_new wr _ _ _ 0).trans rfl
     have Hrow:=hide (hrow.alloc (.cells (ev p).toArray 142))
     have Hb:=hide (hb.alloc hb.size (.cells (ev p).toArray 142))
     have Hbx:Hid ((wr.alloc (.cells (ev p).toArray 142)).heap[w1.heap.size]? = some (.cells (lv E).toArray 144 (0,0))):=(heap_alloc_old _ _ (blk_lt hbx)).trans hbx
     have hne: ∀ g,(Value.slice fa k fcap).ownBlock=some g→g≠w1.heap.size:=strs_ne hrow hbx
     clear hrow hb hbx
     generalize hwA:wr.alloc (.cells (ev p).toArray 142)=wA at*
     go_wp2_with (at_builtin;refine wpList_append_lies _ rfl _ _ _ rfl w.heap.size 9 i0 _ 1 16 Tryz.underlying34 hi0 hz0 hz1 hz2 rfl (by omega) (.slice fa k fcap) k (sv (namesTo E k)) rfl ((uh Hrow).alloc _) ⟨wA.heap.size,0,none⟩ 1 1 [.string (txt p.name)] rfl rfl (World.news_of_block (cs:= #[.string (txt p.name)]) (t:=9) (fr:=(0,0)) (heap_alloc_new wA _)) (by simp [Value.oneCell']) (by omega) (by unfold maxLen;omega) (by omega) (by have:=(uh Hb).size;simp;omega) (wA.heap.size+1) (by simp) ?_;intro g5 cap5 w5 hown5 hgrow hat hlt5)
     have S5:=hide (((uh Hb).alloc (uh Hb).size (.cells #[.string (txt p.name)] 9)).grown hgrow (by have:=(uh Hb).size;simp;omega) (fun k hk=>((uh Hrow).lt k hk).1))
     have hbx5:w5.heap[w1.heap.size]? = some (.cells (lv E).toArray 144 (0,0)):=by
       rw [hgrow.block _ (by have:=blk_lt (uh Hbx);simp;omega) (fun e=>hne _ e.symm rfl),heap_alloc_old _ _ (blk_lt (uh Hbx))]
       exact uh Hbx
     go_roundw
     case rel=>exact ⟨k+1,by omega,by go_num,by rw [hs,sv_snoc];exact hown5,uh S5,hbx5⟩
     case measure=>simp [intOf];omega
   · have hk4:k=n0:=by omega
     subst hk4
     have Hrow:=hide hrow
     have Hb:=hide hb
     clear hrow hb
     go_wp2
     go_ret
     exact ⟨_,rfl,uh Hrow,uh Hb⟩
theorem diskList_any (w:World) (d v:Nat) (Cv Lv:Value) (V:VolR) (h:DskAt w d v Cv Lv V) (h5:5<V.C.length):
   Calls Tryz.prog 21 #[.pointer (some ⟨d,0,none⟩)] w fun e w'=> ∃ x,e= .returned x∧w'.ownsRow w.heap.size 9 1 x (lenOf (entsOf (cl V.C 5))) (sv (namesTo (entsOf (cl V.C 5)) (lenOf (entsOf (cl V.C 5)))))∧Below w.heap.size w w':=by
 have Hm:=hide (made_any _ d v Cv Lv V h)
 have c0:=h.c0
 have Hw:=hide (volList_any w v Cv Lv V h.vol h5)
 clear h
 go_enter Tryz.func21,Tryz.ntmps21
 go_wp2_with fail
 refine (uh Hm).mono ?_
 rintro e w1 ⟨rfl,rfl⟩
 go_wp2_with fail
 refine (uh Hw).mono ?_
 rintro e w2 ⟨x,rfl,hx,hb⟩
 have Hx:=hide hx
 have Hb:=hide hb
 clear hx hb Hw Hm
 go_wp2
 go_ret
 exact ⟨x,rfl,uh Hx,uh Hb⟩
end Go.Proofs.YtknjjjenklfeoaaGreatDoor
