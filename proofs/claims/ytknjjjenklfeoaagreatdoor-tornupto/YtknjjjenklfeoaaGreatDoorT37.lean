import Derived.Test.YtknjjjenklfeoaaGreatDoorT36
import Derived.Test.YtknjjjenklfeoaaGreatDoorT25
import Derived.Test.YtknjjjenklfeoaaGreatDoorT03
import Derived.Test.YtknjjjenklfeoaaGreatDoorT31
set_option maxHeartbeats 8000000
set_option maxRecDepth 100000
namespace Go.Proofs.YtknjjjenklfeoaaGreatDoor
open Go.RowKit
attribute [local go_sem ↓] loadVar_clus storeVar_clus zeroValue_clus loadVar_tab storeVar_tab zeroValue_tab loadVar_cnt storeVar_cnt zeroValue_cnt loadVar_head storeVar_head zeroValue_head build_head buildSlice_clus loadVar_wr storeVar_wr zeroValue_wr build_wr buildSlice_wr equalIn_clus loadVar_place storeVar_place zeroValue_place build_place loadVar_lst storeVar_lst zeroValue_lst storeVar_ent build_ent
attribute [local go_sem] run_loadClus run_storeClus run_zeroClus run_storeClus_new run_loadClus_new zc_length run_loadTab run_storeTab run_zeroTab run_storeTab_new run_loadTab_new zt_length run_loadCnt run_storeCnt run_zeroCnt run_storeCnt_new run_loadCnt_new zk_length run_loadHead run_storeHead run_zeroHead run_storeHead_new run_bHead HasAt_drew cellsAt_drew HasAt_drewN cellsAt_drewN run_bsClus run_loadWr run_zeroWr run_storeWr run_storeWr_new run_bWr0 run_bsWr run_loadPlace run_storePlace run_zeroPlace run_storePlace_new run_bPlace run_loadLst run_storeLst run_zeroLst run_storeLst_new run_storeEnt run_bEnt
attribute [local go_sem] field_head1 field_head0 Oper.semAt_some
attribute [local go_sem ↓] loadVar_ent zeroValue_ent
attribute [local go_sem] run_loadEnt run_zeroEnt run_storeEnt_new
attribute [local go_sem ↓] equalIn_clus
def eqEnt (x y:Value):Sem Bool:=Op.equalIn 10000 142 x y
theorem equalIn_ent (x y:Value):Op.equalIn 10000 142 x y=eqEnt x y:=rfl
theorem part_ent0 (p:EntR) (w:World):(part 9 (ev p).toArray 0).run Tryz.prog w= .ok (.string (txt p.name)) w:=by
 have ha:(isAgg 9).run Tryz.prog w= .ok false w:=by unfold isAgg;rw [Sem.run_bind,run_underlying Tryz.underlying9 w];rfl
 unfold part
 rw [Sem.run_bind,ha]
 rfl
theorem part_ent1 (p:EntR) (w:World):(part 3 (ev p).toArray 1).run Tryz.prog w= .ok (.int .i64 (p.first:Nat)) w:=by
 have ha:(isAgg 3).run Tryz.prog w= .ok false w:=by unfold isAgg;rw [Sem.run_bind,run_underlying Tryz.underlying3 w];rfl
 unfold part
 rw [Sem.run_bind,ha]
 rfl
theorem run_eqEnt (p:EntR) (w:World):(eqEnt (.agg (ev p).toArray) (.agg (ev ze).toArray)).run Tryz.prog w= .ok (decide (p.name=[]) && decide (p.first=0)) w:=by
 have hs:Tryz.prog.stoodInHeld 142=false:=by kernel_rfl
 have h0:(Op.equalIn 9999 9 (.string (txt p.name)) (.string (txt ze.name))).run Tryz.prog w= .ok ((txt p.name).toList == (txt ze.name).toList) w:=run_equalIn_string (P:=Tryz.prog) w 9998 9 (txt p.name) (txt ze.name) Tryz.underlying9
 rw [txt_toList,txt_toList] at h0
 have h1:(Op.equalIn 9999 3 (.int .i64 (p.first:Nat)) (.int .i64 (ze.first:Nat))).run Tryz.prog w= .ok (((p.first:Nat):Int) == ((ze.first:Nat):Int)) w:=run_equalIn_int (P:=Tryz.prog) (w:=w) 9998 3 .i64 _ _ _ Tryz.underlying3
 show (Op.equalIn (9999+1) 142 _ _).run Tryz.prog w=_
 rw [Op.equalIn]
 simp only [Sem.run_bind,run_underlying Tryz.underlying142,Result.andThen_ok,run_program,hs,Bool.false_eq_true,if_false]
 rw [← Array.forIn_toList]
 by_cases e:p.name=[]
 · have e':(p.name == ze.name)=true:=by rw [e];rfl
   rw [e'] at h0
   rw [decide_eq_true e,Bool.true_and]
   by_cases e2:p.first=0
   · have e3:(((p.first:Nat):Int) == ((ze.first:Nat):Int))=true:=by rw [e2];rfl
     rw [e3] at h1
     rw [decide_eq_true e2]
     simp only [List.forIn_cons,List.forIn_nil,Sem.run_bind,part_ent0,part_ent1,Result.andThen_ok,h0,h1,ne_eq,String.reduceEq,not_false_eq_true,if_true,Bool.not_true,Bool.false_eq_true,if_false,Sem.run_pure]
   · have e3:(((p.first:Nat):Int) == ((ze.first:Nat):Int))=false:=by
       rw [beq_eq_false_iff_ne]
       show ((p.first:Nat):Int)≠((0:Nat):Int)
       omega
     rw [e3] at h1
     rw [decide_eq_false e2]
     simp only [List.forIn_cons,List.forIn_nil,Sem.run_bind,part_ent0,part_ent1,Result.andThen_ok,h0,h1,ne_eq,String.reduceEq,not_false_eq_true,if_true,Bool.not_true,Bool.not_false,Bool.false_eq_true,if_false,Sem.run_pure]
 · have e':(p.name == ze.name)=false:=by
     rw [beq_eq_false_iff_ne];exact e
   rw [e'] at h0
   rw [decide_eq_false e,Bool.false_and]
   simp only [List.forIn_cons,List.forIn_nil,Sem.run_bind,part_ent0,Result.andThen_ok,h0,ne_eq,String.reduceEq,not_false_eq_true,if_true,Bool.not_false,Sem.run_pure]
attribute [local go_sem ↓] equalIn_ent
attribute [local go_sem] run_bEnt0
theorem ents_short {c:Clus} (hc:c.length=64):Short (entsOf c):=fun k=>by
 rw [List.getD_eq_getElem?_getD]
 by_cases hk:k<4
 · unfold entsOf
   rw [List.getElem?_map,List.getElem?_range hk]
   refine ⟨?_,num_lt _ _⟩
   show ((nameBytes c k).take (cutLen (nameBytes c k))).length≤12
   have:=nameBytes_length c k hc hk
   rw [List.length_take]
   omega
 · rw [List.getElem?_eq_none (by rw [entsOf_length];omega)]
   exact ⟨by decide,by decide⟩
theorem checkList_any (w:World) (v:Nat) (Cv Lv:Value) (V:VolR) (h:VolAt w v Cv Lv V) (hG:Glob w) (h5:5<V.C.length):
   Calls Tryz.prog 93 #[.pointer (some ⟨v,0,none⟩)] w fun e w'=>((listGood (cl V.C 5)=true∧e= .returned .nilIface)∨(listGood (cl V.C 5)=false∧ ∃ x,isIface x∧e= .returned (faultV 5 x)))∧Below w.heap.size w w':=by
 have hc:=cl_length h.lenC h5
 have hel:=entsOf_length (cl V.C 5)
 have hsh:=ents_short hc
 have Hli:=hide (list_vol w v Cv Lv V h h5)
 have Hat:=hide (fun W (hb:Below w.heap.size w W)=>at_any W v Cv Lv V (h.below hb) 5 h5)
 have Hcl:=hide (fun W=>listCluster_any W (entsOf (cl V.C 5)) hel hsh)
 have HGd:Hid (listGood (cl V.C 5)=(decide (listTo (entsOf (cl V.C 5)) 4=cl V.C 5) && (allFrom (entGood (entsOf (cl V.C 5))) (lenOf (entsOf (cl V.C 5))) 0 && allFrom (emptyB (entsOf (cl V.C 5))) (4 - lenOf (entsOf (cl V.C 5))) (lenOf (entsOf (cl V.C 5)))))):=rfl
 have hll:(listTo (entsOf (cl V.C 5)) 4).length=64:=listTo_length hsh 4 (by omega)
 have HG:=hide hG
 clear h hG
 generalize listGood (cl V.C 5)=GG at*
 generalize cl V.C 5=c at*
 generalize entsOf c=E at*
 generalize listTo E 4=cc at*
 go_enter Tryz.func93,Tryz.ntmps93
 go_wp2_with fail
 refine (uh Hli).mono ?_
 rintro e w1 ⟨rfl,hb1⟩
 have HB1:=hide (hb1.alloc hb1.size (.cells (lv E).toArray 144))
 have HX:=hide (heap_alloc_new w1 (.cells (lv E).toArray 144))
 have zll:zl.length=4:=rfl
 clear hb1 Hli
 go_wp2_with fail
 generalize hW2:w1.alloc (.cells (lv E).toArray 144)=w2 at*
 clear hW2
 have hx0: ∀ d os,(Go.Sort.grow (redrawn w2 d) os).heap[w1.heap.size]? = some (.cells (lv E).toArray 144 (0,0)):=fun d os=>((below_regrown w2 d os).block _ (blk_lt (uh HX))).trans (uh HX)
 have k1: ∀ d os,HasAt (Go.Sort.grow (redrawn w2 d) os) w1.heap.size 0 8:=fun d os=>blk_has (hx0 d os) (by rw [lv_length,hel])
 have k2: ∀ d os,cellsAt (Go.Sort.grow (redrawn w2 d) os) w1.heap.size 0 8=lv E:=fun d os=>blk_cells (hx0 d os) (by rw [lv_length,hel])
 have Hn1:=hide (fun d os=>uh Hcl (Go.Sort.grow (redrawn w2 d) os))
 have Hn2:=hide (fun d os=>uh Hat (Go.Sort.grow (redrawn w2 d) os) ((uh HB1).trans ((below_regrown w2 d os).mono (uh HB1).size)))
 clear hx0 Hcl Hat
 by_cases hne:cc=c
 rotate_left
 · have he: ∀ w,(eqClus (.agg (cv cc).toArray) (.agg (cv c).toArray)).run Tryz.prog w= .ok false w:=fun w=>by rw [run_eqClus hll hc,decide_eq_false hne]
   have hg:GG=false:=by rw [uh HGd,decide_eq_false hne];rfl
   have Hg:=hide hg
   clear hg HGd hne
   refine wp_region_quiet_below (by kernel_rfl) (by kernel_rfl) ?_
   repeat (go_big_quiet_step (first | exact Calls.regrown_of (uh Hn1 _ _) | exact Calls.regrown_of (uh Hn2 _ _)))
   refine wpQuiet_nil ?_
   intro _ hw'
   obtain ⟨⟨dq,osq⟩,hw''⟩:=hw'
   subst hw''
   have HBq:=hide ((uh HB1).trans ((below_regrown w2 dq osq).mono (uh HB1).size))
   obtain ⟨t2,v2,g2⟩:=((uh HG).below (uh HBq)).err 2 (by omega)
   clear k1 k2 he
   go_wp2
   go_ret
   exact ⟨Or.inr ⟨uh Hg,_,⟨_,_,rfl⟩,rfl⟩,uh HBq⟩
 subst hne
 rw [decide_eq_true rfl,Bool.true_and] at HGd
 have he: ∀ w,(eqClus (.agg (cv cc).toArray) (.agg (cv cc).toArray)).run Tryz.prog w= .ok true w:=fun w=>by rw [run_eqClus hll hc,decide_eq_true rfl]
 refine wp_region_quiet_below (by kernel_rfl) (by kernel_rfl) ?_
 repeat (go_big_quiet_step (first | exact Calls.regrown_of (uh Hn1 _ _) | exact Calls.regrown_of (uh Hn2 _ _)))
 refine wpQuiet_nil ?_
 intro _ hw'
 obtain ⟨⟨dq,osq⟩,hw''⟩:=hw'
 subst hw''
 have HBq:=hide ((uh HB1).trans ((below_regrown w2 dq osq).mono (uh HB1).size))
 have HXq:=hide (((below_regrown w2 dq osq).block _ (blk_lt (uh HX))).trans (uh HX))
 have q1:=k1 dq osq
 have q2:=k2 dq osq
 clear k1 k2 he Hn1 Hn2 HX HB1 hc hll
 generalize Go.Sort.grow (redrawn w2 dq) osq=w3 at*
 have Hle:=hide (len_any w3 E hel)
 have hl4:=lenOf_le E
 go_wp2_with fail
 refine (uh Hle).mono ?_
 rintro e w4 ⟨rfl,hb4⟩
 have HB4:=hide ((uh HBq).trans (hb4.mono (uh HBq).size))
 have HX4:=hide ((hb4.block _ (blk_lt (uh HXq))).trans (uh HXq))
 clear hb4 Hle HBq HXq q1 q2
 generalize hL0:lenOf E=L0 at*
 have hli:(L0:Int)≤4:=by omega
 go_wp2
 go_loopw [5,6,26] (fun _ _ i wr=> ∃ k:Nat,k≤L0∧i= .int .i64 k∧Below w.heap.size w wr∧wr.heap[w1.heap.size]? = some (.cells (lv E).toArray 144 (0,0))∧allFrom (entGood E) k 0=true) (fun _ _ i _=>L0 - (intOf i).toNat)
 case atStart=>exact ⟨0,by omega,rfl,uh HB4,uh HX4,rfl⟩
 case round=>
   obtain ⟨k,hk,rfl,hB,hX,hA⟩:=hrel
   by_cases hlt:k<L0
   · have hki:(k:Int)<(L0:Int):=by omega
     have hkE:k<E.length:=by omega
     have l1:=hasAt_of_range (n:=2) (ent_range hX k hkE) rfl
     have l2:=cellsAt_of_range (n:=2) (ent_range hX k hkE) rfl
     have hgd:entGood E k=(isNameB (E.getD k ze).name && decide (findE E (txt (E.getD k ze).name)=(k:Int))):=rfl
     have hpl:=(hsh k).1
     generalize E.getD k ze=p at*
     have HBa:=hide (hB.alloc hB.size (.cells (ev p).toArray 142))
     have HXa:=hide ((Below.heap_alloc wr (.cells (ev p).toArray 142) _ (blk_lt hX)).trans hX)
     have c5:(wr.alloc (.cells (ev p).toArray 142)).cell? ⟨wr.heap.size,0,none⟩=some (.string (txt p.name)):=(cell_new wr _ _ _ 0).trans rfl
     have HA:=hide hA
     have Hnm:=hide (fun W=>pIsName_any (txt p.name) W (by rw [show (txt p.name).size=p.name.length by simp [txt,ByteArray.size]];exact Nat.le_trans hpl (by decide)))
     rw [show (txt p.name).data.toList=p.name from rfl] at Hnm
     have Hfi:=hide (fun W=>find_any W E hel (txt p.name))
     have hsn:=allFrom_snoc (entGood E) k 0
     rw [hA,Bool.true_and,Nat.zero_add] at hsn
     clear hA hB hX HB4 HX4 HA
     by_cases hnb:isNameB p.name=true
     · rw [hnb] at Hnm
       have q1: ∀ W,Below w.heap.size w W→W.heap[w1.heap.size]? = some (.cells (lv E).toArray 144 (0,0))→HasAt W w1.heap.size 0 8:=fun W _ hx=>blk_has hx (by rw [lv_length,hel])
       by_cases hfk:findE E (txt p.name)=(k:Int)
       · rw [hfk] at Hfi
         have hg1:allFrom (entGood E) (k+1) 0=true:=by rw [hsn,hgd,hnb,decide_eq_true hfk];rfl
         have Hg1:=hide hg1
         clear hg1 hsn hgd hnb hfk q1
         go_wp2_with fail
         refine (uh Hnm _).mono ?_
         rintro e w5 ⟨rfl,hb5⟩
         have HB5:=hide ((uh HBa).trans (hb5.mono (uh HBa).size))
         have HX5:=hide ((hb5.block _ (blk_lt (uh HXa))).trans (uh HXa))
         have d5:w5.cell? ⟨wr.heap.size,0,none⟩=some (.string (txt p.name)):=(hb5.cell (by simp)).trans c5
         have q1:=blk_has (uh HX5) (n:=8) (by rw [lv_length,hel])
         have q2:=blk_cells (uh HX5) (n:=8) (by rw [lv_length,hel])
         clear hb5 c5 l1 l2 HBa HXa Hnm
         go_wp2_with fail
         refine (uh Hfi _).mono ?_
         rintro e w6 ⟨rfl,hb6⟩
         have HB6:=hide ((uh HB5).trans (hb6.mono (uh HB5).size))
         have HX6:=hide ((hb6.block _ (blk_lt (uh HX5))).trans (uh HX5))
         clear hb6 d5 q1 q2 HB5 HX5 Hfi
         go_wp2
         go_roundw
         case rel=>exact ⟨k+1,by omega,by go_num,uh HB6,uh HX6,uh Hg1⟩
         case measure=>simp [intOf];omega
       · have hgF:GG=false:=by
           rw [uh HGd]
           have:allFrom (entGood E) L0 0=false:=by
             rw [Bool.eq_false_iff]
             intro ht
             have:=(allFrom_iff _ _ _).1 ht k (Nat.zero_le _) (by omega)
             rw [hgd,decide_eq_false hfk,Bool.and_false] at this
             cases this
           rw [this];rfl
         have Hg:=hide hgF
         have d0:(findE E (txt p.name) != (k:Int))=true:=by rw [bne_iff_ne];exact hfk
         generalize findE E (txt p.name)=fk at*
         clear hgF hsn hgd hnb hfk q1 HGd
         go_wp2_with fail
         refine (uh Hnm _).mono ?_
         rintro e w5 ⟨rfl,hb5⟩
         have HB5:=hide ((uh HBa).trans (hb5.mono (uh HBa).size))
         have HX5:=hide ((hb5.block _ (blk_lt (uh HXa))).trans (uh HXa))
         have d5:w5.cell? ⟨wr.heap.size,0,none⟩=some (.string (txt p.name)):=(hb5.cell (by simp)).trans c5
         have q1:=blk_has (uh HX5) (n:=8) (by rw [lv_length,hel])
         have q2:=blk_cells (uh HX5) (n:=8) (by rw [lv_length,hel])
         clear hb5 c5 l1 l2 HBa HXa Hnm
         go_wp2_with fail
         refine (uh Hfi _).mono ?_
         rintro e w6 ⟨rfl,hb6⟩
         have HB6:=hide ((uh HB5).trans (hb6.mono (uh HB5).size))
         obtain ⟨t2,v2,g2⟩:=((uh HG).below (uh HB6)).err 2 (by omega)
         clear hb6 d5 q1 q2 HB5 HX5 Hfi
         go_wp2
         go_ret
         exact ⟨Or.inr ⟨uh Hg,_,⟨_,_,rfl⟩,rfl⟩,uh HB6⟩
     · have hnb:isNameB p.name=false:=by simpa using hnb
       rw [hnb] at Hnm
       have hgF:GG=false:=by
         rw [uh HGd]
         have:allFrom (entGood E) L0 0=false:=by
           rw [Bool.eq_false_iff]
           intro ht
           have:=(allFrom_iff _ _ _).1 ht k (Nat.zero_le _) (by omega)
           rw [hgd,hnb,Bool.false_and] at this
           cases this
         rw [this];rfl
       have Hg:=hide hgF
       clear hgF hsn hgd hnb HGd Hfi
       go_wp2_with fail
       refine (uh Hnm _).mono ?_
       rintro e w5 ⟨rfl,hb5⟩
       have HB5:=hide ((uh HBa).trans (hb5.mono (uh HBa).size))
       obtain ⟨t2,v2,g2⟩:=((uh HG).below (uh HB5)).err 2 (by omega)
       clear hb5 c5 l1 l2 HBa HXa Hnm
       go_wp2
       go_ret
       exact ⟨Or.inr ⟨uh Hg,_,⟨_,_,rfl⟩,rfl⟩,uh HB5⟩
   · have hkL:k=L0:=by omega
     subst hkL
     rw [hA,Bool.true_and] at HGd
     have HB:=hide hB
     have HX:=hide hX
     clear hA hB hX HB4 HX4
     by_cases hk4:k=4
     · subst hk4
       rw [Nat.sub_self,allFrom] at HGd
       go_wp2
       go_loopw [8,50] (fun _ i wr=>i= .int .i64 0∧Below w.heap.size w wr) (fun _ _ _=>0)
       case atStart=>exact ⟨rfl,uh HB⟩
       case round=>
         obtain ⟨rfl,hB⟩:=hrel
         have HBl:=hide hB
         clear hB
         go_wp2
         go_ret
         exact ⟨Or.inl ⟨uh HGd,rfl⟩,uh HBl⟩
     have hk3:k<4:=by omega
     have hk5: ¬ 4 - k=0:=by omega
     go_wp2
     go_loopw [8,50] (fun _ i wr=> ∃ j:Nat,j≤4 - k∧i= .int .i64 j∧Below w.heap.size w wr∧wr.heap[w1.heap.size]? = some (.cells (lv E).toArray 144 (0,0))∧allFrom (emptyB E) j k=true) (fun _ i _=>4 - k - (intOf i).toNat)
     case atStart=>exact ⟨0,by omega,rfl,uh HB,uh HX,rfl⟩
     case round=>
       obtain ⟨j,hj,rfl,hB,hX,hA⟩:=hrel
       by_cases hjl:j<4 - k
       · have hji:(j:Int)<((4 - k:Nat):Int):=by omega
         have hjE:k+j<E.length:=by omega
         have l1:=hasAt_of_range (n:=2) (ent_range hX (k+j) hjE) rfl
         have l2:=cellsAt_of_range (n:=2) (ent_range hX (k+j) hjE) rfl
         rw [Nat.add_mul] at l1 l2
         have hgd:emptyB E (k+j)=(decide (txt (E.getD (k+j) ze).name=txt []) && decide ((E.getD (k+j) ze).first=0)):=rfl
         have hsn:=allFrom_snoc (emptyB E) j k
         rw [hA,Bool.true_and] at hsn
         have hbad:emptyB E (k+j)=false→GG=false:=fun he=>by
           rw [uh HGd,Bool.eq_false_iff]
           intro ht
           have:=(allFrom_iff _ _ _).1 ht (k+j) (by omega) (by omega)
           rw [he] at this
           cases this
         generalize emptyB E (k+j)=eb at*
         generalize E.getD (k+j) ze=p at*
         have HBa:=hide (hB.alloc hB.size (.cells (ev p).toArray 142))
         have HXa:=hide ((Below.heap_alloc wr (.cells (ev p).toArray 142) _ (blk_lt hX)).trans hX)
         have m1:=blk_has (heap_alloc_new wr (.cells (ev p).toArray 142)) (n:=2) rfl
         have m2:=blk_cells (heap_alloc_new wr (.cells (ev p).toArray 142)) (n:=2) rfl
         have hq:=run_eqEnt p (wr.alloc (.cells (ev p).toArray 142))
         have hnn:decide (txt p.name=txt [])=decide (p.name=[]):=decide_eq_decide.2 ⟨fun e=>by have:=congrArg ByteArray.toList e;rw [txt_toList,txt_toList] at this;exact this,fun e=>by rw [e]⟩
         rw [hnn] at hgd
         rw [← hgd] at hq
         have Hsn:=hide hsn
         have Hbad:=hide hbad
         clear hA hB hX HB HX hgd hnn hsn hbad
         cases eb with
         | true=>
           clear Hbad
           go_wp2
           go_roundw
           case rel=>exact ⟨j+1,by omega,by go_num,uh HBa,uh HXa,uh Hsn⟩
           case measure=>simp [intOf];omega
         | false=>
           have Hg:=hide (uh Hbad rfl)
           obtain ⟨t2,v2,g2⟩:=((uh HG).below (uh HBa)).err 2 (by omega)
           clear Hbad Hsn HGd
           go_wp2
           go_ret
           exact ⟨Or.inr ⟨uh Hg,_,⟨_,_,rfl⟩,rfl⟩,uh HBa⟩
       · have hjk:j=4 - k:=by omega
         subst hjk
         have Hg:=hide ((uh HGd).trans hA)
         have HBl:=hide hB
         clear hA hB hX HB HX HGd
         go_wp2
         go_ret
         exact ⟨Or.inl ⟨uh Hg,rfl⟩,uh HBl⟩
end Go.Proofs.YtknjjjenklfeoaaGreatDoor
namespace Go.Proofs.YtknjjjenklfeoaaGreatDoor
open Go.RowKit Go.Shelf
attribute [local go_sem ↓] loadVar_clus storeVar_clus zeroValue_clus loadVar_cnt storeVar_cnt zeroValue_cnt loadVar_head storeVar_head zeroValue_head build_head
attribute [local go_sem] run_loadClus run_storeClus run_zeroClus run_storeClus_new run_loadClus_new zc_length run_loadCnt run_storeCnt run_zeroCnt run_storeCnt_new run_loadCnt_new zk_length run_loadHead run_storeHead run_zeroHead run_storeHead_new run_bHead HasAt_drew cellsAt_drew
attribute [local go_sem ↓] loadVar_use storeVar_use zeroValue_use
attribute [local go_sem] run_loadUse run_storeUse run_storeUse_new run_zeroUse zI_length
attribute [local go_sem] field_head1 field_head0 Oper.semAt_some
theorem checkCounts_any (w:World) (v:Nat) (Cv Lv:Value) (V:VolR) (h:VolAt w v Cv Lv V) (hG:Glob w) (h5:5<V.C.length) (hC:V.C.length≤256) (hF: ∀ f ∈ firstsOf V,FirstOK V f) (hT:num (cl V.C 0) 4=V.C.length):
   Calls Tryz.prog 95 #[.pointer (some ⟨v,0,none⟩)] w fun e w'=>((countsP (usesOf V) (cntsOf V.C) V.C.length 256 0= -1∧e= .returned .nilIface)∨ ∃ (n:Nat) (x:Value),countsP (usesOf V) (cntsOf V.C) V.C.length 256 0=(n:Int)∧isIface x∧e= .returned (faultV n x))∧Below w.heap.size w w':=by
 have Hu:=hide (fun (W:World) (hB:Below w.heap.size w W)=>callsIn_wide.1 (uses_in W v Cv Lv V (h.below hB) h5 hC hF))
 have hml:(usesOf V).length=256:=useAll_length V _
 have hmm:=useAll_most (V:=V) (firstsOf V) hF
 have hfl:(firstsOf V).length≤5:=by
   unfold firstsOf picFirsts
   have:=lenOf_le (entsOf (cl V.C 5))
   simp only [List.length_cons,List.length_map,List.length_take]
   omega
 have Hh:=hide (fun (W:World) (hB:Below w.heap.size w W)=>head_vol W v Cv Lv V (h.below hB) (by omega))
 have Hc:=hide (fun (W:World) (hB:Below w.heap.size w W)=>counts_vol W v Cv Lv V (h.below hB) (by omega))
 have hcl:=cntsOf_length V.C h.lenC (by omega)
 have hMm: ∀ n,(usesOf V).getD n 0≤10000:=fun n=>by have:=hmm n;unfold usesOf;omega
 rw [hT] at Hh
 have n6:=num_lt (cl V.C 0) 6
 have HG:=hide hG
 generalize num (cl V.C 0) 6=fst at*
 generalize usesOf V=M at*
 generalize cntsOf V.C=k at*
 generalize V.C.length=cls at*
 clear h hF hmm hG hT
 go_enter Tryz.func95,Tryz.ntmps95
 go_wp2_with fail
 refine (uh Hu w (Below.refl _ _)).mono ?_
 rintro e w1 ⟨rfl,b1⟩
 have B1:=hide b1
 clear b1 Hu
 go_wp2_with fail
 refine (uh Hh w1 (uh B1)).mono ?_
 rintro e w2 ⟨rfl,b2⟩
 have B2:=hide ((uh B1).trans (b2.mono (uh B1).size))
 have X2:=hide (heap_alloc_new w2 (.cells (nv M).toArray 161))
 have B2:=hide ((uh B2).alloc (uh B2).size (.cells (nv M).toArray 161))
 clear b2 Hh B1
 go_wp2_with fail
 refine (uh Hc _ (uh B2)).mono ?_
 rintro e w3 ⟨rfl,b3⟩
 have X3:=hide ((b3.block _ (blk_lt (uh X2))).trans (uh X2))
 have B3:=hide ((uh B2).trans (b3.mono (uh B2).size))
 clear b3 Hc B2 X2
 generalize w2.heap.size=bu at*
 go_wp2
 go_loopw [5,6,14] (fun _ _ i w'=> ∃ j:Nat,j≤256∧i= .int .i64 j∧Below w.heap.size w w'∧w'.heap[bu]? = some (.cells (nv M).toArray 161 (0,0))∧countsP M k cls 256 0=countsP M k cls (256 - j) j) (fun _ _ i _=>256 - (intOf i).toNat)
 case atStart=>exact ⟨0,by omega,rfl,uh B3,uh X3,rfl⟩
 case round=>
   obtain ⟨j,hj,rfl,hB,hX,hP⟩:=hrel
   clear B3 X3
   by_cases hlt:j<256
   · have hji:(j:Int)<256:=by omega
     have hix:=run_index_cnt wr k hcl j hlt
     have hbl:=byteAt_lt k j
     have hmj:=hMm j
     have c1:wr.cell? ⟨bu,j,none⟩=some (.int .i64 ((M.getD j 0:Nat):Int)):=by rw [cell_blk hX,List.getElem?_toArray,nv_get _ _ (by rw [hml];exact hlt)]
     obtain ⟨t3,v3,g3⟩:=((uh HG).below hB).err 3 (by omega)
     have hst:256 - j=(256 - (j+1))+1:=by omega
     have e1:countsP M k cls (256 - (j+1)+1) j=if badC M k cls j then (j:Int) else countsP M k cls (256 - (j+1)) (j+1):=rfl
     rw [hst,e1] at hP
     clear e1
     have hbc:badC M k cls j=(decide (byteAt k j<M.getD j 0) || (decide (254<byteAt k j) || (decide (cls≤j) && decide (byteAt k j≠0)))):=rfl
     rw [hbc] at hP
     have HB:=hide hB
     have HX:=hide hX
     clear hbc
     generalize byteAt k j=x at*
     generalize M.getD j 0=m at*
     by_cases hA:x<m
     · have dA:decide (((x:Nat):Int)<((m:Nat):Int))=true:=decide_eq_true (by omega)
       rw [decide_eq_true hA,Bool.true_or,if_pos rfl] at hP
       have HF:=hide hP
       clear hP hB hX hst
       go_wp2
       go_ret
       exact ⟨Or.inr ⟨j,_,uh HF,⟨_,_,rfl⟩,rfl⟩,uh HB⟩
     · have dA:decide (((x:Nat):Int)<((m:Nat):Int))=false:=decide_eq_false (by omega)
       rw [decide_eq_false hA,Bool.false_or] at hP
       by_cases hB2:254<x
       · have dB:decide ((254:Int)<((x:Nat):Int))=true:=decide_eq_true (by omega)
         rw [decide_eq_true hB2,Bool.true_or,if_pos rfl] at hP
         have HF:=hide hP
         clear hP hB hX hst
         go_wp2
         go_ret
         exact ⟨Or.inr ⟨j,_,uh HF,⟨_,_,rfl⟩,rfl⟩,uh HB⟩
       · have dB:decide ((254:Int)<((x:Nat):Int))=false:=decide_eq_false (by omega)
         rw [decide_eq_false hB2,Bool.false_or] at hP
         by_cases hT2:cls≤j
         · have dT:decide (((cls:Nat):Int)≤((j:Nat):Int))=true:=decide_eq_true (by omega)
           rw [decide_eq_true hT2,Bool.true_and] at hP
           by_cases h0:x=0
           · subst h0
             rw [if_neg (by decide)] at hP
             have HF:=hide hP
             clear hP hB hX hst
             go_wp2
             go_roundw
             case rel=>exact ⟨j+1,by omega,by go_num,uh HB,uh HX,uh HF⟩
             case measure=>simp [intOf];omega
           · have d0:(((x:Nat):Int) != 0)=true:=by rw [bne_iff_ne];omega
             rw [decide_eq_true h0,if_pos rfl] at hP
             have HF:=hide hP
             clear hP hB hX hst
             go_wp2
             go_ret
             exact ⟨Or.inr ⟨j,_,uh HF,⟨_,_,rfl⟩,rfl⟩,uh HB⟩
         · have dT:decide (((cls:Nat):Int)≤((j:Nat):Int))=false:=decide_eq_false (by omega)
           rw [decide_eq_false hT2,Bool.false_and,if_neg (by decide)] at hP
           have HF:=hide hP
           clear hP hB hX hst
           go_wp2
           go_roundw
           case rel=>exact ⟨j+1,by omega,by go_num,uh HB,uh HX,uh HF⟩
           case measure=>simp [intOf];omega
   · have hj6:j=256:=by omega
     subst hj6
     have HF:=hide hP
     have HB:=hide hB
     clear hP hB hX
     go_wp2
     go_ret
     exact ⟨Or.inl ⟨uh HF,rfl⟩,uh HB⟩
end Go.Proofs.YtknjjjenklfeoaaGreatDoor
