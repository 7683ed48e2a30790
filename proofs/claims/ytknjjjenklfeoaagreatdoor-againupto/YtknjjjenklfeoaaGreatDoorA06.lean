import Derived.Test.YtknjjjenklfeoaaGreatDoorA05
import Derived.Test.YtknjjjenklfeoaaGreatDoorA04
set_option maxHeartbeats 8000000
set_option maxRecDepth 100000
namespace Go.Proofs.YtknjjjenklfeoaaGreatDoor
open Go.RowKit
attribute [local go_sem ↓] loadVar_clus storeVar_clus zeroValue_clus loadVar_tab storeVar_tab zeroValue_tab loadVar_cnt storeVar_cnt zeroValue_cnt loadVar_head storeVar_head zeroValue_head build_head buildSlice_clus loadVar_wr storeVar_wr zeroValue_wr build_wr buildSlice_wr equalIn_clus
attribute [local go_sem] run_loadClus run_storeClus run_zeroClus run_storeClus_new run_loadClus_new zc_length run_loadTab run_storeTab run_zeroTab run_storeTab_new run_loadTab_new zt_length run_loadCnt run_storeCnt run_zeroCnt run_storeCnt_new run_loadCnt_new zk_length run_loadHead run_storeHead run_zeroHead run_storeHead_new run_bHead HasAt_drew cellsAt_drew HasAt_drewN cellsAt_drewN run_bsClus run_loadWr run_zeroWr run_storeWr run_storeWr_new run_bWr0 run_bsWr
attribute [local go_sem] run_bWr2
theorem cl_set_at {C:List Clus} {n:Nat} (h:n<C.length) (d:Clus):cl (C.set n d) n=d:=by
 unfold cl
 rw [List.getD_eq_getElem?_getD,List.getElem?_set,if_pos rfl,if_pos h];rfl
theorem put_far (w:World) (v:Nat) (Cv Lv:Value) (V:VolR) (h:VolAt w v Cv Lv V) (n:Nat) (hn:n≤1000) (data:Clus) (hdl:data.length=64) (hd:V.C.length≤n) (hC:V.C.length≤1000) (hL:V.L.length≤1000000000):
   Calls Tryz.prog 70 #[.pointer (some ⟨v,0,none⟩),.int .i64 (n:Nat),.agg (cv data).toArray] w fun e w'=>e= .returned (.tuple #[])∧ ∃ Cv' Lv',VStep w w' v Cv Lv Cv' Lv' (putW V n data):=by
 obtain ⟨i0,hi0,hz0,hz1,hz2⟩:=info_parts Tryz.infoClus
 obtain ⟨i1,hi1,hy0,hy1,hy2⟩:=info_parts Tryz.infoWr
 have E0:=(Env.start h).lay (.cells (cv data).toArray 38)
 have c0:=E0.at'.c0
 obtain ⟨ca0,cap0,hCv⟩:=row_form h.rowC
 subst hCv
 have dn:decide (n<V.C.length)=false:=by simp;omega
 have E0:=hide E0
 clear h
 go_enter Tryz.func70,Tryz.ntmps70
 go_wp2
 go_quiet (fail)
 have E1:=hide ((uh E0).drewN nq)
 clear E0 c0
 generalize (w.alloc (.cells (cv data).toArray 38)).drewN nq=W0 at*
 generalize hCV:Value.slice ca0 V.C.length cap0=Cv at*
 go_wp2_with fail
 refine (complete_any W0 v Cv Lv V (uh E1).at' hC (by omega)).mono ?_
 rintro e W ⟨rfl,Ck,Lk,hSk⟩
 have E2:=hide ((uh E1).does hSk)
 clear E1 hSk
 have E1:=E2
 clear E2
 have hkC:=completeV_C V
 have hkS:=completeV_short V
 have hkL:=completeV_lenL V
 have HP:Hid (putW V n data=⟨(growTo V.C (n+1)).set n data,(completeV V).L++[⟨n,data⟩],true,false⟩):=rfl
 generalize completeV V=K at*
 obtain ⟨KC,KL,Kl,Ks⟩:=K
 dsimp only at hkC hkS hkL HP E1
 subst hkC
 subst hkS
 go_wp2
 go_loopw [26] (fun _ w'=> ∃ (C1:Value) (m:Nat),Env w w' v Cv Lv C1 Lk ⟨V.C++List.replicate m zc,KL,Kl,false⟩ [(w.heap.size,.cells (cv data).toArray 38)]∧V.C.length+m≤max V.C.length (n+1)) (fun _ w'=>n+1 - sliceLen ((w'.cell? ⟨v,0,none⟩).getD undef))
 case atStart=>exact ⟨Ck,0,by simpa using uh E1,by omega⟩
 case round=>
   obtain ⟨C1,m,hE,hm⟩:=hrel
   clear E1
   have hv:=hE.at'
   have hvl:(V.C++List.replicate m zc).length=V.C.length+m:=by simp
   have rowC:=hv.rowC
   rw [hvl] at rowC
   obtain ⟨ca,cap,rfl⟩:=row_form rowC
   have c0:=hv.c0
   by_cases hlt:V.C.length+m≤n
   · have dl:decide (((V.C.length+m:Nat):Int)≤(n:Int))=true:=by simp;omega
     have c0': ∀ o,(wr.alloc o).cell? ⟨v,0,none⟩=some _:=fun o=>(hv.alloc o).c0
     have HE:=hide hE
     have Hrow:=hide rowC
     have Hc0:=hide c0
     have Hv:=hide hv
     clear hE hv rowC
     go_wp2_with (at_builtin;refine wpList_append_lies _ rfl _ _ _ rfl 0 38 i0 _ 64 64 Tryz.underlying28 hi0 hz0 hz1 hz2 (by simp [Value.cells,cv_length,zc_length]) (by omega) (.slice ca (V.C.length+m) cap) (V.C.length+m) (flatC (V.C++List.replicate m zc)) rfl ((uh Hrow).alloc _) ⟨wr.heap.size,0,none⟩ 1 1 (cv zc) rfl (by rw [cv_length,zc_length]) (World.news_of_block (cs:=(cv zc).toArray) (t:=38) (fr:=(0,0)) (heap_alloc_new wr _)) (cv_one zc) (by omega) (by unfold maxLen;omega) (by omega) (by omega) (wr.heap.size+1) (by simp) ?_;intro g5 cap5 w5 hown5 hgrow hat hlt5;have b5:=hide (grown_blk hgrow ((uh Hv).alloc _).blk (uh Hv).neC);have c5:w5.cell? ⟨v,0,none⟩=some _:=(cell_blk (uh b5) 0).trans rfl;have z5: ∀ i,w5.frozen? ⟨v,i,none⟩=false:=fun i=>frozen_blk (uh b5) i)
     have S1:=hide ((uh HE).does ((VStep.alloc (VStep.refl (uh Hv)) _).trans (VolAt.growC ((uh Hv).alloc _) hgrow (C':=V.C++List.replicate (m+1) zc) (v':= .slice (some ⟨g5,0,none⟩) (V.C.length+m+1) cap5) (by
       rw [List.replicate_succ',← List.append_assoc,flatC_snoc,List.length_append,hvl];exact hown5) (by
       intro x hx
       rcases List.mem_append.1 hx with hx | hx
       · exact (uh Hv).lenC x (List.mem_append_left _ hx)
       · rw [List.eq_of_mem_replicate hx];exact zc_length) (by simp) (by
       intro g hg
       simp only [Value.ownBlock,Option.some.injEq] at hg
       subst hg
       rcases hat with h1 | h1
       · exact Or.inl h1
       · right;simp;omega))))
     go_roundw
     case rel=>exact ⟨_,m+1,uh S1,by omega⟩
     case measure=>
       rw [(uh S1).at'.c0,uh Hc0]
       simp [sliceLen];omega
   · have dl:decide (((V.C.length+m:Nat):Int)≤(n:Int))=false:=by simp;omega
     obtain ⟨g,cap',e3,_⟩:=row_some rowC (by omega)
     obtain ⟨rfl,rfl⟩:ca=some ⟨g,0,none⟩∧cap=cap':=by injection e3 with x1 x2 x3;exact ⟨x1,x3⟩
     have hg1:V.C++List.replicate m zc=growTo V.C (n+1):=by
       unfold growTo
       congr 2
       omega
     have hnl:n<(V.C++List.replicate m zc).length:=by rw [hvl];omega
     have l1:=box_has hE.drew.o0 hdl
     have l2:=box_cells hE.drew.o0 hdl
     have hv':VolAt wr v (.slice (some ⟨g,0,none⟩) (V.C++List.replicate m zc).length cap) Lk ⟨V.C++List.replicate m zc,KL,Kl,false⟩:=by rw [hvl];exact hv
     have th:wr.drew.there g (n*64) 64:=row_there hv'.drew.rowC n hnl
     have S2:=VolAt.setC (V:=⟨V.C++List.replicate m zc,KL,Kl,false⟩) hv'.drew n hnl data hdl
     simp only at S2
     rw [hvl] at S2
     have E2:=hide (hE.drew.does S2)
     have hni:(n:Int)<((V.C.length+m:Nat):Int):=by omega
     clear hv' hv rowC e3 hE S2
     go_wp2
     go_region
     generalize hU:World.setCells wr.drew g (n*64) (cv data)=U at*
     rw [hg1] at E2
     clear hU l1 l2 th c0 hg1
     have hnl2:n<((growTo V.C (n+1)).set n data).length:=by rw [List.length_set,growTo_length];omega
     have Hn:=note_any _ _ _ _ _ (uh E2).at' n hnl2 (by show ((growTo V.C (n+1)).set n data).length≤2000;rw [List.length_set,growTo_length];omega) (by show KL.length≤_;omega)
     have HQ:Hid (noteV ⟨(growTo V.C (n+1)).set n data,KL,Kl,false⟩ n=putW V n data):=by
       rw [uh HP]
       unfold noteV
       rw [cl_set_at (by rw [growTo_length];omega)]
       exact hide rfl
     have Hn:=hide Hn
     go_wp2_with fail
     refine (uh Hn).mono ?_
     rintro e W9 ⟨rfl,C9,L9,hS9⟩
     rw [uh HQ] at hS9
     have E9:=(uh E2).step.trans hS9
     rw [← hCV] at E9
     have E9:=hide E9
     clear hS9
     go_wp2
     go_end0
     exact ⟨rfl,C9,L9,uh E9⟩
theorem put_near (w:World) (v:Nat) (Cv Lv:Value) (V:VolR) (h:VolAt w v Cv Lv V) (n:Nat) (hn:n≤1000) (data:Clus) (hdl:data.length=64) (hd:n<V.C.length) (hne:cl V.C n≠data) (hC:V.C.length≤1000) (hL:V.L.length≤1000000000):
   Calls Tryz.prog 70 #[.pointer (some ⟨v,0,none⟩),.int .i64 (n:Nat),.agg (cv data).toArray] w fun e w'=>e= .returned (.tuple #[])∧ ∃ Cv' Lv',VStep w w' v Cv Lv Cv' Lv' (putW V n data):=by
 obtain ⟨i1,hi1,hy0,hy1,hy2⟩:=info_parts Tryz.infoWr
 have E0:=(Env.start h).lay (.cells (cv data).toArray 38)
 have c0:=E0.at'.c0
 obtain ⟨g0,cap0,hCv,_⟩:=row_some h.rowC (by omega)
 subst hCv
 have hcl:=cl_length h.lenC hd
 have l1:=fun m=>row_has (E0.at'.drewN m).rowC E0.at'.lenC n hd
 have l2:=fun m=>row_cells (E0.at'.drewN m).rowC E0.at'.lenC n hd
 have l3:=fun m=>box_has (E0.drewN m).o0 hdl
 have l4:=fun m=>box_cells (E0.drewN m).o0 hdl
 have hni:(n:Int)<(V.C.length:Int):=by omega
 have dn:decide (n<V.C.length)=true:=by simpa using hd
 have he:=run_eqClus hcl hdl
 rw [decide_eq_false hne] at he
 have E0:=hide E0
 clear h
 go_enter Tryz.func70,Tryz.ntmps70
 go_wp2
 go_quiet (fail)
 have E1:=hide ((uh E0).drewN nq)
 clear E0 c0 l1 l2 l3 l4 he
 generalize (w.alloc (.cells (cv data).toArray 38)).drewN nq=W0 at*
 generalize hCV:Value.slice (some ⟨g0,0,none⟩) V.C.length cap0=Cv at*
 go_wp2_with fail
 refine (complete_any W0 v Cv Lv V (uh E1).at' hC (by omega)).mono ?_
 rintro e W ⟨rfl,Ck,Lk,hSk⟩
 have E2:=hide ((uh E1).does hSk)
 clear E1 hSk
 have E1:=E2
 clear E2
 have hkC:=completeV_C V
 have hkS:=completeV_short V
 have hkL:=completeV_lenL V
 have HP:Hid (putW V n data=⟨(growTo V.C (n+1)).set n data,(completeV V).L++[⟨n,data⟩],true,false⟩):=rfl
 generalize completeV V=K at*
 obtain ⟨KC,KL,Kl,Ks⟩:=K
 dsimp only at hkC hkS hkL HP E1
 subst hkC
 subst hkS
 go_wp2
 go_loopw [26] (fun _ w'=> ∃ (C1:Value) (m:Nat),Env w w' v Cv Lv C1 Lk ⟨V.C++List.replicate m zc,KL,Kl,false⟩ [(w.heap.size,.cells (cv data).toArray 38)]∧V.C.length+m≤max V.C.length (n+1)) (fun _ w'=>n+1 - sliceLen ((w'.cell? ⟨v,0,none⟩).getD undef))
 case atStart=>exact ⟨Ck,0,by simpa using uh E1,by omega⟩
 case round=>
   obtain ⟨C1,m,hE,hm⟩:=hrel
   clear E1
   have hv:=hE.at'
   have hvl:(V.C++List.replicate m zc).length=V.C.length+m:=by simp
   have rowC:=hv.rowC
   rw [hvl] at rowC
   obtain ⟨ca,cap,rfl⟩:=row_form rowC
   have c0:=hv.c0
   by_cases hlt:V.C.length+m≤n
   · exact absurd hlt (by omega)
   · have dl:decide (((V.C.length+m:Nat):Int)≤(n:Int))=false:=by simp;omega
     obtain ⟨g,cap',e3,_⟩:=row_some rowC (by omega)
     obtain ⟨rfl,rfl⟩:ca=some ⟨g,0,none⟩∧cap=cap':=by injection e3 with x1 x2 x3;exact ⟨x1,x3⟩
     have hg1:V.C++List.replicate m zc=growTo V.C (n+1):=by
       unfold growTo
       congr 2
       omega
     have hnl:n<(V.C++List.replicate m zc).length:=by rw [hvl];omega
     have l1:=box_has hE.drew.o0 hdl
     have l2:=box_cells hE.drew.o0 hdl
     have hv':VolAt wr v (.slice (some ⟨g,0,none⟩) (V.C++List.replicate m zc).length cap) Lk ⟨V.C++List.replicate m zc,KL,Kl,false⟩:=by rw [hvl];exact hv
     have th:wr.drew.there g (n*64) 64:=row_there hv'.drew.rowC n hnl
     have S2:=VolAt.setC (V:=⟨V.C++List.replicate m zc,KL,Kl,false⟩) hv'.drew n hnl data hdl
     simp only at S2
     rw [hvl] at S2
     have E2:=hide (hE.drew.does S2)
     have hni:(n:Int)<((V.C.length+m:Nat):Int):=by omega
     clear hv' hv rowC e3 hE S2
     go_wp2
     go_region
     generalize hU:World.setCells wr.drew g (n*64) (cv data)=U at*
     rw [hg1] at E2
     clear hU l1 l2 th c0 hg1
     have hnl2:n<((growTo V.C (n+1)).set n data).length:=by rw [List.length_set,growTo_length];omega
     have Hn:=note_any _ _ _ _ _ (uh E2).at' n hnl2 (by show ((growTo V.C (n+1)).set n data).length≤2000;rw [List.length_set,growTo_length];omega) (by show KL.length≤_;omega)
     have HQ:Hid (noteV ⟨(growTo V.C (n+1)).set n data,KL,Kl,false⟩ n=putW V n data):=by
       rw [uh HP]
       unfold noteV
       rw [cl_set_at (by rw [growTo_length];omega)]
       exact hide rfl
     have Hn:=hide Hn
     go_wp2_with fail
     refine (uh Hn).mono ?_
     rintro e W9 ⟨rfl,C9,L9,hS9⟩
     rw [uh HQ] at hS9
     have E9:=(uh E2).step.trans hS9
     rw [← hCV] at E9
     have E9:=hide E9
     clear hS9
     go_wp2
     go_end0
     exact ⟨rfl,C9,L9,uh E9⟩
theorem put_any (w:World) (v:Nat) (Cv Lv:Value) (V:VolR) (h:VolAt w v Cv Lv V) (n:Nat) (hn:n≤1000) (data:Clus) (hdl:data.length=64) (hC:V.C.length≤1000) (hL:V.L.length≤1000000000):
   Calls Tryz.prog 70 #[.pointer (some ⟨v,0,none⟩),.int .i64 (n:Nat),.agg (cv data).toArray] w fun e w'=>e= .returned (.tuple #[])∧ ∃ Cv' Lv',VStep w w' v Cv Lv Cv' Lv' (putV V n data):=by
 by_cases hlt:n<V.C.length
 · by_cases hd:cl V.C n=data
   · rw [show putV V n data=V from if_pos ⟨hlt,hd⟩];exact put_same w v Cv Lv V h n hlt data hd hC
   · rw [show putV V n data=_ from if_neg (fun x=>hd x.2)];exact put_near w v Cv Lv V h n hn data hdl hlt hd hC hL
 · rw [show putV V n data=_ from if_neg (fun x=>hlt x.1)];exact put_far w v Cv Lv V h n hn data hdl (by omega) hC hL
end Go.Proofs.YtknjjjenklfeoaaGreatDoor
namespace Go.Proofs.YtknjjjenklfeoaaGreatDoor
open Go.RowKit
attribute [local go_sem ↓] loadVar_clus storeVar_clus zeroValue_clus loadVar_tab storeVar_tab zeroValue_tab loadVar_cnt storeVar_cnt zeroValue_cnt loadVar_head storeVar_head zeroValue_head build_head buildSlice_clus loadVar_wr storeVar_wr zeroValue_wr build_wr buildSlice_wr equalIn_clus
attribute [local go_sem] run_loadClus run_storeClus run_zeroClus run_storeClus_new run_loadClus_new zc_length run_loadTab run_storeTab run_zeroTab run_storeTab_new run_loadTab_new zt_length run_loadCnt run_storeCnt run_zeroCnt run_storeCnt_new run_loadCnt_new zk_length run_loadHead run_storeHead run_zeroHead run_storeHead_new run_bHead HasAt_drew cellsAt_drew HasAt_drewN cellsAt_drewN run_bsClus run_loadWr run_zeroWr run_storeWr run_storeWr_new run_bWr0 run_bsWr
theorem row_empty (w:World) (base:Nat) (e:TypeId) (size:Nat) (hb:base≤w.heap.size):(w.alloc (.cells #[] e)).ownsRow base e size (.slice (some ⟨w.heap.size,0,none⟩) 0 0) 0 []:=by
 refine ⟨by simp,Or.inr ⟨w.heap.size,0,#[],rfl,hb,heap_alloc_new w _,by omega,?_⟩⟩
 simp [maxLen]
theorem cloneC_any (w:World) (g cap:Nat) (C:List Clus) (hC: ∀ c ∈ C,c.length=64) (hr:w.ownsRow 0 38 64 (.slice (some ⟨g,0,none⟩) C.length cap) C.length (flatC C)) (h0:0<C.length) (h1:C.length≤1000):
   Calls Tryz.prog 135 #[.slice (some ⟨g,0,none⟩) C.length cap] w fun e w'=> ∃ v,e= .returned v∧w'.ownsRow w.heap.size 38 64 v C.length (flatC C)∧Below w.heap.size w w':=by
 obtain ⟨i0,hi0,hz0,hz1,hz2⟩:=info_parts Tryz.infoClus
 have Hr:=hide hr
 have hq:=run_eql_slice_nil (P:=Tryz.prog) w 28 38 (some ⟨g,0,none⟩) C.length cap Tryz.underlying28
 clear hr
 go_enter Tryz.func135,Tryz.ntmps135
 go_wp2_with (at_builtin;refine wpList_append_lies _ rfl _ _ _ rfl w.heap.size 38 i0 _ 64 64 Tryz.underlying28 hi0 hz0 hz1 hz2 (by simp [Value.cells,cv_length,zc_length]) (by omega) (.slice (some ⟨w.heap.size,0,none⟩) 0 0) 0 [] rfl (row_empty w _ _ _ (Nat.le_refl _)) ⟨g,0,none⟩ C.length cap (flatC C) rfl (flatC_length C hC) (((uh Hr).alloc _).cells (g:=g) rfl) (flatC_one C) (by omega) (by unfold maxLen;omega) (by omega) (by simp) (w.heap.size+1) (by simp) ?_;intro g5 cap5 w5 hown5 hgrow hat hlt5)
 go_ret
 refine ⟨_,rfl,by simpa using hown5,((Below.refl _ w).alloc (Nat.le_refl _) _).grown hgrow (by simp) (fun k hk=> ?_)⟩
 simp only [Value.ownBlock,Option.some.injEq] at hk
 omega
end Go.Proofs.YtknjjjenklfeoaaGreatDoor
namespace Go.Proofs.YtknjjjenklfeoaaGreatDoor
open Go.RowKit
attribute [local go_sem ↓] loadVar_clus storeVar_clus zeroValue_clus loadVar_cont storeVar_cont zeroValue_cont build_disk
attribute [local go_sem] run_loadClus run_storeClus run_zeroClus run_storeClus_new run_loadClus_new zc_length run_loadCont run_storeCont run_zeroCont run_bDisk
def blockB (n:Int):Bool:=decide (0≤n) && decide (n<64)
def readR (D:DiskR) (n:Int):Clus × Nat:=if blockB n then (cl D.C n.toNat,0) else (zc,1)
end Go.Proofs.YtknjjjenklfeoaaGreatDoor
namespace Go.Proofs.YtknjjjenklfeoaaGreatDoor
open Go.RowKit
attribute [local go_sem ↓] loadVar_clus storeVar_clus zeroValue_clus loadVar_tab storeVar_tab zeroValue_tab loadVar_cnt storeVar_cnt zeroValue_cnt loadVar_head storeVar_head zeroValue_head build_head buildSlice_clus loadVar_wr storeVar_wr zeroValue_wr build_wr buildSlice_wr equalIn_clus
attribute [local go_sem] run_loadClus run_storeClus run_zeroClus run_storeClus_new run_loadClus_new zc_length run_loadTab run_storeTab run_zeroTab run_storeTab_new run_loadTab_new zt_length run_loadCnt run_storeCnt run_zeroCnt run_storeCnt_new run_loadCnt_new zk_length run_loadHead run_storeHead run_zeroHead run_storeHead_new run_bHead HasAt_drew cellsAt_drew HasAt_drewN cellsAt_drewN run_bsClus run_loadWr run_zeroWr run_storeWr run_storeWr_new run_bWr0 run_bsWr
theorem storeClusters_any (w:World) (v:Nat) (Cv Lv:Value) (V:VolR) (h:VolAt w v Cv Lv V) (h0:0<V.C.length) (h1:V.C.length≤1000):
   Calls Tryz.prog 73 #[.pointer (some ⟨v,0,none⟩)] w fun e w'=> ∃ x,e= .returned x∧w'.ownsRow w.heap.size 38 64 x V.C.length (flatC V.C)∧Below w.heap.size w w':=by
 obtain ⟨g,cap,rfl,_⟩:=row_some h.rowC (by omega)
 have c0:=h.c0
 have Hc:=hide (cloneC_any w g cap V.C h.lenC h.rowC h0 h1)
 go_enter Tryz.func73,Tryz.ntmps73
 go_wp2_with fail
 refine (uh Hc).mono ?_
 rintro e w1 ⟨x,rfl,hr,hb⟩
 go_wp2
 go_ret
 exact ⟨x,rfl,hr,hb⟩
theorem volFile_any (w:World) (v:Nat) (Cv Lv:Value) (V:VolR) (h:VolAt w v Cv Lv V) (h0:0<V.C.length) (h1:V.C.length≤1000):
   Calls Tryz.prog 38 #[.pointer (some ⟨v,0,none⟩)] w fun e w'=> ∃ x,e= .returned x∧w'.ownsRow w.heap.size 38 64 x V.C.length (flatC V.C)∧Below w.heap.size w w':=by
 have Hc:=hide (storeClusters_any w v Cv Lv V h h0 h1)
 go_enter Tryz.func38,Tryz.ntmps38
 go_wp2_with fail
 refine (uh Hc).mono ?_
 rintro e w1 ⟨x,rfl,hr,hb⟩
 go_wp2
 go_ret
 exact ⟨x,rfl,hr,hb⟩
structure DskAt (w:World) (d v:Nat) (Cv Lv:Value) (V:VolR):Prop where
 blk:w.heap[d]? = some (.cells #[.pointer (some ⟨v,0,none⟩)] 85 (0,0))
 vol:VolAt w v Cv Lv V
def dfoot (d v:Nat) (Cv Lv:Value) (k:Nat):Prop:=k=d∨foot v Cv Lv k
section
variable {w w':World} {d v:Nat} {Cv Lv:Value} {V:VolR}
theorem DskAt.c0 (h:DskAt w d v Cv Lv V):w.cell? ⟨d,0,none⟩=some (.pointer (some ⟨v,0,none⟩)):=by rw [cell_blk h.blk];rfl
theorem DskAt.nfoot (h:DskAt w d v Cv Lv V): ¬ foot v Cv Lv d:=by
 rintro (rfl | hk | hk)
 · have:=h.blk;rw [h.vol.blk] at this;cases this
 · exact row_ne h.vol.rowC h.blk (by decide) d hk rfl
 · exact row_ne h.vol.rowL h.blk (by decide) d hk rfl
theorem DskAt.kept {S:Nat→Prop} (h:DskAt w d v Cv Lv V) (hk:Kept S w w') (hs: ∀ k,dfoot d v Cv Lv k→ ¬ S k):DskAt w' d v Cv Lv V:=
 ⟨hk.blk (hs d (Or.inl rfl)) h.blk,h.vol.kept hk (fun k hf=>hs k (Or.inr hf))⟩
theorem DskAt.below (h:DskAt w d v Cv Lv V) (hb:Below w.heap.size w w'):DskAt w' d v Cv Lv V:=h.kept (S:=fun _=>False) (Kept.of_below hb) (fun _ _=>id)
theorem DskAt.step {C1 L1:Value} {V1:VolR} (h:DskAt w d v Cv Lv V) (hs:VStep w w' v Cv Lv C1 L1 V1):DskAt w' d v C1 L1 V1:=⟨hs.kept.blk h.nfoot h.blk,hs.at'⟩
theorem DskAt.foot_lt (h:DskAt w d v Cv Lv V): ∀ k,dfoot d v Cv Lv k→k<w.heap.size:=by
 rintro k (rfl | hk)
 · exact blk_lt h.blk
 · exact h.vol.foot_lt k hk
end
theorem made_any (w:World) (d v:Nat) (Cv Lv:Value) (V:VolR) (h:DskAt w d v Cv Lv V):
   Calls Tryz.prog 37 #[.pointer (some ⟨d,0,none⟩)] w fun e w'=>e= .returned (.bool true)∧w'=w:=by
 have c0:=h.c0
 go_enter Tryz.func37,Tryz.ntmps37
 go_wp2
 go_ret
 exact ⟨rfl,rfl⟩
theorem diskFile_any (w:World) (d v:Nat) (Cv Lv:Value) (V:VolR) (h:DskAt w d v Cv Lv V) (h0:0<V.C.length) (h1:V.C.length≤1000):
   Calls Tryz.prog 12 #[.pointer (some ⟨d,0,none⟩)] w fun e w'=> ∃ x,e= .returned x∧w'.ownsRow w.heap.size 38 64 x V.C.length (flatC V.C)∧Below w.heap.size w w':=by
 have c0:=h.c0
 have Hm:=hide (made_any w d v Cv Lv V h)
 have Hc:=hide (volFile_any w v Cv Lv V h.vol h0 h1)
 go_enter Tryz.func12,Tryz.ntmps12
 go_wp2_with fail
 refine (uh Hm).mono ?_
 rintro e w1 ⟨rfl,rfl⟩
 go_wp2_with fail
 refine (uh Hc).mono ?_
 rintro e w1 ⟨x,rfl,hr,hb⟩
 go_wp2
 go_ret
 exact ⟨x,rfl,hr,hb⟩
theorem volIsBlock_any (n:Int) (w:World):Calls Tryz.prog 103 #[.int .i64 n] w fun e w'=>e= .returned (.bool (blockB n))∧w'=w:=by
 have H:Hid (blockB n=(decide (0≤n) && decide (n<64))):=rfl
 by_cases h0:0≤n
 · have d0:decide (0≤n)=true:=by simpa using h0
   rw [d0,Bool.true_and] at H
   go_enter Tryz.func103,Tryz.ntmps103
   go_wp2
   go_ret
   exact ⟨by rw [uh H];rfl,rfl⟩
 · have d0:decide (0≤n)=false:=by simpa using h0
   rw [d0,Bool.false_and] at H
   go_enter Tryz.func103,Tryz.ntmps103
   go_wp2
   go_ret
   exact ⟨by rw [uh H];rfl,rfl⟩
theorem head_vol (w:World) (v:Nat) (Cv Lv:Value) (V:VolR) (h:VolAt w v Cv Lv V) (h0:0<V.C.length):
   Calls Tryz.prog 87 #[.pointer (some ⟨v,0,none⟩)] w fun e w'=>e= .returned (.agg (hv (num (cl V.C 0) 4) (num (cl V.C 0) 6)).toArray)∧Below w.heap.size w w':=by
 have L0:=Locs.one w (.cells (hv 0 0).toArray 128)
 have Ha:=hide (at_any _ v Cv Lv V (h.below L0.below) 0 h0)
 have Hh:Hid (∀ W,_):=fun W=>headOf_any W (cl V.C 0) (cl_length h.lenC h0)
 have L0:=hide L0
 clear h
 go_enter Tryz.func87,Tryz.ntmps87
 go_wp2_with fail
 refine (uh Ha).mono ?_
 rintro e w1 ⟨rfl,hb1⟩
 have L1:=hide ((uh L0).later hb1)
 clear Ha L0 hb1
 go_wp2_with fail
 refine (uh Hh w1).mono ?_
 rintro e w2 ⟨rfl,hb2⟩
 have L2:=(uh L1).later hb2
 have th:=there_blk L2.o0 0 2 (by simp [hv_length])
 have hset:=L2.setCells 0 rfl 0 (hv (num (cl V.C 0) 4) (num (cl V.C 0) 6))
 rw [Nat.add_zero] at hset
 rw [setList_all _ _ (by simp [hv_length])] at hset
 have l3:=blk_has hset.o0 (n:=2) (hv_length _ _)
 have l4:=blk_cells hset.o0 (n:=2) (hv_length _ _)
 have HB:=hide hset.below
 clear hset L2 L1 hb2 Hh
 go_wp2
 refine bodyPost_ret (results_cell Tryz.results87 ⟨w.heap.size,0,none⟩ rfl ?_) rfl ⟨rfl,uh HB⟩
 rw [loadVar_head,run_loadHead l3,l4]
theorem table_vol (w:World) (v:Nat) (Cv Lv:Value) (V:VolR) (h:VolAt w v Cv Lv V) (n:Nat) (hn:n<V.C.length):
   Calls Tryz.prog 160 #[.pointer (some ⟨v,0,none⟩),.int .i64 (n:Nat)] w fun e w'=>e= .returned (.agg (tv (numsOf (cl V.C n))).toArray)∧Below w.heap.size w w':=by
 have L0:=Locs.one w (.cells (tv zt).toArray 169)
 have Ha:=hide (at_any _ v Cv Lv V (h.below L0.below) n hn)
 have Hh:Hid (∀ W,_):=fun W=>tableOf_any W (cl V.C n) (cl_length h.lenC hn)
 have hnl:=numsOf_length (cl V.C n)
 have L0:=hide L0
 clear h
 generalize hcc:cl V.C n=c at*
 go_enter Tryz.func160,Tryz.ntmps160
 go_wp2_with fail
 refine (uh Ha).mono ?_
 rintro e w1 ⟨rfl,hb1⟩
 have L1:=hide ((uh L0).later hb1)
 clear Ha L0 hb1
 go_wp2_with fail
 refine (uh Hh w1).mono ?_
 rintro e w2 ⟨rfl,hb2⟩
 have L2:=(uh L1).later hb2
 have th:=there_blk L2.o0 0 32 (by simp [tv_length,zt_length])
 have hset:=L2.setCells 0 rfl 0 (tv (numsOf c))
 rw [Nat.add_zero] at hset
 rw [setList_all _ _ (by simp [tv_length,zt_length,hnl])] at hset
 have l3:=blk_has hset.o0 (n:=32) (by rw [tv_length,hnl])
 have l4:=blk_cells hset.o0 (n:=32) (by rw [tv_length,hnl])
 have HB:=hide hset.below
 clear hset L2 L1 hb2 Hh
 go_wp2
 refine bodyPost_ret (results_cell Tryz.results160 ⟨w.heap.size,0,none⟩ rfl ?_) rfl ⟨rfl,uh HB⟩
 rw [loadVar_tab,run_loadTab l3,l4]
def cntsTo (C:List Clus):Nat→List UInt8
 | 0=>zk
 | k+1=>setPart (cntsTo C k) k (cl C (1+k))
def cntsOf (C:List Clus):List UInt8:=cntsTo C 4
theorem cntsTo_length (C:List Clus) (hl: ∀ c ∈ C,c.length=64) (h5:5≤C.length): ∀ k,k≤4→(cntsTo C k).length=256
 | 0,_=>zk_length
 | k+1,hk=>setPart_length _ _ _ (cntsTo_length C hl h5 k (by omega)) (cl_length hl (by omega)) (by omega)
theorem cntsOf_length (C:List Clus) (hl: ∀ c ∈ C,c.length=64) (h5:5≤C.length):(cntsOf C).length=256:=cntsTo_length C hl h5 4 (by omega)
theorem counts_vol (w:World) (v:Nat) (Cv Lv:Value) (V:VolR) (h:VolAt w v Cv Lv V) (h5:5≤V.C.length):
   Calls Tryz.prog 101 #[.pointer (some ⟨v,0,none⟩)] w fun e w'=>e= .returned (.agg (cv (cntsOf V.C)).toArray)∧Below w.heap.size w w':=by
 have L0:=hide (Locs.two w (.cells (cv zk).toArray 123) (.cells (cv zk).toArray 123))
 go_enter Tryz.func101,Tryz.ntmps101
 go_wp2
 go_loopw [4,5] (fun _ i w'=> ∃ k:Nat,k≤4∧i= .int .i64 k∧Locs w w' [.cells (cv zk).toArray 123,.cells (cv (cntsTo V.C k)).toArray 123]) (fun _ i _=>4 - (intOf i).toNat)
 case atStart=>exact ⟨0,by omega,rfl,uh L0⟩
 case round=>
   obtain ⟨k,hk,rfl,hL⟩:=hrel
   clear L0
   have hcl:=cntsTo_length V.C h.lenC h5 k hk
   by_cases hlt:k<4
   · have hki:(k:Int)<4:=by omega
     have Ha:=hide (at_any _ v Cv Lv V (h.below hL.below) (1+k) (by omega))
     have hc64:=cl_length h.lenC (k:=1+k) (by omega)
     have HL:=hide hL
     rw [show ((1+k:Nat):Int)=1+(k:Int) by omega] at Ha
     clear hL
     go_wp2_with fail
     refine (uh Ha).mono ?_
     rintro e w1 ⟨rfl,hb1⟩
     have L1:=(uh HL).later hb1
     have Hs:=hide (setPart_any w1 _ (cntsTo V.C k) hcl L1.o1 k hlt _ hc64)
     have L1:=hide L1
     clear Ha HL hb1
     generalize hcc:cl V.C (1+k)=c at*
     go_wp2_with fail
     refine (uh Hs).mono ?_
     rintro e w2 ⟨rfl,hb2,hk2⟩
     have L2:=hide ((uh L1).put 1 _ hk2 hb2)
     clear Hs L1 hb2 hk2
     go_wp2
     go_roundw
     case rel=>
       refine ⟨k+1,by omega,by go_num,?_⟩
       rw [cntsTo,hcc]
       exact uh L2
     case measure=>simp [intOf];omega
   · have hk4:k=4:=by omega
     subst hk4
     have l1:=blk_has hL.o1 (n:=256) (by rw [cv_length,hcl])
     have l2:=blk_cells hL.o1 (n:=256) (by rw [cv_length,hcl])
     have th:=there_blk hL.o0 0 256 (by simp only [List.size_toArray,cv_length,zk_length];omega)
     have hset:=hL.setCells 0 rfl 0 (cv (cntsTo V.C 4))
     rw [Nat.add_zero] at hset
     rw [setList_all _ _ (by rw [List.size_toArray,cv_length,cv_length,zk_length,hcl])] at hset
     have o1:=hset.o0
     have l3:=blk_has o1 (n:=256) (by rw [cv_length,hcl])
     have l4:=blk_cells o1 (n:=256) (by rw [cv_length,hcl])
     have HB:=hide hset.below
     clear hL hset o1
     go_wp2
     refine bodyPost_ret (results_cell Tryz.results101 ⟨w.heap.size,0,none⟩ rfl ?_) rfl ⟨rfl,uh HB⟩
     rw [loadVar_cnt,run_loadCnt l3,l4];rfl
def findR (C:List Clus) (first b:Nat):PlaceR:=
 { first:=first,inFirst:=b / 32,inSecond:=b%32,second:=num (cl C first) (2*(b / 32)),
   block:=if num (cl C first) (2*(b / 32))=0 then 0 else num (cl C (num (cl C first) (2*(b / 32))%32768)) (2*(b%32)),
   tab:=if num (cl C first) (2*(b / 32))=0 then zt else numsOf (cl C (num (cl C first) (2*(b / 32))%32768)) }
theorem findR_tab (C:List Clus) (first b:Nat):(findR C first b).tab.length=32:=by unfold findR;dsimp only;split;exact zt_length;exact numsOf_length _
end Go.Proofs.YtknjjjenklfeoaaGreatDoor
namespace Go.Proofs.YtknjjjenklfeoaaGreatDoor
open Go.RowKit
attribute [local go_sem ↓] loadVar_clus storeVar_clus zeroValue_clus loadVar_tab storeVar_tab zeroValue_tab loadVar_cnt storeVar_cnt zeroValue_cnt loadVar_head storeVar_head zeroValue_head build_head buildSlice_clus loadVar_wr storeVar_wr zeroValue_wr build_wr buildSlice_wr equalIn_clus loadVar_place storeVar_place zeroValue_place build_place
attribute [local go_sem] run_loadClus run_storeClus run_zeroClus run_storeClus_new run_loadClus_new zc_length run_loadTab run_storeTab run_zeroTab run_storeTab_new run_loadTab_new zt_length run_loadCnt run_storeCnt run_zeroCnt run_storeCnt_new run_loadCnt_new zk_length run_loadHead run_storeHead run_zeroHead run_storeHead_new run_bHead HasAt_drew cellsAt_drew HasAt_drewN cellsAt_drewN run_bsClus run_loadWr run_zeroWr run_storeWr run_storeWr_new run_bWr0 run_bsWr run_loadPlace run_storePlace run_zeroPlace run_storePlace_new run_bPlace
theorem place_set3 (p:PlaceR) (n:Nat):(placeCells p).toArray.setIfInBounds 3 (.int .u16 (n:Nat))=(placeCells { p with second:=n }).toArray:=by simp [placeCells]
theorem place_set4 (p:PlaceR) (n:Nat):(placeCells p).toArray.setIfInBounds 4 (.int .u16 (n:Nat))=(placeCells { p with block:=n }).toArray:=by simp [placeCells]
theorem place_setTab (p:PlaceR) (T:List Nat) (hp:p.tab.length=32) (hT:T.length=32):setList (placeCells p).toArray 5 (tv T)=(placeCells { p with tab:=T }).toArray:=by
 have:=setList_back [.int .i64 (p.first:Nat),.int .i64 (p.inFirst:Nat),.int .i64 (p.inSecond:Nat),.int .u16 (p.second:Nat),.int .u16 (p.block:Nat)] (tv p.tab) (tv T) (by rw [tv_length,tv_length,hp,hT])
 exact this
theorem place_tab {w:World} {b:Nat} {p:PlaceR} {t:TypeId} {fr:Nat × Nat} (h:w.heap[b]? = some (.cells (placeCells p).toArray t fr)) (r:Nat) (hr:r<p.tab.length):w.cell? ⟨b,5+r,none⟩=some (.int .u16 ((p.tab.getD r 0:Nat):Int)):=by
 rw [cell_blk h,List.getElem?_toArray,placeCells,show 5+r=r+5 by omega]
 simp only [List.getElem?_cons_succ]
 exact tv_get _ _ hr
theorem find_vol (w:World) (v:Nat) (Cv Lv:Value) (V:VolR) (h:VolAt w v Cv Lv V) (first b:Nat) (hf:first<V.C.length) (hb:b<64) (hs:num (cl V.C first) (2*(b / 32))≠0→num (cl V.C first) (2*(b / 32))%32768<V.C.length):
   Calls Tryz.prog 104 #[.pointer (some ⟨v,0,none⟩),.int .i64 (first:Nat),.int .i64 (b:Nat)] w fun e w'=>e= .returned (.agg (placeCells (findR V.C first b)).toArray)∧Below w.heap.size w w':=by
 obtain ⟨q,r,hq,hr,hbq⟩: ∃ q r,q<2∧r<32∧b=32*q+r:=⟨b / 32,b%32,by omega,by omega,by omega⟩
 have e1:b / 32=q:=by omega
 have e2:b%32=r:=by omega
 have i1:(b:Int) / 32=(q:Int):=by omega
 have i2:(b:Int)%32=(r:Int):=by omega
 have HP:Hid (findR V.C first b={ first:=first,inFirst:=q,inSecond:=r,second:=num (cl V.C first) (2*q),block:=if num (cl V.C first) (2*q)=0 then 0 else num (cl V.C (num (cl V.C first) (2*q)%32768)) (2*r),tab:=if num (cl V.C first) (2*q)=0 then zt else numsOf (cl V.C (num (cl V.C first) (2*q)%32768)) }):=by
   unfold findR;rw [e1,e2];rfl
 rw [e1] at hs
 clear hbq e1 e2
 have L0:=Locs.two w (.cells (placeCells zp).toArray 171) (.cells (placeCells zp).toArray 171)
 have th0:=there_blk L0.o1 0 37 (by simp [placeCells_length zp zt_length])
 have L1:=L0.setCells 1 rfl 0 (placeCells ⟨first,q,r,0,0,zt⟩)
 rw [setList_all _ _ (by simp [placeCells,tv_length,zp])] at L1
 simp only [List.set_cons_succ,List.set_cons_zero] at L1
 generalize hW1:World.setCells _ (w.heap.size+1) 0 (placeCells ⟨first,q,r,0,0,zt⟩)=W1 at L1
 have Ht:=hide (table_vol _ v Cv Lv V (h.below L1.drew.below) first hf)
 have ztl:=zt_length
 have c1:W1.drew.cell? ⟨w.heap.size+1,1,none⟩=some (.int .i64 (q:Nat)):=(cell_blk L1.drew.o1 1).trans rfl
 have hix: ∀ W,_:=fun W=>run_index_tab W (numsOf (cl V.C first)) (numsOf_length _) q (by omega)
 rw [numsOf_get _ _ (by omega)] at hix
 have L1:=hide L1
 have Hh:=hide h
 have hsl:=num_lt (cl V.C first) (2*q)
 generalize hss:num (cl V.C first) (2*q)=s at*
 clear L0 h
 go_enter Tryz.func104,Tryz.ntmps104
 go_wp2_with fail
 clear hW1 th0
 go_wp2
 go_region_law (go_simp
                go_at_call 160
                refine (uh Ht).mono ?_
                rintro e w1 ⟨rfl,hb1⟩
                have L2:=(uh L1).drew.later hb1
                have c2:w1.cell? ⟨w.heap.size+1,1,none⟩=some (.int .i64 (q:Nat)):=(cell_blk L2.o1 1).trans rfl
                have c3:w1.cell? ⟨w.heap.size+1,3,none⟩=some (.int .u16 0):=(cell_blk L2.o1 3).trans rfl
                have z3:=frozen_blk L2.o1
                have L2:=hide L2)
 all_goals
   have L3:=(uh L2).setCell 1 rfl 3 (.int .u16 (s:Nat))
   rw [place_set3] at L3
   dsimp only [List.set_cons_succ,List.set_cons_zero] at L3
   generalize World.setCell w1 ⟨w.heap.size+1,3,none⟩ (.int .u16 (s:Nat))=W3 at*
   have d3:W3.cell? ⟨w.heap.size+1,3,none⟩=some (.int .u16 (s:Nat)):=(cell_blk L3.o1 3).trans rfl
   clear L2 hb1 c1 c2 c3 z3 Ht L1
   by_cases hs0:s=0
   · subst hs0
     rw [if_pos rfl,if_pos rfl] at HP
     obtain ⟨bn,hbn⟩: ∃ bn,zt.getD r 0=bn:=⟨_,rfl⟩
     have c4:W3.cell? ⟨w.heap.size+1,2,none⟩=some (.int .i64 (r:Nat)):=(cell_blk L3.o1 2).trans rfl
     have c5:W3.cell? ⟨w.heap.size+1,4,none⟩=some (.int .u16 0):=(cell_blk L3.o1 4).trans rfl
     have c6:W3.cell? ⟨w.heap.size+1,5+r,none⟩=some (.int .u16 (bn:Nat)):=by rw [← hbn];exact place_tab L3.o1 r (by rw [zt_length];exact hr)
     have z6:=frozen_blk L3.o1
     have L5:=L3.setCell 1 rfl 4 (.int .u16 (bn:Nat))
     rw [place_set4] at L5
     dsimp only [List.set_cons_succ,List.set_cons_zero] at L5
     generalize hW5:World.setCell W3 ⟨w.heap.size+1,4,none⟩ (.int .u16 (bn:Nat))=W5 at L5
     have l1:=blk_has L5.o1 (n:=37) (placeCells_length _ zt_length)
     have l2:=blk_cells L5.o1 (n:=37) (placeCells_length _ zt_length)
     have th:=there_blk L5.o0 0 37 (by simp [placeCells,tv_length,zp,zt_length])
     have L6:=L5.setCells 0 rfl 0 (placeCells ⟨first,q,r,0,bn,zt⟩)
     rw [Nat.add_zero,setList_all _ _ (by simp [placeCells,tv_length,zp,zt_length])] at L6
     have l3:=blk_has L6.o0 (n:=37) (placeCells_length _ zt_length)
     have l4:=blk_cells L6.o0 (n:=37) (placeCells_length _ zt_length)
     have HB:=hide L6.below
     have htl:(PlaceR.tab ⟨first,q,r,0,bn,zt⟩).length=32:=zt_length
     clear L5 L6 L3
     have hb0:bn=0:=by rw [← hbn,zt,List.getD_eq_getElem?_getD,List.getElem?_replicate];split <;> rfl
     have HP:Hid (findR V.C first b=⟨first,q,r,0,bn,zt⟩):=by have:=uh HP;rw [hb0];exact this
     clear hb0 hbn
     generalize (⟨first,q,r,0,bn,zt⟩:PlaceR)=p at*
     go_wp2
     refine bodyPost_ret (results_cell Tryz.results104 ⟨w.heap.size,0,none⟩ rfl ?_) rfl ⟨rfl,uh HB⟩
     rw [loadVar_place,run_loadPlace l3,l4,uh HP]
   · rw [if_neg hs0,if_neg hs0] at HP
     have hsn:(((s:Nat):Int) != 0)=true:=by rw [bne_iff_ne];omega
     have Hc:=hide (cluster_of s hsl W3)
     have Ht:=hide (table_vol _ v Cv Lv V ((uh Hh).below L3.below) (s%32768) (hs hs0))
     have L3:=hide L3
     go_wp2_with fail
     refine (uh Hc).mono ?_
     rintro e w4 ⟨rfl,rfl⟩
     go_wp2_with fail
     refine (uh Ht).mono ?_
     rintro e w4 ⟨rfl,hb4⟩
     have L4:=(uh L3).later hb4
     have hnl:=numsOf_length (cl V.C (s%32768))
     have th4:=there_blk L4.o1 5 32 (by simp [placeCells,tv_length,zt_length])
     have L4:=L4.setCells 1 rfl 5 (tv (numsOf (cl V.C (s%32768))))
     rw [place_setTab _ _ zt_length hnl] at L4
     dsimp only [List.set_cons_succ,List.set_cons_zero] at L4
     generalize hW4:World.setCells w4 (w.heap.size+1) 5 (tv (numsOf (cl V.C (s%32768))))=W4 at L4
     obtain ⟨bn,hbn⟩: ∃ bn,(numsOf (cl V.C (s%32768))).getD r 0=bn:=⟨_,rfl⟩
     have c4:W4.cell? ⟨w.heap.size+1,2,none⟩=some (.int .i64 (r:Nat)):=(cell_blk L4.o1 2).trans rfl
     have c5:W4.cell? ⟨w.heap.size+1,4,none⟩=some (.int .u16 0):=(cell_blk L4.o1 4).trans rfl
     have c6:W4.cell? ⟨w.heap.size+1,5+r,none⟩=some (.int .u16 (bn:Nat)):=by rw [← hbn];exact place_tab L4.o1 r (by rw [numsOf_length];exact hr)
     have z6:=frozen_blk L4.o1
     have L5:=L4.setCell 1 rfl 4 (.int .u16 (bn:Nat))
     rw [place_set4] at L5
     dsimp only [List.set_cons_succ,List.set_cons_zero] at L5
     generalize hW5:World.setCell W4 ⟨w.heap.size+1,4,none⟩ (.int .u16 (bn:Nat))=W5 at L5
     have l1:=blk_has L5.o1 (n:=37) (placeCells_length _ (numsOf_length _))
     have l2:=blk_cells L5.o1 (n:=37) (placeCells_length _ (numsOf_length _))
     have th:=there_blk L5.o0 0 37 (by simp [placeCells,tv_length,zp,zt_length])
     have L6:=L5.setCells 0 rfl 0 (placeCells ⟨first,q,r,s,bn,numsOf (cl V.C (s%32768))⟩)
     rw [Nat.add_zero,setList_all _ _ (by simp [placeCells,tv_length,zp,zt_length,numsOf_length])] at L6
     have l3:=blk_has L6.o0 (n:=37) (placeCells_length _ (numsOf_length _))
     have l4:=blk_cells L6.o0 (n:=37) (placeCells_length _ (numsOf_length _))
     have HB:=hide L6.below
     have htl:(PlaceR.tab ⟨first,q,r,s,bn,numsOf (cl V.C (s%32768))⟩).length=32:=numsOf_length _
     clear L5 L6 L4
     have HP:Hid (findR V.C first b=⟨first,q,r,s,bn,numsOf (cl V.C (s%32768))⟩):=by have:=uh HP;rw [← hbn,numsOf_get _ _ hr];exact this
     clear hbn Hc Ht L3 hb4
     generalize (⟨first,q,r,s,bn,numsOf (cl V.C (s%32768))⟩:PlaceR)=p at*
     go_wp2
     refine bodyPost_ret (results_cell Tryz.results104 ⟨w.heap.size,0,none⟩ rfl ?_) rfl ⟨rfl,uh HB⟩
     rw [loadVar_place,run_loadPlace l3,l4,uh HP]
end Go.Proofs.YtknjjjenklfeoaaGreatDoor
