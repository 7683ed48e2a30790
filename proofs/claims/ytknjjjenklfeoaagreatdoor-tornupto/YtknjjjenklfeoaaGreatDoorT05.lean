import Derived.Test.YtknjjjenklfeoaaGreatDoorT04
import Derived.Test.YtknjjjenklfeoaaGreatDoorT03
set_option maxHeartbeats 8000000
set_option maxRecDepth 100000
namespace Go.Proofs.YtknjjjenklfeoaaGreatDoor
open Go.RowKit
attribute [local go_sem ↓] loadVar_clus storeVar_clus zeroValue_clus loadVar_tab storeVar_tab zeroValue_tab loadVar_cnt storeVar_cnt zeroValue_cnt loadVar_head storeVar_head zeroValue_head build_head buildSlice_clus loadVar_wr storeVar_wr zeroValue_wr build_wr buildSlice_wr
attribute [local go_sem] run_loadClus run_storeClus run_zeroClus run_storeClus_new run_loadClus_new zc_length run_loadTab run_storeTab run_zeroTab run_storeTab_new run_loadTab_new zt_length run_loadCnt run_storeCnt run_zeroCnt run_storeCnt_new run_loadCnt_new zk_length run_loadHead run_storeHead run_zeroHead run_storeHead_new run_bHead HasAt_drew cellsAt_drew HasAt_drewN cellsAt_drewN run_bsClus run_loadWr run_zeroWr run_storeWr run_storeWr_new run_bWr0 run_bsWr
theorem at_any (w:World) (v:Nat) (Cv Lv:Value) (V:VolR) (h:VolAt w v Cv Lv V) (n:Nat) (hn:n<V.C.length):
   Calls Tryz.prog 142 #[.pointer (some ⟨v,0,none⟩),.int .i64 (n:Nat)] w fun e w'=>e= .returned (.agg (cv (cl V.C n)).toArray)∧Below w.heap.size w w':=by
 obtain ⟨g,cap,rfl,_⟩:=row_some h.rowC (by omega)
 have L0:=Locs.one w (.cells (cv zc).toArray 38)
 have h1:=h.below L0.below
 have c0:=h1.c0
 have l1:=row_has h1.rowC h1.lenC n hn
 have l2:=row_cells h1.rowC h1.lenC n hn
 have hcl:=cl_length h.lenC hn
 have hni:(n:Int)<(V.C.length:Int):=by omega
 have HB:=hide L0.below
 generalize hcc:cl V.C n=c at*
 have HB:=hide ((uh HB).alloc (o:= .cells (cv c).toArray 38) (by simp))
 have HB2:Hid (Below w.heap.size w (w.alloc (.cells (cv c).toArray 38))):=(Below.refl _ _).alloc (Nat.le_refl _) _
 clear HB h1 h L0
 go_enter Tryz.func142,Tryz.ntmps142
 go_wp2
 refine bodyPost_ret (results_cell Tryz.results142 ⟨w.heap.size,0,none⟩ rfl ?_) rfl ⟨rfl,uh HB2⟩
 rw [loadVar_clus,run_loadClus_new hcl]
def flushW:WrR:=⟨-1,zc⟩
def flushV (V:VolR):VolR:=if V.loose then ⟨V.C,V.L++[flushW],false,V.short⟩ else V
theorem VolAt.growLog {w w5:World} {v:Nat} {Cv Lv v':Value} {V:VolR} {L':List WrR} {l:Bool} (h:VolAt w v Cv Lv V) (hg:w.grownBy w5 Lv.ownBlock) (hrow:w5.ownsRow 0 104 65 v' L'.length (flatW L')) (hL': ∀ x ∈ L',x.data.length=64) (hat: ∀ g,v'.ownBlock=some g→Lv.ownBlock=some g∨w.heap.size≤g):
   VStep w ((w5.setCell ⟨v,1,none⟩ v').setCell ⟨v,2,none⟩ (.bool l)) v Cv Lv Cv v' ⟨V.C,L',l,V.short⟩:=by
 have b5:w5.heap[v]? = some (.cells (volCells Cv Lv V).toArray 121 (0,0)):=grown_blk hg h.blk h.neL
 have b6:=heap_setCell_same _ _ 2 (.bool l) _ _ _ (heap_setCell_same w5 v 1 v' _ _ _ b5)
 have hk5:Kept (fun k=>Lv.ownBlock=some k) w w5:=⟨hg.os,hg.tape,hg.output,hg.size,fun k hk hs=>hg.block k hk (fun e=>hs e.symm)⟩
 have hkS:Kept (fun k=>k=v) w5 ((w5.setCell ⟨v,1,none⟩ v').setCell ⟨v,2,none⟩ (.bool l)):=(Kept.only w5 v 1 v').trans (Kept.only _ v 2 _)
 refine ⟨⟨?_,?_,?_,h.lenC,hL',h.sh⟩,?_,?_⟩
 · rw [b6];rfl
 · refine ownsRow_kept hkS (ownsRow_kept hk5 h.rowC (fun g hg' hl=>h.neCL g hl hg')) (fun g hg'=>h.neC g hg')
 · exact ownsRow_kept hkS hrow (fun g hg' e=>by
     subst e
     rcases hat _ hg' with h1 | h1
     · exact h.neL _ h1 rfl
     · have:=h.lt;omega)
 · exact (hk5.mono (fun k hk=>Or.inr (Or.inr hk))).trans (hkS.mono (fun k hk=>Or.inl hk))
 · rintro k (rfl | hk | hk)
   · exact Or.inl (Or.inl rfl)
   · exact Or.inl (Or.inr (Or.inl hk))
   · rcases hat k hk with h1 | h1
     · exact Or.inl (Or.inr (Or.inr h1))
     · exact Or.inr h1
theorem flush_any (w:World) (v:Nat) (Cv Lv:Value) (V:VolR) (h:VolAt w v Cv Lv V) (hL:V.L.length≤1000000000):
   Calls Tryz.prog 71 #[.pointer (some ⟨v,0,none⟩)] w fun e w'=>e= .returned (.tuple #[])∧ ∃ Cv' Lv',VStep w w' v Cv Lv Cv' Lv' (flushV V):=by
 have c2:=h.c2
 cases hl:V.loose with
 | false=>
   rw [hl] at c2
   have HR:=hide (VStep.refl h)
   have HV:Hid (flushV V=V):=by unfold flushV;rw [hl];rfl
   go_enter Tryz.func71,Tryz.ntmps71
   go_wp2
   refine bodyPost_ret (results_none rfl _ _ _) rfl ?_
   exact ⟨rfl,Cv,Lv,by rw [uh HV];exact uh HR⟩
 | true=>
   rw [hl] at c2
   have c1:=h.c1
   obtain ⟨i0,hi0,hz0,hz1,hz2⟩:=info_parts Tryz.infoWr
   have HV:Hid (flushV V=⟨V.C,V.L++[flushW],false,V.short⟩):=by unfold flushV;rw [hl];rfl
   have hfz:=h.fz
   have H:=hide h
   have c1': ∀ o,(w.alloc o).cell? ⟨v,1,none⟩=some Lv:=fun o=>(h.alloc o).c1
   clear h
   go_enter Tryz.func71,Tryz.ntmps71
   go_wp2_with (at_builtin;refine wpList_append_lies _ rfl _ _ _ rfl 0 104 i0 _ 65 72 Tryz.underlying58 hi0 hz0 hz1 hz2 (by simp [Value.cells,wrCells,cv_length,zc_length]) (by omega) Lv V.L.length (flatW V.L) rfl ((uh H).alloc _).rowL ⟨w.heap.size,0,none⟩ 1 1 (wrCells flushW) rfl (by rw [wrCells_length zc_length]) (World.news_of_block (cs:=(wrCells flushW).toArray) (t:=104) (fr:=(0,0)) (heap_alloc_new w _)) (wrCells_one flushW) (by omega) (by unfold maxLen;omega) (by omega) (by omega) (w.heap.size+1) (by simp) ?_;intro g5 cap5 w5 hown5 hgrow hat hlt5;have b5:=hide (grown_blk hgrow ((uh H).alloc _).blk (uh H).neL);have c51:w5.cell? ⟨v,1,none⟩=some Lv:=(cell_blk (uh b5) 1).trans rfl;have c52:w5.cell? ⟨v,2,none⟩=some (.bool V.loose):=(cell_blk (uh b5) 2).trans rfl;have z5: ∀ i,w5.frozen? ⟨v,i,none⟩=false:=fun i=>frozen_blk (uh b5) i)
   go_end0
   refine ⟨rfl,Cv,.slice (some ⟨g5,0,none⟩) (V.L.length+1) cap5,?_⟩
   rw [uh HV]
   refine (VStep.alloc (VStep.refl (uh H)) _).trans (VolAt.growLog ((uh H).alloc _) hgrow (L':=V.L++[flushW]) ?_ ?_ ?_)
   · rw [flatW_snoc,List.length_append];exact hown5
   · intro x hx
     rcases List.mem_append.1 hx with hx | hx
     · exact (uh H).lenL x hx
     · rw [List.mem_singleton.1 hx];exact zc_length
   · intro g hg
     simp only [Value.ownBlock,Option.some.injEq] at hg
     subst hg
     rcases hat with h1 | h1
     · exact Or.inl h1
     · right;simp;omega
end Go.Proofs.YtknjjjenklfeoaaGreatDoor
namespace Go.Proofs.YtknjjjenklfeoaaGreatDoor
open Go.RowKit
attribute [local go_sem ↓] loadVar_clus storeVar_clus zeroValue_clus loadVar_tab storeVar_tab zeroValue_tab loadVar_cnt storeVar_cnt zeroValue_cnt loadVar_head storeVar_head zeroValue_head build_head buildSlice_clus loadVar_wr storeVar_wr zeroValue_wr build_wr buildSlice_wr equalIn_clus
attribute [local go_sem] run_loadClus run_storeClus run_zeroClus run_storeClus_new run_loadClus_new zc_length run_loadTab run_storeTab run_zeroTab run_storeTab_new run_loadTab_new zt_length run_loadCnt run_storeCnt run_zeroCnt run_storeCnt_new run_loadCnt_new zk_length run_loadHead run_storeHead run_zeroHead run_storeHead_new run_bHead HasAt_drew cellsAt_drew HasAt_drewN cellsAt_drewN run_bsClus run_loadWr run_zeroWr run_storeWr run_storeWr_new run_bWr0 run_bsWr
def noteV (V:VolR) (n:Nat):VolR:=⟨V.C,V.L++[⟨n,cl V.C n⟩],true,V.short⟩
def completeV (V:VolR):VolR:=if V.short then noteV ⟨V.C,V.L,V.loose,false⟩ (V.C.length - 1) else V
def putW (V:VolR) (n:Nat) (data:Clus):VolR:=⟨(growTo V.C (n+1)).set n data,(completeV V).L++[⟨n,data⟩],true,false⟩
def putV (V:VolR) (n:Nat) (data:Clus):VolR:=
 if n<V.C.length∧cl V.C n=data then V else putW V n data
theorem completeV_C (V:VolR):(completeV V).C=V.C:=by unfold completeV;split <;> rfl
theorem completeV_short (V:VolR):(completeV V).short=false:=by
 unfold completeV
 by_cases h:V.short=true
 · rw [if_pos h];rfl
 · rw [if_neg h];simpa using h
theorem completeV_long {V:VolR} (h:V.short=false):completeV V=V:=by unfold completeV;rw [if_neg (by rw [h];decide)]
theorem completeV_lenL (V:VolR):(completeV V).L.length≤V.L.length+1:=by unfold completeV;split <;> simp [noteV]
theorem growTo_lens {l:List Clus} (hl: ∀ c ∈ l,c.length=64) (n:Nat): ∀ c ∈ growTo l n,c.length=64:=by
 intro c hc
 rcases List.mem_append.1 hc with h | h
 · exact hl c h
 · rw [List.eq_of_mem_replicate h];exact zc_length
theorem growTo_length (l:List Clus) (n:Nat):(growTo l n).length=max l.length n:=by simp [growTo];omega
theorem run_bWr2 {n:Int} {c:Clus} (hc:c.length=64) (w:World):(bWr #[(0,.int .i64 n),(1,.agg (cv c).toArray)]).run Tryz.prog w= .ok (.agg (wrCells ⟨n,c⟩).toArray) w:=by
 have hz:=(zero_of_info (P:=Tryz.prog) (t:=104) (v:= .agg (wrCells ⟨0,zc⟩).toArray) (n:=65) (by kernel_rfl)).1
 have hf:Instr.fill (fun x=>(#[(0,1),(1,64)]:Array (Nat × Nat))[x]?) ([Value.int .i64 0]++cv zc).toArray [(0,Value.int .i64 n),(1,.agg (cv c).toArray)]=some (wrCells ⟨n,c⟩).toArray:=by
   rw [fill_one _ _ 0 0 1 (.int .i64 n) _ (by rfl) (by rfl) (by simp),show (Value.int .i64 n).cells.toList=[Value.int .i64 n] from rfl,setList_front [Value.int .i64 0] (cv zc) [Value.int .i64 n] rfl,
     fill_one _ _ 1 1 64 (.agg (cv c).toArray) _ (by rfl) (by simp [Value.cells,cv_length,hc]) (by simp [cv_length,zc_length]),Instr.fill,show (Value.agg (cv c).toArray).cells.toList=cv c from rfl]
   have:=setList_back [Value.int .i64 n] (cv zc) (cv c) (by simp [cv_length,zc_length,hc])
   rw [show 1=[Value.int .i64 n].length from rfl,this];rfl
 exact run_build_struct w 104 _ (.agg (wrCells ⟨0,zc⟩).toArray) #[(0,1),(1,64)] #[(0,.int .i64 n),(1,.agg (cv c).toArray)] _ Tryz.underlying104 hz (fun w=>by kernel_rfl) hf
attribute [local go_sem] run_bWr2
theorem put_same (w:World) (v:Nat) (Cv Lv:Value) (V:VolR) (h:VolAt w v Cv Lv V) (n:Nat) (hn:n<V.C.length) (data:Clus) (hd:cl V.C n=data) (hL:V.C.length≤1000):
   Calls Tryz.prog 70 #[.pointer (some ⟨v,0,none⟩),.int .i64 (n:Nat),.agg (cv data).toArray] w fun e w'=>e= .returned (.tuple #[])∧ ∃ Cv' Lv',VStep w w' v Cv Lv Cv' Lv' V:=by
 obtain ⟨g,cap,rfl,_⟩:=row_some h.rowC (by omega)
 have hcl:=cl_length h.lenC hn
 rw [hd] at hcl
 have L0:=Locs.one w (.cells (cv data).toArray 38)
 have h1:=h.below L0.below
 have c0:=h1.c0
 have l1:=fun m=>row_has (h1.drewN m).rowC h1.lenC n hn
 have l2:=fun m=>row_cells (h1.drewN m).rowC h1.lenC n hn
 have l3:=fun m=>box_has (L0.drewN m).o0 hcl
 have l4:=fun m=>box_cells (L0.drewN m).o0 hcl
 have hni:(n:Int)<(V.C.length:Int):=by omega
 have dn:decide ((n:Int)<(V.C.length:Int))=true:=by simpa using hni
 have HS:=hide ((VStep.refl h).later L0.below)
 have he:=run_eqClus hcl hcl
 rw [decide_eq_true rfl] at he
 rw [hd] at l2
 clear L0 h1
 go_enter Tryz.func70,Tryz.ntmps70
 go_wp2
 go_quiet (fail)
 go_wp2
 refine bodyPost_ret (results_none rfl _ _ _) rfl ?_
 exact ⟨rfl,_,_,(uh HS).drewN _⟩
theorem VolAt.growC {w w5:World} {v:Nat} {Cv Lv v':Value} {V:VolR} {C':List Clus} (h:VolAt w v Cv Lv V) (hg:w.grownBy w5 Cv.ownBlock) (hrow:w5.ownsRow 0 38 64 v' C'.length (flatC C')) (hC': ∀ x ∈ C',x.length=64) (hlen:V.C.length≤C'.length) (hat: ∀ g,v'.ownBlock=some g→Cv.ownBlock=some g∨w.heap.size≤g):
   VStep w (w5.setCell ⟨v,0,none⟩ v') v Cv Lv v' Lv ⟨C',V.L,V.loose,V.short⟩:=by
 have b5:w5.heap[v]? = some (.cells (volCells Cv Lv V).toArray 121 (0,0)):=grown_blk hg h.blk h.neC
 have b6:=heap_setCell_same w5 v 0 v' _ _ _ b5
 have hk5:Kept (fun k=>Cv.ownBlock=some k) w w5:=⟨hg.os,hg.tape,hg.output,hg.size,fun k hk hs=>hg.block k hk (fun e=>hs e.symm)⟩
 have hkS:=Kept.only w5 v 0 v'
 refine ⟨⟨?_,?_,?_,hC',h.lenL,fun hs=>Nat.lt_of_lt_of_le (h.sh hs) hlen⟩,?_,?_⟩
 · rw [b6];rfl
 · exact ownsRow_kept hkS hrow (fun g hg' e=>by
     subst e
     rcases hat _ hg' with h1 | h1
     · exact h.neC _ h1 rfl
     · have:=h.lt;omega)
 · refine ownsRow_kept hkS (ownsRow_kept hk5 h.rowL (fun g hg' hl=>h.neCL g hg' hl)) (fun g hg'=>h.neL g hg')
 · exact (hk5.mono (fun k hk=>Or.inr (Or.inl hk))).trans (hkS.mono (fun k hk=>Or.inl hk))
 · rintro k (rfl | hk | hk)
   · exact Or.inl (Or.inl rfl)
   · rcases hat k hk with h1 | h1
     · exact Or.inl (Or.inr (Or.inl h1))
     · exact Or.inr h1
   · exact Or.inl (Or.inr (Or.inr hk))
theorem VolAt.setC {w:World} {v g cap:Nat} {Lv:Value} {V:VolR} (h:VolAt w v (.slice (some ⟨g,0,none⟩) V.C.length cap) Lv V) (k:Nat) (hk:k<V.C.length) (c:Clus) (hc:c.length=64):
   VStep w (w.setCells g (k*64) (cv c)) v (.slice (some ⟨g,0,none⟩) V.C.length cap) Lv (.slice (some ⟨g,0,none⟩) V.C.length cap) Lv ⟨V.C.set k c,V.L,V.loose,V.short⟩:=by
 have hkS:=Kept.onlys w g (k*64) (cv c)
 refine ⟨⟨?_,?_,?_,?_,h.lenL,fun hs=>by simpa using h.sh hs⟩,hkS.mono (fun x hx=>Or.inr (Or.inl (by rw [hx];rfl))),fun k hk=>Or.inl hk⟩
 · exact hkS.blk (fun e=>h.neC g rfl e.symm) h.blk
 · have:=row_set h.rowC h.lenC k hk c hc;exact this
 · exact ownsRow_kept hkS h.rowL (fun g' hg' e=>h.neCL g' hg' (by rw [e];rfl))
 · intro x hx
   rcases List.mem_or_eq_of_mem_set hx with y | y
   · exact h.lenC x y
   · rw [y];exact hc
theorem VolAt.setShort {w:World} {v:Nat} {Cv Lv:Value} {V:VolR} (h:VolAt w v Cv Lv V):VStep w (w.setCell ⟨v,3,none⟩ (.bool false)) v Cv Lv Cv Lv ⟨V.C,V.L,V.loose,false⟩:=by
 have hkS:=Kept.only w v 3 (.bool false)
 have b6:=heap_setCell_same w v 3 (.bool false) _ _ _ h.blk
 refine ⟨⟨?_,ownsRow_kept hkS h.rowC (fun g hg e=>h.neC g hg e),ownsRow_kept hkS h.rowL (fun g hg e=>h.neL g hg e),h.lenC,h.lenL,fun hs=>by cases hs⟩,hkS.mono (fun k hk=>Or.inl hk),fun k hk=>Or.inl hk⟩
 rw [b6];rfl
theorem put_end {w U w5:World} {v n g5 cap5:Nat} {Cv Lv C1:Value} {C':List Clus} {L:List WrR} {l s:Bool} {data:Clus} (h:VStep w U v Cv Lv C1 Lv ⟨C',L,l,s⟩) (hdl:data.length=64)
   (hgrow:(U.alloc (.cells (wrCells ⟨n,data⟩).toArray 104)).drew.grownBy w5 Lv.ownBlock) (hown5:w5.ownsRow 0 104 65 (.slice (some ⟨g5,0,none⟩) (L.length+1) cap5) (L.length+1) (flatW L++wrCells ⟨n,data⟩))
   (hat:Lv.ownBlock=some g5∨g5=U.heap.size+1):
   VStep w ((w5.setCell ⟨v,1,none⟩ (.slice (some ⟨g5,0,none⟩) (L.length+1) cap5)).setCell ⟨v,2,none⟩ (.bool true)) v Cv Lv C1 (.slice (some ⟨g5,0,none⟩) (L.length+1) cap5) ⟨C',L++[⟨n,data⟩],true,s⟩:=by
 refine ((h.alloc (.cells (wrCells ⟨n,data⟩).toArray 104)).drew).trans (VolAt.growLog (h.alloc (.cells (wrCells ⟨n,data⟩).toArray 104)).drew.at' hgrow (L':=L++[⟨n,data⟩]) ?_ ?_ ?_)
 · rw [flatW_snoc,List.length_append];exact hown5
 · intro x hx
   rcases List.mem_append.1 hx with hx | hx
   · exact h.at'.lenL x hx
   · rw [List.mem_singleton.1 hx];exact hdl
 · intro g hg
   simp only [Value.ownBlock,Option.some.injEq] at hg
   subst hg
   rcases hat with h1 | h1
   · exact Or.inl h1
   · right
     show (U.alloc _).heap.size≤_
     simp;omega
theorem note_any (w:World) (v:Nat) (Cv Lv:Value) (V:VolR) (h:VolAt w v Cv Lv V) (n:Nat) (hn:n<V.C.length) (hC:V.C.length≤2000) (hL:V.L.length≤1100000000):
   Calls Tryz.prog 133 #[.pointer (some ⟨v,0,none⟩),.int .i64 (n:Nat)] w fun e w'=>e= .returned (.tuple #[])∧ ∃ Cv' Lv',VStep w w' v Cv Lv Cv' Lv' (noteV V n):=by
 obtain ⟨i1,hi1,hy0,hy1,hy2⟩:=info_parts Tryz.infoWr
 obtain ⟨g0,cap0,hCv,_⟩:=row_some h.rowC (by omega)
 subst hCv
 have hcl:=cl_length h.lenC hn
 have d0:=h.drew.c0
 have d1:=h.drew.c1
 have d1': ∀ o,(w.alloc o).drew.cell? ⟨v,1,none⟩=some Lv:=fun o=>(h.alloc o).drew.c1
 have l1:=row_has h.drew.rowC h.lenC n hn
 have l2:=row_cells h.drew.rowC h.lenC n hn
 have hni:(n:Int)<(V.C.length:Int):=by omega
 have HV:Hid (noteV V n=⟨V.C,V.L++[⟨n,cl V.C n⟩],true,V.short⟩):=rfl
 generalize cl V.C n=c at*
 have H:=hide h
 clear h
 go_enter Tryz.func133,Tryz.ntmps133
 go_wp2
 go_region_law (refine step_append_lies _ (by rfl) _ _ _ (by rfl) 0 104 i1 _ 65 72 Tryz.underlying58 hi1 hy0 hy1 hy2 (by simp [Value.cells,wrCells,cv_length,zc_length]) (by omega) Lv V.L.length (flatW V.L) (by rfl) ((uh H).drew.alloc _).rowL ⟨w.heap.size,0,none⟩ 1 1 (wrCells ⟨n,c⟩) (by rfl) (by rw [wrCells_length hcl]) (World.news_of_block (cs:=(wrCells ⟨n,c⟩).toArray) (t:=104) (fr:=(0,0)) (heap_alloc_new w.drew _)) (wrCells_one _) (by omega) (by unfold maxLen;omega) (by omega) (by omega) (w.heap.size+1) (by simp) ?_;intro g5 cap5 w5 hown5 hgrow hat hlt5;have b5:=hide (grown_blk hgrow ((uh H).drew.alloc _).blk (uh H).neL);have c51:w5.cell? ⟨v,1,none⟩=some Lv:=(cell_blk (uh b5) 1).trans rfl;have c52:w5.cell? ⟨v,2,none⟩=some (.bool V.loose):=(cell_blk (uh b5) 2).trans rfl;have z5: ∀ i,w5.frozen? ⟨v,i,none⟩=false:=fun i=>frozen_blk (uh b5) i)
 all_goals
   go_wp2
   go_end0
   have E9:=put_end (VStep.refl (uh H)) hcl hgrow hown5 hat
   rw [← uh HV] at E9
   exact ⟨rfl,_,_,E9⟩
theorem complete_any (w:World) (v:Nat) (Cv Lv:Value) (V:VolR) (h:VolAt w v Cv Lv V) (hC:V.C.length≤1000) (hL:V.L.length≤1100000000):
   Calls Tryz.prog 113 #[.pointer (some ⟨v,0,none⟩)] w fun e w'=>e= .returned (.tuple #[])∧ ∃ Cv' Lv',VStep w w' v Cv Lv Cv' Lv' (completeV V):=by
 have c3:=h.c3
 cases hs:V.short with
 | false=>
   rw [hs] at c3
   have HR:=hide (VStep.refl h)
   have HV:Hid (completeV V=V):=completeV_long hs
   clear h
   go_enter Tryz.func113,Tryz.ntmps113
   go_wp2
   go_end0
   exact ⟨rfl,Cv,Lv,by rw [uh HV];exact uh HR⟩
 | true=>
   rw [hs] at c3
   have hpos:=h.sh hs
   have z3:=h.fz 3
   have S1:=h.setShort
   have HV:Hid (completeV V=noteV ⟨V.C,V.L,V.loose,false⟩ (V.C.length - 1)):=hide (by unfold completeV;rw [if_pos hs])
   have Hn:=note_any _ _ _ _ _ S1.at' (V.C.length - 1) (by show _<V.C.length;omega) (by show V.C.length≤2000;omega) hL
   have ei:((V.C.length - 1:Nat):Int)=(V.C.length:Int) - 1:=by omega
   rw [ei] at Hn
   have Hn:=hide Hn
   have c0:=S1.at'.c0
   obtain ⟨ca,cap,hCv⟩:=row_form h.rowC
   subst hCv
   have HS:=hide S1
   clear S1 h ei
   go_enter Tryz.func113,Tryz.ntmps113
   go_wp2_with fail
   refine (uh Hn).mono ?_
   rintro e w1 ⟨rfl,C1,L1,hS1⟩
   have E1:=hide ((uh HS).trans hS1)
   clear hS1
   go_wp2
   go_end0
   refine ⟨rfl,C1,L1,?_⟩
   rw [uh HV]
   exact uh E1
end Go.Proofs.YtknjjjenklfeoaaGreatDoor
namespace Go.Proofs.YtknjjjenklfeoaaGreatDoor
open Go.RowKit
attribute [local go_sem ↓] loadVar_clus storeVar_clus zeroValue_clus loadVar_tab storeVar_tab zeroValue_tab loadVar_cnt storeVar_cnt zeroValue_cnt loadVar_head storeVar_head zeroValue_head build_head buildSlice_clus loadVar_wr storeVar_wr zeroValue_wr build_wr buildSlice_wr equalIn_clus
attribute [local go_sem] run_loadClus run_storeClus run_zeroClus run_storeClus_new run_loadClus_new zc_length run_loadTab run_storeTab run_zeroTab run_storeTab_new run_loadTab_new zt_length run_loadCnt run_storeCnt run_zeroCnt run_storeCnt_new run_loadCnt_new zk_length run_loadHead run_storeHead run_zeroHead run_storeHead_new run_bHead HasAt_drew cellsAt_drew HasAt_drewN cellsAt_drewN run_bsClus run_loadWr run_zeroWr run_storeWr run_storeWr_new run_bWr0 run_bsWr
attribute [local go_sem] run_bWr2
theorem cl_set_at {C:List Clus} {n:Nat} (h:n<C.length) (d:Clus):cl (C.set n d) n=d:=by
 unfold cl
 rw [List.getD_eq_getElem?_getD,List.getElem?_set,if_pos rfl,if_pos h];rfl
theorem put_far (w:World) (v:Nat) (Cv Lv:Value) (V:VolR) (h:VolAt w v Cv Lv V) (n:Nat) (hn:n≤1000) (data:Clus) (hdl:data.length=64) (hd:V.C.length≤n) (hC:V.C.length≤1000) (hL:V.L.length≤1000000000):
   Calls Tryz.prog 70 #[.pointer (some ⟨v,0,none⟩),.int .i64 (n:Nat),.agg (cv data).toArray] w fun e w'=>e= .returned (.tuple #[])∧ ∃ Cv' Lv',VStep w w' v Cv Lv Cv' Lv' (putW V n data):=by
 obtain ⟨i0,hi0,hz0,hz1,hz2⟩:=info_parts Tryz.infoClus
 obtain ⟨i1,hi1,hy0,hy1,hy2⟩:=info_parts Tryz.infoWr
 have E0:=(Env.start h).lay (.cells (cv data).toArray 38)
 have c0:=E0.at'.c0
 obtain ⟨ca0,cap0,hCv⟩:=row_form h.rowC
 subst hCv
 have dn:decide (n<V.C.length)=false:=by simp;omega
 have E0:=hide E0
 clear h
 go_enter Tryz.func70,Tryz.ntmps70
 go_wp2
 go_quiet (fail)
 have E1:=hide ((uh E0).drewN nq)
 clear E0 c0
 generalize (w.alloc (.cells (cv data).toArray 38)).drewN nq=W0 at*
 generalize hCV:Value.slice ca0 V.C.length cap0=Cv at*
 go_wp2_with fail
 refine (complete_any W0 v Cv Lv V (uh E1).at' hC (by omega)).mono ?_
 rintro e W ⟨rfl,Ck,Lk,hSk⟩
 have E2:=hide ((uh E1).does hSk)
 clear E1 hSk
 have E1:=E2
 clear E2
 have hkC:=completeV_C V
 have hkS:=completeV_short V
 have hkL:=completeV_lenL V
 have HP:Hid (putW V n data=⟨(growTo V.C (n+1)).set n data,(completeV V).L++[⟨n,data⟩],true,false⟩):=rfl
 generalize completeV V=K at*
 obtain ⟨KC,KL,Kl,Ks⟩:=K
 dsimp only at hkC hkS hkL HP E1
 subst hkC
 subst hkS
 go_wp2
 go_loopw [26] (fun _ w'=> ∃ (C1:Value) (m:Nat),Env w w' v Cv Lv C1 Lk ⟨V.C++List.replicate m zc,KL,Kl,false⟩ [(w.heap.size,.cells (cv data).toArray 38)]∧V.C.length+m≤max V.C.length (n+1)) (fun _ w'=>n+1 - sliceLen ((w'.cell? ⟨v,0,none⟩).getD undef))
 case atStart=>exact ⟨Ck,0,by simpa using uh E1,by omega⟩
 case round=>
   obtain ⟨C1,m,hE,hm⟩:=hrel
   clear E1
   have hv:=hE.at'
   have hvl:(V.C++List.replicate m zc).length=V.C.length+m:=by simp
   have rowC:=hv.rowC
   rw [hvl] at rowC
   obtain ⟨ca,cap,rfl⟩:=row_form rowC
   have c0:=hv.c0
   by_cases hlt:V.C.length+m≤n
   · have dl:decide (((V.C.length+m:Nat):Int)≤(n:Int))=true:=by simp;omega
     have c0': ∀ o,(wr.alloc o).cell? ⟨v,0,none⟩=some _:=fun o=>(hv.alloc o).c0
     have HE:=hide hE
     have Hrow:=hide rowC
     have Hc0:=hide c0
     have Hv:=hide hv
     clear hE hv rowC
     go_wp2_with (at_builtin;refine wpList_append_lies _ rfl _ _ _ rfl 0 38 i0 _ 64 64 Tryz.underlying28 hi0 hz0 hz1 hz2 (by simp [Value.cells,cv_length,zc_length]) (by omega) (.slice ca (V.C.length+m) cap) (V.C.length+m) (flatC (V.C++List.replicate m zc)) rfl ((uh Hrow).alloc _) ⟨wr.heap.size,0,none⟩ 1 1 (cv zc) rfl (by rw [cv_length,zc_length]) (World.news_of_block (cs:=(cv zc).toArray) (t:=38) (fr:=(0,0)) (heap_alloc_new wr _)) (cv_one zc) (by omega) (by unfold maxLen;omega) (by omega) (by omega) (wr.heap.size+1) (by simp) ?_;intro g5 cap5 w5 hown5 hgrow hat hlt5;have b5:=hide (grown_blk hgrow ((uh Hv).alloc _).blk (uh Hv).neC);have c5:w5.cell? ⟨v,0,none⟩=some _:=(cell_blk (uh b5) 0).trans rfl;have z5: ∀ i,w5.frozen? ⟨v,i,none⟩=false:=fun i=>frozen_blk (uh b5) i)
     have S1:=hide ((uh HE).does ((VStep.alloc (VStep.refl (uh Hv)) _).trans (VolAt.growC ((uh Hv).alloc _) hgrow (C':=V.C++List.replicate (m+1) zc) (v':= .slice (some ⟨g5,0,none⟩) (V.C.length+m+1) cap5) (by
       rw [List.replicate_succ',← List.append_assoc,flatC_snoc,List.length_append,hvl];exact hown5) (by
       intro x hx
       rcases List.mem_append.1 hx with hx | hx
       · exact (uh Hv).lenC x (List.mem_append_left _ hx)
       · rw [List.eq_of_mem_replicate hx];exact zc_length) (by simp) (by
       intro g hg
       simp only [Value.ownBlock,Option.some.injEq] at hg
       subst hg
       rcases hat with h1 | h1
       · exact Or.inl h1
       · right;simp;omega))))
     go_roundw
     case rel=>exact ⟨_,m+1,uh S1,by omega⟩
     case measure=>
       rw [(uh S1).at'.c0,uh Hc0]
       simp [sliceLen];omega
   · have dl:decide (((V.C.length+m:Nat):Int)≤(n:Int))=false:=by simp;omega
     obtain ⟨g,cap',e3,_⟩:=row_some rowC (by omega)
     obtain ⟨rfl,rfl⟩:ca=some ⟨g,0,none⟩∧cap=cap':=by injection e3 with x1 x2 x3;exact ⟨x1,x3⟩
     have hg1:V.C++List.replicate m zc=growTo V.C (n+1):=by
       unfold growTo
       congr 2
       omega
     have hnl:n<(V.C++List.replicate m zc).length:=by rw [hvl];omega
     have l1:=box_has hE.drew.o0 hdl
     have l2:=box_cells hE.drew.o0 hdl
     have hv':VolAt wr v (.slice (some ⟨g,0,none⟩) (V.C++List.replicate m zc).length cap) Lk ⟨V.C++List.replicate m zc,KL,Kl,false⟩:=by rw [hvl];exact hv
     have th:wr.drew.there g (n*64) 64:=row_there hv'.drew.rowC n hnl
     have S2:=VolAt.setC (V:=⟨V.C++List.replicate m zc,KL,Kl,false⟩) hv'.drew n hnl data hdl
     simp only at S2
     rw [hvl] at S2
     have E2:=hide (hE.drew.does S2)
     have hni:(n:Int)<((V.C.length+m:Nat):Int):=by omega
     clear hv' hv rowC e3 hE S2
     go_wp2
     go_region
     generalize hU:World.setCells wr.drew g (n*64) (cv data)=U at*
     rw [hg1] at E2
     clear hU l1 l2 th c0 hg1
     have hnl2:n<((growTo V.C (n+1)).set n data).length:=by rw [List.length_set,growTo_length];omega
     have Hn:=note_any _ _ _ _ _ (uh E2).at' n hnl2 (by show ((growTo V.C (n+1)).set n data).length≤2000;rw [List.length_set,growTo_length];omega) (by show KL.length≤_;omega)
     have HQ:Hid (noteV ⟨(growTo V.C (n+1)).set n data,KL,Kl,false⟩ n=putW V n data):=by
       rw [uh HP]
       unfold noteV
       rw [cl_set_at (by rw [growTo_length];omega)]
       exact hide rfl
     have Hn:=hide Hn
     go_wp2_with fail
     refine (uh Hn).mono ?_
     rintro e W9 ⟨rfl,C9,L9,hS9⟩
     rw [uh HQ] at hS9
     have E9:=(uh E2).step.trans hS9
     rw [← hCV] at E9
     have E9:=hide E9
     clear hS9
     go_wp2
     go_end0
     exact ⟨rfl,C9,L9,uh E9⟩
theorem put_near (w:World) (v:Nat) (Cv Lv:Value) (V:VolR) (h:VolAt w v Cv Lv V) (n:Nat) (hn:n≤1000) (data:Clus) (hdl:data.length=64) (hd:n<V.C.length) (hne:cl V.C n≠data) (hC:V.C.length≤1000) (hL:V.L.length≤1000000000):
   Calls Tryz.prog 70 #[.pointer (some ⟨v,0,none⟩),.int .i64 (n:Nat),.agg (cv data).toArray] w fun e w'=>e= .returned (.tuple #[])∧ ∃ Cv' Lv',VStep w w' v Cv Lv Cv' Lv' (putW V n data):=by
 obtain ⟨i1,hi1,hy0,hy1,hy2⟩:=info_parts Tryz.infoWr
 have E0:=(Env.start h).lay (.cells (cv data).toArray 38)
 have c0:=E0.at'.c0
 obtain ⟨g0,cap0,hCv,_⟩:=row_some h.rowC (by omega)
 subst hCv
 have hcl:=cl_length h.lenC hd
 have l1:=fun m=>row_has (E0.at'.drewN m).rowC E0.at'.lenC n hd
 have l2:=fun m=>row_cells (E0.at'.drewN m).rowC E0.at'.lenC n hd
 have l3:=fun m=>box_has (E0.drewN m).o0 hdl
 have l4:=fun m=>box_cells (E0.drewN m).o0 hdl
 have hni:(n:Int)<(V.C.length:Int):=by omega
 have dn:decide (n<V.C.length)=true:=by simpa using hd
 have he:=run_eqClus hcl hdl
 rw [decide_eq_false hne] at he
 have E0:=hide E0
 clear h
 go_enter Tryz.func70,Tryz.ntmps70
 go_wp2
 go_quiet (fail)
 have E1:=hide ((uh E0).drewN nq)
 clear E0 c0 l1 l2 l3 l4 he
 generalize (w.alloc (.cells (cv data).toArray 38)).drewN nq=W0 at*
 generalize hCV:Value.slice (some ⟨g0,0,none⟩) V.C.length cap0=Cv at*
 go_wp2_with fail
 refine (complete_any W0 v Cv Lv V (uh E1).at' hC (by omega)).mono ?_
 rintro e W ⟨rfl,Ck,Lk,hSk⟩
 have E2:=hide ((uh E1).does hSk)
 clear E1 hSk
 have E1:=E2
 clear E2
 have hkC:=completeV_C V
 have hkS:=completeV_short V
 have hkL:=completeV_lenL V
 have HP:Hid (putW V n data=⟨(growTo V.C (n+1)).set n data,(completeV V).L++[⟨n,data⟩],true,false⟩):=rfl
 generalize completeV V=K at*
 obtain ⟨KC,KL,Kl,Ks⟩:=K
 dsimp only at hkC hkS hkL HP E1
 subst hkC
 subst hkS
 go_wp2
 go_loopw [26] (fun _ w'=> ∃ (C1:Value) (m:Nat),Env w w' v Cv Lv C1 Lk ⟨V.C++List.replicate m zc,KL,Kl,false⟩ [(w.heap.size,.cells (cv data).toArray 38)]∧V.C.length+m≤max V.C.length (n+1)) (fun _ w'=>n+1 - sliceLen ((w'.cell? ⟨v,0,none⟩).getD undef))
 case atStart=>exact ⟨Ck,0,by simpa using uh E1,by omega⟩
 case round=>
   obtain ⟨C1,m,hE,hm⟩:=hrel
   clear E1
   have hv:=hE.at'
   have hvl:(V.C++List.replicate m zc).length=V.C.length+m:=by simp
   have rowC:=hv.rowC
   rw [hvl] at rowC
   obtain ⟨ca,cap,rfl⟩:=row_form rowC
   have c0:=hv.c0
   by_cases hlt:V.C.length+m≤n
   · exact absurd hlt (by omega)
   · have dl:decide (((V.C.length+m:Nat):Int)≤(n:Int))=false:=by simp;omega
     obtain ⟨g,cap',e3,_⟩:=row_some rowC (by omega)
     obtain ⟨rfl,rfl⟩:ca=some ⟨g,0,none⟩∧cap=cap':=by injection e3 with x1 x2 x3;exact ⟨x1,x3⟩
     have hg1:V.C++List.replicate m zc=growTo V.C (n+1):=by
       unfold growTo
       congr 2
       omega
     have hnl:n<(V.C++List.replicate m zc).length:=by rw [hvl];omega
     have l1:=box_has hE.drew.o0 hdl
     have l2:=box_cells hE.drew.o0 hdl
     have hv':VolAt wr v (.slice (some ⟨g,0,none⟩) (V.C++List.replicate m zc).length cap) Lk ⟨V.C++List.replicate m zc,KL,Kl,false⟩:=by rw [hvl];exact hv
     have th:wr.drew.there g (n*64) 64:=row_there hv'.drew.rowC n hnl
     have S2:=VolAt.setC (V:=⟨V.C++List.replicate m zc,KL,Kl,false⟩) hv'.drew n hnl data hdl
     simp only at S2
     rw [hvl] at S2
     have E2:=hide (hE.drew.does S2)
     have hni:(n:Int)<((V.C.length+m:Nat):Int):=by omega
     clear hv' hv rowC e3 hE S2
     go_wp2
     go_region
     generalize hU:World.setCells wr.drew g (n*64) (cv data)=U at*
     rw [hg1] at E2
     clear hU l1 l2 th c0 hg1
     have hnl2:n<((growTo V.C (n+1)).set n data).length:=by rw [List.length_set,growTo_length];omega
     have Hn:=note_any _ _ _ _ _ (uh E2).at' n hnl2 (by show ((growTo V.C (n+1)).set n data).length≤2000;rw [List.length_set,growTo_length];omega) (by show KL.length≤_;omega)
     have HQ:Hid (noteV ⟨(growTo V.C (n+1)).set n data,KL,Kl,false⟩ n=putW V n data):=by
       rw [uh HP]
       unfold noteV
       rw [cl_set_at (by rw [growTo_length];omega)]
       exact hide rfl
     have Hn:=hide Hn
     go_wp2_with fail
     refine (uh Hn).mono ?_
     rintro e W9 ⟨rfl,C9,L9,hS9⟩
     rw [uh HQ] at hS9
     have E9:=(uh E2).step.trans hS9
     rw [← hCV] at E9
     have E9:=hide E9
     clear hS9
     go_wp2
     go_end0
     exact ⟨rfl,C9,L9,uh E9⟩
theorem put_any (w:World) (v:Nat) (Cv Lv:Value) (V:VolR) (h:VolAt w v Cv Lv V) (n:Nat) (hn:n≤1000) (data:Clus) (hdl:data.length=64) (hC:V.C.length≤1000) (hL:V.L.length≤1000000000):
   Calls Tryz.prog 70 #[.pointer (some ⟨v,0,none⟩),.int .i64 (n:Nat),.agg (cv data).toArray] w fun e w'=>e= .returned (.tuple #[])∧ ∃ Cv' Lv',VStep w w' v Cv Lv Cv' Lv' (putV V n data):=by
 by_cases hlt:n<V.C.length
 · by_cases hd:cl V.C n=data
   · rw [show putV V n data=V from if_pos ⟨hlt,hd⟩];exact put_same w v Cv Lv V h n hlt data hd hC
   · rw [show putV V n data=_ from if_neg (fun x=>hd x.2)];exact put_near w v Cv Lv V h n hn data hdl hlt hd hC hL
 · rw [show putV V n data=_ from if_neg (fun x=>hlt x.1)];exact put_far w v Cv Lv V h n hn data hdl (by omega) hC hL
end Go.Proofs.YtknjjjenklfeoaaGreatDoor
namespace Go.Proofs.YtknjjjenklfeoaaGreatDoor
open Go.RowKit
attribute [local go_sem ↓] loadVar_clus storeVar_clus zeroValue_clus loadVar_tab storeVar_tab zeroValue_tab loadVar_cnt storeVar_cnt zeroValue_cnt loadVar_head storeVar_head zeroValue_head build_head buildSlice_clus loadVar_wr storeVar_wr zeroValue_wr build_wr buildSlice_wr equalIn_clus
attribute [local go_sem] run_loadClus run_storeClus run_zeroClus run_storeClus_new run_loadClus_new zc_length run_loadTab run_storeTab run_zeroTab run_storeTab_new run_loadTab_new zt_length run_loadCnt run_storeCnt run_zeroCnt run_storeCnt_new run_loadCnt_new zk_length run_loadHead run_storeHead run_zeroHead run_storeHead_new run_bHead HasAt_drew cellsAt_drew HasAt_drewN cellsAt_drewN run_bsClus run_loadWr run_zeroWr run_storeWr run_storeWr_new run_bWr0 run_bsWr
theorem flatW_one (L:List WrR): ∀ v ∈ flatW L,v.oneCell'=true:=by
 intro v hv
 obtain ⟨x,_,hx⟩:=List.mem_flatMap.1 hv
 exact wrCells_one x v hx
theorem row_empty (w:World) (base:Nat) (e:TypeId) (size:Nat) (hb:base≤w.heap.size):(w.alloc (.cells #[] e)).ownsRow base e size (.slice (some ⟨w.heap.size,0,none⟩) 0 0) 0 []:=by
 refine ⟨by simp,Or.inr ⟨w.heap.size,0,#[],rfl,hb,heap_alloc_new w _,by omega,?_⟩⟩
 simp [maxLen]
theorem cloneW_any (w:World) (g cap:Nat) (L:List WrR) (hL: ∀ x ∈ L,x.data.length=64) (hr:w.ownsRow 0 104 65 (.slice (some ⟨g,0,none⟩) L.length cap) L.length (flatW L)) (h0:0<L.length) (h1:L.length≤1000000000):
   Calls Tryz.prog 159 #[.slice (some ⟨g,0,none⟩) L.length cap] w fun e w'=> ∃ v,e= .returned v∧w'.ownsRow w.heap.size 104 65 v L.length (flatW L)∧Below w.heap.size w w':=by
 obtain ⟨i0,hi0,hz0,hz1,hz2⟩:=info_parts Tryz.infoWr
 have Hr:=hide hr
 have hq:=run_eql_slice_nil (P:=Tryz.prog) w 58 104 (some ⟨g,0,none⟩) L.length cap Tryz.underlying58
 clear hr
 go_enter Tryz.func159,Tryz.ntmps159
 go_wp2_with (at_builtin;refine wpList_append_lies _ rfl _ _ _ rfl w.heap.size 104 i0 _ 65 72 Tryz.underlying58 hi0 hz0 hz1 hz2 (by simp [Value.cells,wrCells,cv_length,zc_length]) (by omega) (.slice (some ⟨w.heap.size,0,none⟩) 0 0) 0 [] rfl (row_empty w _ _ _ (Nat.le_refl _)) ⟨g,0,none⟩ L.length cap (flatW L) rfl (flatW_length L hL) (((uh Hr).alloc _).cells (g:=g) rfl) (flatW_one L) (by omega) (by unfold maxLen;omega) (by omega) (by simp) (w.heap.size+1) (by simp) ?_;intro g5 cap5 w5 hown5 hgrow hat hlt5)
 go_ret
 refine ⟨_,rfl,by simpa using hown5,((Below.refl _ w).alloc (Nat.le_refl _) _).grown hgrow (by simp) (fun k hk=> ?_)⟩
 simp only [Value.ownBlock,Option.some.injEq] at hk
 omega
end Go.Proofs.YtknjjjenklfeoaaGreatDoor
namespace Go.Proofs.YtknjjjenklfeoaaGreatDoor
open Go.RowKit
attribute [local go_sem ↓] loadVar_clus storeVar_clus zeroValue_clus loadVar_cont storeVar_cont zeroValue_cont build_disk
attribute [local go_sem] run_loadClus run_storeClus run_zeroClus run_storeClus_new run_loadClus_new zc_length run_loadCont run_storeCont run_zeroCont run_bDisk
def blockB (n:Int):Bool:=decide (0≤n) && decide (n<64)
def readR (D:DiskR) (n:Int):Clus × Nat:=if blockB n then (cl D.C n.toNat,0) else (zc,1)
end Go.Proofs.YtknjjjenklfeoaaGreatDoor
namespace Go.Proofs.YtknjjjenklfeoaaGreatDoor
open Go.RowKit
attribute [local go_sem ↓] loadVar_clus storeVar_clus zeroValue_clus loadVar_tab storeVar_tab zeroValue_tab loadVar_cnt storeVar_cnt zeroValue_cnt loadVar_head storeVar_head zeroValue_head build_head buildSlice_clus loadVar_wr storeVar_wr zeroValue_wr build_wr buildSlice_wr equalIn_clus
attribute [local go_sem] run_loadClus run_storeClus run_zeroClus run_storeClus_new run_loadClus_new zc_length run_loadTab run_storeTab run_zeroTab run_storeTab_new run_loadTab_new zt_length run_loadCnt run_storeCnt run_zeroCnt run_storeCnt_new run_loadCnt_new zk_length run_loadHead run_storeHead run_zeroHead run_storeHead_new run_bHead HasAt_drew cellsAt_drew HasAt_drewN cellsAt_drewN run_bsClus run_loadWr run_zeroWr run_storeWr run_storeWr_new run_bWr0 run_bsWr
structure DskAt (w:World) (d v:Nat) (Cv Lv:Value) (V:VolR):Prop where
 blk:w.heap[d]? = some (.cells #[.pointer (some ⟨v,0,none⟩)] 85 (0,0))
 vol:VolAt w v Cv Lv V
def dfoot (d v:Nat) (Cv Lv:Value) (k:Nat):Prop:=k=d∨foot v Cv Lv k
section
variable {w w':World} {d v:Nat} {Cv Lv:Value} {V:VolR}
theorem DskAt.c0 (h:DskAt w d v Cv Lv V):w.cell? ⟨d,0,none⟩=some (.pointer (some ⟨v,0,none⟩)):=by rw [cell_blk h.blk];rfl
theorem DskAt.nfoot (h:DskAt w d v Cv Lv V): ¬ foot v Cv Lv d:=by
 rintro (rfl | hk | hk)
 · have:=h.blk;rw [h.vol.blk] at this;cases this
 · exact row_ne h.vol.rowC h.blk (by decide) d hk rfl
 · exact row_ne h.vol.rowL h.blk (by decide) d hk rfl
theorem DskAt.kept {S:Nat→Prop} (h:DskAt w d v Cv Lv V) (hk:Kept S w w') (hs: ∀ k,dfoot d v Cv Lv k→ ¬ S k):DskAt w' d v Cv Lv V:=
 ⟨hk.blk (hs d (Or.inl rfl)) h.blk,h.vol.kept hk (fun k hf=>hs k (Or.inr hf))⟩
theorem DskAt.below (h:DskAt w d v Cv Lv V) (hb:Below w.heap.size w w'):DskAt w' d v Cv Lv V:=h.kept (S:=fun _=>False) (Kept.of_below hb) (fun _ _=>id)
theorem DskAt.step {C1 L1:Value} {V1:VolR} (h:DskAt w d v Cv Lv V) (hs:VStep w w' v Cv Lv C1 L1 V1):DskAt w' d v C1 L1 V1:=⟨hs.kept.blk h.nfoot h.blk,hs.at'⟩
theorem DskAt.foot_lt (h:DskAt w d v Cv Lv V): ∀ k,dfoot d v Cv Lv k→k<w.heap.size:=by
 rintro k (rfl | hk)
 · exact blk_lt h.blk
 · exact h.vol.foot_lt k hk
end
theorem made_any (w:World) (d v:Nat) (Cv Lv:Value) (V:VolR) (h:DskAt w d v Cv Lv V):
   Calls Tryz.prog 37 #[.pointer (some ⟨d,0,none⟩)] w fun e w'=>e= .returned (.bool true)∧w'=w:=by
 have c0:=h.c0
 go_enter Tryz.func37,Tryz.ntmps37
 go_wp2
 go_ret
 exact ⟨rfl,rfl⟩
theorem volIsBlock_any (n:Int) (w:World):Calls Tryz.prog 103 #[.int .i64 n] w fun e w'=>e= .returned (.bool (blockB n))∧w'=w:=by
 have H:Hid (blockB n=(decide (0≤n) && decide (n<64))):=rfl
 by_cases h0:0≤n
 · have d0:decide (0≤n)=true:=by simpa using h0
   rw [d0,Bool.true_and] at H
   go_enter Tryz.func103,Tryz.ntmps103
   go_wp2
   go_ret
   exact ⟨by rw [uh H];rfl,rfl⟩
 · have d0:decide (0≤n)=false:=by simpa using h0
   rw [d0,Bool.false_and] at H
   go_enter Tryz.func103,Tryz.ntmps103
   go_wp2
   go_ret
   exact ⟨by rw [uh H];rfl,rfl⟩
theorem head_vol (w:World) (v:Nat) (Cv Lv:Value) (V:VolR) (h:VolAt w v Cv Lv V) (h0:0<V.C.length):
   Calls Tryz.prog 87 #[.pointer (some ⟨v,0,none⟩)] w fun e w'=>e= .returned (.agg (hv (num (cl V.C 0) 4) (num (cl V.C 0) 6)).toArray)∧Below w.heap.size w w':=by
 have L0:=Locs.one w (.cells (hv 0 0).toArray 128)
 have Ha:=hide (at_any _ v Cv Lv V (h.below L0.below) 0 h0)
 have Hh:Hid (∀ W,_):=fun W=>headOf_any W (cl V.C 0) (cl_length h.lenC h0)
 have L0:=hide L0
 clear h
 go_enter Tryz.func87,Tryz.ntmps87
 go_wp2_with fail
 refine (uh Ha).mono ?_
 rintro e w1 ⟨rfl,hb1⟩
 have L1:=hide ((uh L0).later hb1)
 clear Ha L0 hb1
 go_wp2_with fail
 refine (uh Hh w1).mono ?_
 rintro e w2 ⟨rfl,hb2⟩
 have L2:=(uh L1).later hb2
 have th:=there_blk L2.o0 0 2 (by simp [hv_length])
 have hset:=L2.setCells 0 rfl 0 (hv (num (cl V.C 0) 4) (num (cl V.C 0) 6))
 rw [Nat.add_zero] at hset
 rw [setList_all _ _ (by simp [hv_length])] at hset
 have l3:=blk_has hset.o0 (n:=2) (hv_length _ _)
 have l4:=blk_cells hset.o0 (n:=2) (hv_length _ _)
 have HB:=hide hset.below
 clear hset L2 L1 hb2 Hh
 go_wp2
 refine bodyPost_ret (results_cell Tryz.results87 ⟨w.heap.size,0,none⟩ rfl ?_) rfl ⟨rfl,uh HB⟩
 rw [loadVar_head,run_loadHead l3,l4]
theorem table_vol (w:World) (v:Nat) (Cv Lv:Value) (V:VolR) (h:VolAt w v Cv Lv V) (n:Nat) (hn:n<V.C.length):
   Calls Tryz.prog 160 #[.pointer (some ⟨v,0,none⟩),.int .i64 (n:Nat)] w fun e w'=>e= .returned (.agg (tv (numsOf (cl V.C n))).toArray)∧Below w.heap.size w w':=by
 have L0:=Locs.one w (.cells (tv zt).toArray 169)
 have Ha:=hide (at_any _ v Cv Lv V (h.below L0.below) n hn)
 have Hh:Hid (∀ W,_):=fun W=>tableOf_any W (cl V.C n) (cl_length h.lenC hn)
 have hnl:=numsOf_length (cl V.C n)
 have L0:=hide L0
 clear h
 generalize hcc:cl V.C n=c at*
 go_enter Tryz.func160,Tryz.ntmps160
 go_wp2_with fail
 refine (uh Ha).mono ?_
 rintro e w1 ⟨rfl,hb1⟩
 have L1:=hide ((uh L0).later hb1)
 clear Ha L0 hb1
 go_wp2_with fail
 refine (uh Hh w1).mono ?_
 rintro e w2 ⟨rfl,hb2⟩
 have L2:=(uh L1).later hb2
 have th:=there_blk L2.o0 0 32 (by simp [tv_length,zt_length])
 have hset:=L2.setCells 0 rfl 0 (tv (numsOf c))
 rw [Nat.add_zero] at hset
 rw [setList_all _ _ (by simp [tv_length,zt_length,hnl])] at hset
 have l3:=blk_has hset.o0 (n:=32) (by rw [tv_length,hnl])
 have l4:=blk_cells hset.o0 (n:=32) (by rw [tv_length,hnl])
 have HB:=hide hset.below
 clear hset L2 L1 hb2 Hh
 go_wp2
 refine bodyPost_ret (results_cell Tryz.results160 ⟨w.heap.size,0,none⟩ rfl ?_) rfl ⟨rfl,uh HB⟩
 rw [loadVar_tab,run_loadTab l3,l4]
def cntsTo (C:List Clus):Nat→List UInt8
 | 0=>zk
 | k+1=>setPart (cntsTo C k) k (cl C (1+k))
def cntsOf (C:List Clus):List UInt8:=cntsTo C 4
theorem cntsTo_length (C:List Clus) (hl: ∀ c ∈ C,c.length=64) (h5:5≤C.length): ∀ k,k≤4→(cntsTo C k).length=256
 | 0,_=>zk_length
 | k+1,hk=>setPart_length _ _ _ (cntsTo_length C hl h5 k (by omega)) (cl_length hl (by omega)) (by omega)
theorem cntsOf_length (C:List Clus) (hl: ∀ c ∈ C,c.length=64) (h5:5≤C.length):(cntsOf C).length=256:=cntsTo_length C hl h5 4 (by omega)
theorem counts_vol (w:World) (v:Nat) (Cv Lv:Value) (V:VolR) (h:VolAt w v Cv Lv V) (h5:5≤V.C.length):
   Calls Tryz.prog 101 #[.pointer (some ⟨v,0,none⟩)] w fun e w'=>e= .returned (.agg (cv (cntsOf V.C)).toArray)∧Below w.heap.size w w':=by
 have L0:=hide (Locs.two w (.cells (cv zk).toArray 123) (.cells (cv zk).toArray 123))
 go_enter Tryz.func101,Tryz.ntmps101
 go_wp2
 go_loopw [4,5] (fun _ i w'=> ∃ k:Nat,k≤4∧i= .int .i64 k∧Locs w w' [.cells (cv zk).toArray 123,.cells (cv (cntsTo V.C k)).toArray 123]) (fun _ i _=>4 - (intOf i).toNat)
 case atStart=>exact ⟨0,by omega,rfl,uh L0⟩
 case round=>
   obtain ⟨k,hk,rfl,hL⟩:=hrel
   clear L0
   have hcl:=cntsTo_length V.C h.lenC h5 k hk
   by_cases hlt:k<4
   · have hki:(k:Int)<4:=by omega
     have Ha:=hide (at_any _ v Cv Lv V (h.below hL.below) (1+k) (by omega))
     have hc64:=cl_length h.lenC (k:=1+k) (by omega)
     have HL:=hide hL
     rw [show ((1+k:Nat):Int)=1+(k:Int) by omega] at Ha
     clear hL
     go_wp2_with fail
     refine (uh Ha).mono ?_
     rintro e w1 ⟨rfl,hb1⟩
     have L1:=(uh HL).later hb1
     have Hs:=hide (setPart_any w1 _ (cntsTo V.C k) hcl L1.o1 k hlt _ hc64)
     have L1:=hide L1
     clear Ha HL hb1
     generalize hcc:cl V.C (1+k)=c at*
     go_wp2_with fail
     refine (uh Hs).mono ?_
     rintro e w2 ⟨rfl,hb2,hk2⟩
     have L2:=hide ((uh L1).put 1 _ hk2 hb2)
     clear Hs L1 hb2 hk2
     go_wp2
     go_roundw
     case rel=>
       refine ⟨k+1,by omega,by go_num,?_⟩
       rw [cntsTo,hcc]
       exact uh L2
     case measure=>simp [intOf];omega
   · have hk4:k=4:=by omega
     subst hk4
     have l1:=blk_has hL.o1 (n:=256) (by rw [cv_length,hcl])
     have l2:=blk_cells hL.o1 (n:=256) (by rw [cv_length,hcl])
     have th:=there_blk hL.o0 0 256 (by simp only [List.size_toArray,cv_length,zk_length];omega)
     have hset:=hL.setCells 0 rfl 0 (cv (cntsTo V.C 4))
     rw [Nat.add_zero] at hset
     rw [setList_all _ _ (by rw [List.size_toArray,cv_length,cv_length,zk_length,hcl])] at hset
     have o1:=hset.o0
     have l3:=blk_has o1 (n:=256) (by rw [cv_length,hcl])
     have l4:=blk_cells o1 (n:=256) (by rw [cv_length,hcl])
     have HB:=hide hset.below
     clear hL hset o1
     go_wp2
     refine bodyPost_ret (results_cell Tryz.results101 ⟨w.heap.size,0,none⟩ rfl ?_) rfl ⟨rfl,uh HB⟩
     rw [loadVar_cnt,run_loadCnt l3,l4];rfl
def findR (C:List Clus) (first b:Nat):PlaceR:=
 { first:=first,inFirst:=b / 32,inSecond:=b%32,second:=num (cl C first) (2*(b / 32)),
   block:=if num (cl C first) (2*(b / 32))=0 then 0 else num (cl C (num (cl C first) (2*(b / 32))%32768)) (2*(b%32)),
   tab:=if num (cl C first) (2*(b / 32))=0 then zt else numsOf (cl C (num (cl C first) (2*(b / 32))%32768)) }
theorem findR_tab (C:List Clus) (first b:Nat):(findR C first b).tab.length=32:=by unfold findR;dsimp only;split;exact zt_length;exact numsOf_length _
end Go.Proofs.YtknjjjenklfeoaaGreatDoor
