import Derived.Test.YtknjjjenklfeoaaGreatDoorC03
import Derived.Deep.RegionLaw
set_option maxHeartbeats 8000000
set_option maxRecDepth 100000
namespace Go.Proofs.YtknjjjenklfeoaaGreatDoor
open Go.RowKit
attribute [local go_sem ↓] loadVar_clus storeVar_clus zeroValue_clus loadVar_tab storeVar_tab zeroValue_tab loadVar_cnt storeVar_cnt zeroValue_cnt loadVar_head storeVar_head zeroValue_head build_head
attribute [local go_sem] run_loadClus run_storeClus run_zeroClus run_storeClus_new run_loadClus_new zc_length run_loadTab run_storeTab run_zeroTab run_storeTab_new run_loadTab_new zt_length run_loadCnt run_storeCnt run_zeroCnt run_storeCnt_new run_loadCnt_new zk_length run_loadHead run_storeHead run_zeroHead run_storeHead_new run_bHead HasAt_drew cellsAt_drew HasAt_drewN cellsAt_drewN
def bytesTo (T:List Nat):Nat→Clus
 | 0=>zc
 | k+1=>putNum (bytesTo T k) (2*k) (T.getD k 0)
def bytesOf (T:List Nat):Clus:=bytesTo T 32
theorem bytesTo_length (T:List Nat) (k:Nat):(bytesTo T k).length=64:=by
 induction k with
 | zero=>exact zc_length
 | succ k ih=>rw [bytesTo,putNum_length,ih]
theorem bytesOf_length (T:List Nat):(bytesOf T).length=64:=bytesTo_length T 32
theorem part_num (T:List Nat) (i:Nat) (hi:i<T.length) (w:World):(part 167 (tv T).toArray (i*1)).run Tryz.prog w= .ok (.int .u16 ((T.getD i 0:Nat):Int)) w:=by
 have ha:(isAgg 167).run Tryz.prog w= .ok false w:=by unfold isAgg;rw [Sem.run_bind,run_underlying Tryz.underlying167 w];rfl
 unfold part
 rw [Sem.run_bind,ha]
 simp only [Result.andThen_ok,Bool.false_eq_true,if_false,Nat.mul_one]
 rw [List.getElem?_toArray,tv_get T i hi]
 rfl
theorem run_sizeOf {P:Program} {e:TypeId} {sz:Nat} (hs:(P.info? e).map (·.size)=some sz) (w:World):(Go.sizeOf e).run P w= .ok sz w:=by
 obtain ⟨i,hi,rfl⟩:=Option.map_eq_some_iff.1 hs
 simp [Go.sizeOf,typeInfo,hi,go_sem]
theorem Tryz.sizeByte:(Tryz.prog.info? 5).map (·.size)=some 1:=by kernel_rfl
theorem run_index_arr {P:Program} (w:World) (t e:TypeId) (n sz:Nat) (hu:P.underlying t=some (.array n e)) (hs:(P.info? e).map (·.size)=some sz) (cs:Array Value) (k:Nat) (hk:k<n) (v:Value) (hp:(part e cs (k*sz)).run P w= .ok v w):
   (Instr.index t (.agg cs) (.int .i64 (k:Int))).run P w= .ok v w:=by
 have hsz:=run_sizeOf hs w
 unfold Instr.index
 simp only [asIntOf,Sem.run_bind,Sem.run_pure,Result.andThen_ok,run_underlying hu w]
 rw [if_pos (by omega),Sem.run_bind,hsz]
 simpa using hp
theorem run_index_tab (w:World) (T:List Nat) (hT:T.length=32) (k:Nat) (hk:k<32):(Instr.index 169 (.agg (tv T).toArray) (.int .i64 (k:Int))).run Tryz.prog w= .ok (.int .u16 ((T.getD k 0:Nat):Int)) w:=
 run_index_arr w _ _ 32 1 Tryz.underlying169 (by kernel_rfl) _ k hk _ (part_num T k (by omega) w)
theorem run_index_cnt (w:World) (c:List UInt8) (hc:c.length=256) (k:Nat) (hk:k<256):(Instr.index 123 (.agg (cv c).toArray) (.int .i64 (k:Int))).run Tryz.prog w= .ok (.int .u8 (byteAt c k:Nat)) w:=
 run_index_arr w _ _ 256 1 Tryz.underlying123 (by kernel_rfl) _ k hk _ (part_byte c k (by omega) w)
theorem tableCluster_any (w:World) (T:List Nat) (hT:T.length=32) (hs: ∀ i,T.getD i 0<65536):
   Calls Tryz.prog 163 #[.agg (tv T).toArray] w fun e w'=>e= .returned (.agg (cv (bytesOf T)).toArray)∧Below w.heap.size w w':=by
 have L0:=hide (Locs.three w (.cells (tv T).toArray 169) (.cells (cv zc).toArray 38) (.cells (cv zc).toArray 38))
 have l1:=blk_has (uh L0).o0 (n:=32) (by rw [tv_length,hT])
 have l2:=blk_cells (uh L0).o0 (n:=32) (by rw [tv_length,hT])
 go_enter Tryz.func163,Tryz.ntmps163
 go_wp2
 clear l1 l2
 go_loopw [4,5,7] (fun _ _ i w'=> ∃ k:Nat,k≤32∧i= .int .i64 k∧Locs w w' [.cells (tv T).toArray 169,.cells (cv zc).toArray 38,.cells (cv (bytesTo T k)).toArray 38]) (fun _ _ i _=>32 - (intOf i).toNat)
 case atStart=>exact ⟨0,by omega,rfl,uh L0⟩
 case round=>
   obtain ⟨k,hk,rfl,hL⟩:=hrel
   clear L0
   by_cases hlt:k<32
   · have hki:(k:Int)<32:=by omega
     have Hn:=hide (putNumber_any wr _ _ _ hL.o2 (bytesTo_length T k) (2*k) (T.getD k 0) (by omega) (hs k))
     have HL:=hide hL
     clear hL
     have hix:=run_index_tab wr T hT k hlt
     rw [show ((2*k:Nat):Int)=2*(k:Int) by omega] at Hn
     generalize hnn:T.getD k 0=n at*
     go_wp2_with fail
     refine (uh Hn).mono ?_
     rintro e w1 ⟨rfl,hb1,hk1⟩
     have L1:=hide ((uh HL).put 2 _ hk1 hb1)
     clear Hn HL hix hb1 hk1
     go_wp2
     go_roundw
     case rel=>
       refine ⟨k+1,by omega,by go_num,?_⟩
       have:=uh L1
       rw [bytesTo,hnn]
       exact this
     case measure=>simp [intOf];omega
   · have hk32:k=32:=by omega
     subst hk32
     have b1:=hL.o1
     have b2:=hL.o2
     have hbl:=bytesTo_length T 32
     have l1:=box_has b2 hbl
     have l2:=box_cells b2 hbl
     have th:=there_blk b1 0 64 (by simp [cv_length,zc_length])
     have hset:=hL.setCells 1 rfl 0 (cv (bytesTo T 32))
     rw [setList_all _ _ (by simp [cv_length,zc_length,hbl])] at hset
     have o1:=hset.o1
     have l3:=box_has o1 hbl
     have l4:=box_cells o1 hbl
     have HB:=hide hset.below
     clear hL b1 b2 hset o1
     go_wp2
     refine bodyPost_ret (results_cell Tryz.results163 ⟨w.heap.size+1,0,none⟩ rfl ?_) rfl ⟨rfl,uh HB⟩
     rw [loadVar_clus,run_loadClus l3,l4];rfl
theorem headOf_any (w:World) (c:Clus) (hc:c.length=64):
   Calls Tryz.prog 92 #[.agg (cv c).toArray] w fun e w'=>e= .returned (.agg (hv (num c 4) (num c 6)).toArray)∧Below w.heap.size w w':=by
 have L0:=hide (Locs.two w (.cells (cv c).toArray 38) (.cells (hv 0 0).toArray 128))
 have l1:=box_has (uh L0).drew.o0 hc
 have l2:=box_cells (uh L0).drew.o0 hc
 have Hn:Hid (∀ W k,k=4∨k=6→Calls Tryz.prog 149 #[.agg (cv c).toArray,.int .i64 k] W fun e w'=>e= .returned (.int .u16 (num c k.toNat:Nat))∧Below W.heap.size W w'):=fun W k hk=>numberAt_any c k W hc (by omega) (by omega)
 have n4:=num_lt c 4
 have n6:=num_lt c 6
 have e4:IntKind.i64.wrap ((num c 4:Nat):Int)=(num c 4:Nat):=IntWalk.i64_in _ (by omega)
 have e6:IntKind.i64.wrap ((num c 6:Nat):Int)=(num c 6:Nat):=IntWalk.i64_in _ (by omega)
 go_enter Tryz.func92,Tryz.ntmps92
 go_wp2
 go_region_law (go_simp
                go_at_call 149
                refine (uh Hn _ _ (by omega)).mono ?_
                rintro e w1 ⟨rfl,hb1⟩
                have L1:=hide (Locs.later (by first | exact uh L1 | exact (uh L1).drew | exact uh L0 | exact (uh L0).drew) hb1)
                have m1:=box_has (uh L1).o0 hc
                have m2:=box_cells (uh L1).o0 hc
                have th:=there_blk (uh L1).o1 0 2 (by simp [hv_length]))
 all_goals
   have hset:=(uh L1).setCells 1 rfl 0 (hv (num c 4) (num c 6))
   rw [setList_all _ _ (by simp [hv_length])] at hset
   have l3:=blk_has hset.o1 (n:=2) (hv_length _ _)
   have l4:=blk_cells hset.o1 (n:=2) (hv_length _ _)
   have HB:=hide hset.below
   clear hset L0 Hn hb1 m1 m2 l1 l2 th
   go_wp2
   refine bodyPost_ret (results_cell Tryz.results92 ⟨w.heap.size+1,0,none⟩ rfl ?_) rfl ⟨rfl,uh HB⟩
   rw [loadVar_head,run_loadHead l3,l4]
end Go.Proofs.YtknjjjenklfeoaaGreatDoor
