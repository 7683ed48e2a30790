import Derived.Test.YtknjjjenklfeoaaGreatDoorT03
import Derived.Lib.EndianBits
import Derived.Deep.RegionLaw
import Derived.Test.YtknjjjenklfeoaaGreatDoorT02
import Derived.Lib.LazyBuf
set_option maxHeartbeats 8000000
set_option maxRecDepth 100000
namespace Go.Proofs.YtknjjjenklfeoaaGreatDoor
open Go.RowKit
attribute [local go_sem ↓] loadVar_clus storeVar_clus zeroValue_clus buildSlice_clus loadVar_wr storeVar_wr zeroValue_wr
attribute [local go_sem] run_loadClus run_storeClus run_zeroClus run_storeClus_new run_loadClus_new zc_length run_bsClus run_loadWr run_zeroWr run_storeWr_new
def sliceLen:Value→Nat
 | .slice _ n _=>n
 | _=>0
def growTo (l:List Clus) (n:Nat):List Clus:=l++List.replicate (n - l.length) zc
def replayOne (l:List Clus) (x:WrR):List Clus:=if x.cl<0 then l else (growTo l (x.cl.toNat+1)).set x.cl.toNat x.data
def replay (l:List Clus) (log:List WrR):List Clus:=log.foldl replayOne l
end Go.Proofs.YtknjjjenklfeoaaGreatDoor
namespace Go.Proofs.YtknjjjenklfeoaaGreatDoor
open Go.RowKit
attribute [local go_sem ↓] loadVar_clus storeVar_clus zeroValue_clus equalIn_clus
attribute [local go_sem] run_loadClus run_storeClus run_zeroClus zc_length
structure TwoCl (w w':World) (z c:Clus):Prop where
 below:Below w.heap.size w w'
 one:w'.heap[w.heap.size]? = some (.cells (cv z).toArray 38 (0,0))
 two:w'.heap[w.heap.size+1]? = some (.cells (cv c).toArray 38 (0,0))
theorem TwoCl.start (w:World):TwoCl w ((w.alloc (.cells (cv zc).toArray 38)).alloc (.cells (cv zc).toArray 38)) zc zc:=by
 refine ⟨((Below.refl _ _).alloc (Nat.le_refl _) _).alloc (by simp) _,?_,?_⟩
 · rw [Below.heap_alloc _ _ _ (by simp)];exact heap_alloc_new _ _
 · have:=heap_alloc_new (w.alloc (.cells (cv zc).toArray 38)) (.cells (cv zc).toArray 38)
   simpa using this
theorem cv_set (c:Clus) (i:Nat) (b:UInt8):(cv c).set i (.int .u8 (b.toNat:Int))=cv (c.set i b):=by simp [cv,List.map_set]
theorem TwoCl.set {w w':World} {z c:Clus} (h:TwoCl w w' z c) (i:Nat) (b:UInt8):TwoCl w (w'.setCell ⟨w.heap.size+1,i,none⟩ (.int .u8 (b.toNat:Int))) z (c.set i b):=
 ⟨h.below.setCell (by simp) _,by rw [Below.heap_setCell _ _ _ _ (by simp)];exact h.one,by rw [heap_setCell_same _ _ _ _ _ _ _ h.two,List.setIfInBounds_toArray,cv_set]⟩
def clusTo (l:List UInt8) (k:Nat):Clus:=l.take k++List.replicate (64 - k) 0
def clusOf (l:List UInt8):Clus:=clusTo l (min l.length 64)
theorem clusTo_length (l:List UInt8) (k:Nat) (h:k≤l.length) (h2:k≤64):(clusTo l k).length=64:=by simp [clusTo];omega
theorem clusTo_succ (l:List UInt8) (k:Nat) (h:k<l.length) (h2:k<64):(clusTo l k).set k (l.getD k 0)=clusTo l (k+1):=by
 unfold clusTo
 rw [List.set_append_right _ _ (by simp;omega),List.length_take,show k - min k l.length=0 by omega,show 64 - k=(64 - (k+1))+1 by omega,List.replicate_succ,List.set_cons_zero,List.take_succ_eq_append_getElem h,List.append_assoc]
 rw [List.getD_eq_getElem?_getD,List.getElem?_eq_getElem h]
 rfl
theorem TwoCl.back {w w':World} {z c:Clus} (h:TwoCl w w' z c) (hz:z.length=64) (hc:c.length=64):
   w'.there w.heap.size 0 64∧HasAt w' (w.heap.size+1) 0 64∧cellsAt w' (w.heap.size+1) 0 64=cv c∧HasAt (w'.setCells w.heap.size 0 (cv c)) w.heap.size 0 64∧cellsAt (w'.setCells w.heap.size 0 (cv c)) w.heap.size 0 64=cv c∧Below w.heap.size w (w'.setCells w.heap.size 0 (cv c)):=by
 have hs:=box_store h.one hz hc
 exact ⟨there_blk h.one _ _ (by simp [cv_length,hz]),box_has h.two hc,box_cells h.two hc,box_has hs hc,box_cells hs hc,below_setCells h.below (Nat.le_refl _) _ _⟩
end Go.Proofs.YtknjjjenklfeoaaGreatDoor
namespace Go.Proofs.YtknjjjenklfeoaaGreatDoor
open Go.RowKit
attribute [local go_sem ↓] loadVar_clus storeVar_clus zeroValue_clus loadVar_tab storeVar_tab zeroValue_tab loadVar_cnt storeVar_cnt zeroValue_cnt loadVar_head storeVar_head zeroValue_head build_head
attribute [local go_sem] run_loadClus run_storeClus run_zeroClus run_storeClus_new run_loadClus_new zc_length run_loadTab run_storeTab run_zeroTab run_storeTab_new run_loadTab_new zt_length run_loadCnt run_storeCnt run_zeroCnt run_storeCnt_new run_loadCnt_new zk_length run_loadHead run_storeHead run_zeroHead run_storeHead_new run_bHead
theorem or_hi (a b:Nat) (ha:a<256) (hb:b<256):bits .or .u16 ((a:Int)*256) (b:Int)=((256*a+b:Nat):Int):=by
 rw [bits_join .u16 16 (by decide) wraps_u16 8 ((a:Int)*256) (b:Int) (by omega) (by omega) (by omega) (by omega) (by omega) (by omega)]
 omega
theorem or_mark (n:Nat) (hn:n<32768):bits .or .u16 (n:Int) 32768=((n+32768:Nat):Int):=by
 rw [bits_join_low .u16 16 (by decide) wraps_u16 15 (n:Int) 32768 (by omega) (by omega) (by omega) (by omega) (by omega) (by omega)]
 omega
theorem andNot_mark (n:Nat) (hn:n<65536):bits .andNot .u16 (n:Int) 32768=((n%32768:Nat):Int):=by
 have h:bits .andNot .u16 (n:Int) 32768=bits .and .u16 (n:Int) 32767:=by
   simp only [bits]
   rw [show ~~~(BitVec.ofInt IntKind.u16.bits 32768)=BitVec.ofInt IntKind.u16.bits 32767 from by decide]
 rw [h,show (32767:Int)=2 ^ 15 - 1 by decide,bits_mask .u16 16 (by decide) wraps_u16 15 (by decide) (n:Int) (by omega) (by omega)]
 omega
theorem and_mark (n:Nat) (hn:n<65536):bits .and .u16 (n:Int) 32768=if 32768≤n then 32768 else 0:=by
 have h:=(bits_nat .u16 16 (by decide) wraps_u16 n 32768 hn (by decide)).1
 rw [show ((32768:Nat):Int)=32768 from rfl] at h
 rw [h]
 have key:n &&& 2 ^ 15=if 32768≤n then 2 ^ 15 else 0:=by
   refine Nat.eq_of_testBit_eq fun i=> ?_
   rw [Nat.testBit_and,Nat.testBit_two_pow]
   by_cases hi:15=i
   · subst hi
     rw [decide_eq_true rfl,Bool.and_true,Nat.testBit_eq_decide_div_mod_eq]
     split
     · rw [show n / 2 ^ 15=1 by omega];decide
     · rw [show n / 2 ^ 15=0 by omega];decide
   · rw [decide_eq_false hi,Bool.and_false]
     split
     · rw [Nat.testBit_two_pow,decide_eq_false hi]
     · simp
 rw [show (32768:Nat)=2 ^ 15 from rfl,key]
 split <;> rfl
theorem numberAt_any (c:List UInt8) (at':Int) (w:World) (hc:c.length=64) (h0:0≤at') (h1:at'<63):
   Calls Tryz.prog 149 #[.agg (cv c).toArray,.int .i64 at'] w fun e w'=>e= .returned (.int .u16 (num c at'.toNat:Nat))∧Below w.heap.size w w':=by
 obtain ⟨n,rfl⟩:=Int.eq_ofNat_of_zero_le h0
 have b1:=byteAt_lt c n
 have b2:=byteAt_lt c (n+1)
 have k1:(w.alloc (.cells (cv c).toArray 38)).cell? ⟨w.heap.size,n,none⟩=some (.int .u8 (byteAt c n:Nat)):=by
   rw [cell_new,List.getElem?_toArray,cv_get];omega
 have k2:(w.alloc (.cells (cv c).toArray 38)).cell? ⟨w.heap.size,n+1,none⟩=some (.int .u8 (byteAt c (n+1):Nat)):=by
   rw [cell_new,List.getElem?_toArray,cv_get];omega
 go_enter Tryz.func149,Tryz.ntmps149
 go_wp2
 go_quiet (fail)
 go_wp2
 go_ret
 refine ⟨?_,?_⟩
 · exact ret_int (or_hi _ _ b1 b2)
 · exact (((Kept.refl (fun _=>False) w).alloc _).drewN _).below
theorem marked_of (n:Nat) (hn:n<65536) (w:World):Calls Tryz.prog 105 #[.int .u16 (n:Nat)] w fun e w'=>e= .returned (.bool (decide (32768≤n)))∧w'=w:=by
 go_enter Tryz.func105,Tryz.ntmps105
 go_wp2
 go_ret
 refine ⟨?_,rfl⟩
 rw [show bits BinOp.and IntKind.u16 (n:Int) 32768=_ from and_mark n hn]
 by_cases h:32768≤n
 · rw [if_pos h,decide_eq_true h];rfl
 · rw [if_neg h,decide_eq_false h];rfl
theorem cluster_of (n:Nat) (hn:n<65536) (w:World):Calls Tryz.prog 108 #[.int .u16 (n:Nat)] w fun e w'=>e= .returned (.int .i64 ((n%32768:Nat):Int))∧w'=w:=by
 go_enter Tryz.func108,Tryz.ntmps108
 go_wp2
 go_ret
 refine ⟨?_,rfl⟩
 rw [show bits BinOp.andNot IntKind.u16 (n:Int) 32768=_ from andNot_mark n hn]
 exact ret_int (IntWalk.wrap64_in _ (by omega))
theorem own_of (n:Nat) (hn:n<32768) (w:World):Calls Tryz.prog 161 #[.int .i64 (n:Nat)] w fun e w'=>e= .returned (.int .u16 ((n+32768:Nat):Int))∧w'=w:=by
 go_enter Tryz.func161,Tryz.ntmps161
 go_wp2
 go_ret
 refine ⟨?_,rfl⟩
 exact ret_int (or_mark n hn)
def putNum (c:Clus) (k n:Nat):Clus:=(c.set k (UInt8.ofNat (n / 256))).set (k+1) (UInt8.ofNat (n%256))
theorem putNum_length (c:Clus) (k n:Nat):(putNum c k n).length=c.length:=by simp [putNum]
theorem cv_setB (c:Clus) (k:Nat) (b:Nat) (hb:b<256):cv (c.set k (UInt8.ofNat b))=(cv c).set k (.int .u8 (b:Nat)):=by
 rw [cv,List.map_set]
 congr 2
 have:(UInt8.ofNat b).toNat=b:=by rw [UInt8.toNat_ofNat'];omega
 rw [this]
theorem putNumber_any (w:World) (b:Nat) (c:Clus) (t:TypeId) (hb:w.heap[b]? = some (.cells (cv c).toArray t (0,0))) (hc:c.length=64) (k n:Nat) (hk:k<63) (hn:n<65536):
   Calls Tryz.prog 169 #[.pointer (some ⟨b,0,none⟩),.int .i64 (k:Nat),.int .u16 (n:Nat)] w fun e w'=>e= .returned (.tuple #[])∧w'.heap[b]? = some (.cells (cv (putNum c k n)).toArray t (0,0))∧Kept (fun x=>x=b) w w':=by
 have f1:=frozen_blk hb k
 have f2:=frozen_blk hb (k+1)
 have c1:w.cell? ⟨b,k,none⟩=some (.int .u8 (byteAt c k:Nat)):=by rw [cell_blk hb,List.getElem?_toArray,cv_get _ _ (by omega)]
 have c2:w.cell? ⟨b,k+1,none⟩=some (.int .u8 (byteAt c (k+1):Nat)):=by rw [cell_blk hb,List.getElem?_toArray,cv_get _ _ (by omega)]
 have hki:(k:Int)<63:=by omega
 have e1:((w.setCell ⟨b,k,none⟩ (.int .u8 ((n / 256:Nat):Int))).setCell ⟨b,k+1,none⟩ (.int .u8 ((n%256:Nat):Int))).heap[b]? = some (.cells (cv (putNum c k n)).toArray t (0,0)):=by
   rw [heap_setCell_same _ _ _ _ _ _ _ (heap_setCell_same _ _ _ _ _ _ _ hb),putNum,cv_setB _ _ _ (by omega),cv_setB _ _ _ (by omega)]
   simp
 have k1:=(Kept.only w b k (.int .u8 ((n / 256:Nat):Int))).trans (Kept.only _ b (k+1) (.int .u8 ((n%256:Nat):Int)))
 rw [Int.natCast_ediv,Int.natCast_emod] at e1 k1
 have E1:=hide e1
 have K1:=hide k1
 clear e1 k1
 go_enter Tryz.func169,Tryz.ntmps169
 go_wp2
 go_region
 go_end0
 exact ⟨rfl,uh E1,(uh K1).drew⟩
def numsOf (c:Clus):List Nat:=(List.range 32).map fun i=>num c (2*i)
theorem numsOf_length (c:Clus):(numsOf c).length=32:=by simp [numsOf]
theorem numsOf_get (c:Clus) (i:Nat) (hi:i<32):(numsOf c).getD i 0=num c (2*i):=by simp [numsOf,List.getD,hi]
def numsTo (c:Clus) (k:Nat):List Nat:=(List.range 32).map fun i=>if i<k then num c (2*i) else 0
theorem numsTo_zero (c:Clus):numsTo c 0=zt:=by
 unfold numsTo zt
 refine List.eq_replicate_iff.2 ⟨by simp,fun b hb=> ?_⟩
 obtain ⟨i,_,rfl⟩:=List.mem_map.1 hb
 rw [if_neg (by omega)]
theorem numsTo_all (c:Clus):numsTo c 32=numsOf c:=by
 unfold numsTo numsOf
 refine List.map_congr_left fun i hi=> ?_
 rw [if_pos (List.mem_range.1 hi)]
theorem numsTo_length (c:Clus) (k:Nat):(numsTo c k).length=32:=by simp [numsTo]
theorem numsTo_succ (c:Clus) (k:Nat) (hk:k<32):numsTo c (k+1)=(numsTo c k).set k (num c (2*k)):=by
 refine List.ext_getElem? fun i=> ?_
 rw [List.getElem?_set]
 simp only [numsTo,List.getElem?_map,List.length_map,List.length_range]
 by_cases hi:i<32
 · rw [List.getElem?_range hi]
   by_cases e:k=i
   · subst e;simp [hk]
   · simp only [Option.map_some,if_neg e]
     congr 1
     by_cases h:i<k
     · rw [if_pos h,if_pos (by omega)]
     · rw [if_neg h,if_neg (by omega)]
 · rw [List.getElem?_eq_none (by simp;omega)]
   split
   · omega
   · rfl
theorem tv_set (T:List Nat) (k n:Nat):tv (T.set k n)=(tv T).set k (.int .u16 (n:Nat)):=by simp [tv,List.map_set]
theorem tableOf_any (w:World) (c:Clus) (hc:c.length=64):
   Calls Tryz.prog 178 #[.agg (cv c).toArray] w fun e w'=>e= .returned (.agg (tv (numsOf c)).toArray)∧Below w.heap.size w w':=by
 have L0:=hide (Locs.three w (.cells (cv c).toArray 38) (.cells (tv zt).toArray 169) (.cells (tv zt).toArray 169))
 go_enter Tryz.func178,Tryz.ntmps178
 go_wp2
 go_loopw [4,5] (fun _ i w'=> ∃ k:Nat,k≤32∧i= .int .i64 k∧Locs w w' [.cells (cv c).toArray 38,.cells (tv zt).toArray 169,.cells (tv (numsTo c k)).toArray 169]) (fun _ i _=>32 - (intOf i).toNat)
 case atStart=>exact ⟨0,by omega,rfl,by rw [numsTo_zero];exact uh L0⟩
 case round=>
   obtain ⟨k,hk,rfl,hL⟩:=hrel
   clear L0
   by_cases hlt:k<32
   · have hki:(k:Int)<32:=by omega
     have b0:=hL.o0
     have l1:=box_has b0 hc
     have l2:=box_cells b0 hc
     have Hn:=hide (numberAt_any c (2*(k:Int)) wr hc (by omega) (by omega))
     have HL:=hide hL
     have Hs:=hide (numsTo_succ c k hlt)
     clear hL b0
     go_wp2_with fail
     refine (uh Hn).mono ?_
     rintro e w1 ⟨rfl,hb1⟩
     have hL1:=(uh HL).later hb1
     have b2:=hL1.o2
     have f1:=frozen_blk b2 k
     have c1:w1.cell? ⟨w.heap.size+1+1,k,none⟩=some (.int .u16 (((numsTo c k).getD k 0:Nat):Int)):=by
       rw [cell_blk b2,List.getElem?_toArray,tv_get _ _ (by rw [numsTo_length];exact hlt)]
     have L1:=hide (hL1.setCell 2 rfl k (.int .u16 (num c (2*k):Nat)))
     rw [show (2*(k:Int)).toNat=2*k by omega]
     clear hL1 b2 hb1 HL Hn l1 l2
     go_wp2
     go_roundw
     case rel=>
       refine ⟨k+1,by omega,by go_num,?_⟩
       rw [uh Hs,tv_set]
       simpa using uh L1
     case measure=>simp [intOf];omega
   · have hk32:k=32:=by omega
     subst hk32
     rw [numsTo_all] at hL
     have b1:=hL.o1
     have b2:=hL.o2
     have l1:=blk_has b2 (n:=32) (by rw [tv_length,numsOf_length])
     have l2:=blk_cells b2 (n:=32) (by rw [tv_length,numsOf_length])
     have th:=there_blk b1 0 32 (by simp [tv_length,zt_length])
     have hnl:=numsOf_length c
     have hset:=hL.setCells 1 rfl 0 (tv (numsOf c))
     rw [setList_all _ _ (by simp [tv_length,zt_length,numsOf_length])] at hset
     have o1:=hset.o1
     have l3:=blk_has o1 (n:=32) (by rw [tv_length,numsOf_length])
     have l4:=blk_cells o1 (n:=32) (by rw [tv_length,numsOf_length])
     have HB:=hide hset.below
     clear hL b1 b2 hset o1
     go_wp2
     refine bodyPost_ret (results_cell Tryz.results178 ⟨w.heap.size+1,0,none⟩ rfl ?_) rfl ⟨rfl,uh HB⟩
     rw [loadVar_tab,run_loadTab l3,l4]
end Go.Proofs.YtknjjjenklfeoaaGreatDoor
namespace Go.Proofs.YtknjjjenklfeoaaGreatDoor
open Go.RowKit
attribute [local go_sem ↓] loadVar_clus storeVar_clus zeroValue_clus loadVar_tab storeVar_tab zeroValue_tab loadVar_cnt storeVar_cnt zeroValue_cnt loadVar_head storeVar_head zeroValue_head build_head
attribute [local go_sem] run_loadClus run_storeClus run_zeroClus run_storeClus_new run_loadClus_new zc_length run_loadTab run_storeTab run_zeroTab run_storeTab_new run_loadTab_new zt_length run_loadCnt run_storeCnt run_zeroCnt run_storeCnt_new run_loadCnt_new zk_length run_loadHead run_storeHead run_zeroHead run_storeHead_new run_bHead HasAt_drew cellsAt_drew HasAt_drewN cellsAt_drewN
def bytesTo (T:List Nat):Nat→Clus
 | 0=>zc
 | k+1=>putNum (bytesTo T k) (2*k) (T.getD k 0)
def bytesOf (T:List Nat):Clus:=bytesTo T 32
theorem bytesTo_length (T:List Nat) (k:Nat):(bytesTo T k).length=64:=by
 induction k with
 | zero=>exact zc_length
 | succ k ih=>rw [bytesTo,putNum_length,ih]
theorem bytesOf_length (T:List Nat):(bytesOf T).length=64:=bytesTo_length T 32
theorem part_num (T:List Nat) (i:Nat) (hi:i<T.length) (w:World):(part 167 (tv T).toArray (i*1)).run Tryz.prog w= .ok (.int .u16 ((T.getD i 0:Nat):Int)) w:=by
 have ha:(isAgg 167).run Tryz.prog w= .ok false w:=by unfold isAgg;rw [Sem.run_bind,run_underlying Tryz.underlying167 w];rfl
 unfold part
 rw [Sem.run_bind,ha]
 simp only [Result.andThen_ok,Bool.false_eq_true,if_false,Nat.mul_one]
 rw [List.getElem?_toArray,tv_get T i hi]
 rfl
theorem run_sizeOf {P:Program} {e:TypeId} {sz:Nat} (hs:(P.info? e).map (·.size)=some sz) (w:World):(Go.sizeOf e).run P w= .ok sz w:=by
 obtain ⟨i,hi,rfl⟩:=Option.map_eq_some_iff.1 hs
 simp [Go.sizeOf,typeInfo,hi,go_sem]
theorem Tryz.sizeByte:(Tryz.prog.info? 5).map (·.size)=some 1:=by kernel_rfl
theorem run_index_arr {P:Program} (w:World) (t e:TypeId) (n sz:Nat) (hu:P.underlying t=some (.array n e)) (hs:(P.info? e).map (·.size)=some sz) (cs:Array Value) (k:Nat) (hk:k<n) (v:Value) (hp:(part e cs (k*sz)).run P w= .ok v w):
   (Instr.index t (.agg cs) (.int .i64 (k:Int))).run P w= .ok v w:=by
 have hsz:=run_sizeOf hs w
 unfold Instr.index
 simp only [asIntOf,Sem.run_bind,Sem.run_pure,Result.andThen_ok,run_underlying hu w]
 rw [if_pos (by omega),Sem.run_bind,hsz]
 simpa using hp
theorem run_index_tab (w:World) (T:List Nat) (hT:T.length=32) (k:Nat) (hk:k<32):(Instr.index 169 (.agg (tv T).toArray) (.int .i64 (k:Int))).run Tryz.prog w= .ok (.int .u16 ((T.getD k 0:Nat):Int)) w:=
 run_index_arr w _ _ 32 1 Tryz.underlying169 (by kernel_rfl) _ k hk _ (part_num T k (by omega) w)
theorem run_index_cnt (w:World) (c:List UInt8) (hc:c.length=256) (k:Nat) (hk:k<256):(Instr.index 123 (.agg (cv c).toArray) (.int .i64 (k:Int))).run Tryz.prog w= .ok (.int .u8 (byteAt c k:Nat)) w:=
 run_index_arr w _ _ 256 1 Tryz.underlying123 (by kernel_rfl) _ k hk _ (part_byte c k (by omega) w)
theorem tableCluster_any (w:World) (T:List Nat) (hT:T.length=32) (hs: ∀ i,T.getD i 0<65536):
   Calls Tryz.prog 163 #[.agg (tv T).toArray] w fun e w'=>e= .returned (.agg (cv (bytesOf T)).toArray)∧Below w.heap.size w w':=by
 have L0:=hide (Locs.three w (.cells (tv T).toArray 169) (.cells (cv zc).toArray 38) (.cells (cv zc).toArray 38))
 have l1:=blk_has (uh L0).o0 (n:=32) (by rw [tv_length,hT])
 have l2:=blk_cells (uh L0).o0 (n:=32) (by rw [tv_length,hT])
 go_enter Tryz.func163,Tryz.ntmps163
 go_wp2
 clear l1 l2
 go_loopw [4,5,7] (fun _ _ i w'=> ∃ k:Nat,k≤32∧i= .int .i64 k∧Locs w w' [.cells (tv T).toArray 169,.cells (cv zc).toArray 38,.cells (cv (bytesTo T k)).toArray 38]) (fun _ _ i _=>32 - (intOf i).toNat)
 case atStart=>exact ⟨0,by omega,rfl,uh L0⟩
 case round=>
   obtain ⟨k,hk,rfl,hL⟩:=hrel
   clear L0
   by_cases hlt:k<32
   · have hki:(k:Int)<32:=by omega
     have Hn:=hide (putNumber_any wr _ _ _ hL.o2 (bytesTo_length T k) (2*k) (T.getD k 0) (by omega) (hs k))
     have HL:=hide hL
     clear hL
     have hix:=run_index_tab wr T hT k hlt
     rw [show ((2*k:Nat):Int)=2*(k:Int) by omega] at Hn
     generalize hnn:T.getD k 0=n at*
     go_wp2_with fail
     refine (uh Hn).mono ?_
     rintro e w1 ⟨rfl,hb1,hk1⟩
     have L1:=hide ((uh HL).put 2 _ hk1 hb1)
     clear Hn HL hix hb1 hk1
     go_wp2
     go_roundw
     case rel=>
       refine ⟨k+1,by omega,by go_num,?_⟩
       have:=uh L1
       rw [bytesTo,hnn]
       exact this
     case measure=>simp [intOf];omega
   · have hk32:k=32:=by omega
     subst hk32
     have b1:=hL.o1
     have b2:=hL.o2
     have hbl:=bytesTo_length T 32
     have l1:=box_has b2 hbl
     have l2:=box_cells b2 hbl
     have th:=there_blk b1 0 64 (by simp [cv_length,zc_length])
     have hset:=hL.setCells 1 rfl 0 (cv (bytesTo T 32))
     rw [setList_all _ _ (by simp [cv_length,zc_length,hbl])] at hset
     have o1:=hset.o1
     have l3:=box_has o1 hbl
     have l4:=box_cells o1 hbl
     have HB:=hide hset.below
     clear hL b1 b2 hset o1
     go_wp2
     refine bodyPost_ret (results_cell Tryz.results163 ⟨w.heap.size+1,0,none⟩ rfl ?_) rfl ⟨rfl,uh HB⟩
     rw [loadVar_clus,run_loadClus l3,l4];rfl
theorem headOf_any (w:World) (c:Clus) (hc:c.length=64):
   Calls Tryz.prog 92 #[.agg (cv c).toArray] w fun e w'=>e= .returned (.agg (hv (num c 4) (num c 6)).toArray)∧Below w.heap.size w w':=by
 have L0:=hide (Locs.two w (.cells (cv c).toArray 38) (.cells (hv 0 0).toArray 128))
 have l1:=box_has (uh L0).drew.o0 hc
 have l2:=box_cells (uh L0).drew.o0 hc
 have Hn:Hid (∀ W k,k=4∨k=6→Calls Tryz.prog 149 #[.agg (cv c).toArray,.int .i64 k] W fun e w'=>e= .returned (.int .u16 (num c k.toNat:Nat))∧Below W.heap.size W w'):=fun W k hk=>numberAt_any c k W hc (by omega) (by omega)
 have n4:=num_lt c 4
 have n6:=num_lt c 6
 have e4:IntKind.i64.wrap ((num c 4:Nat):Int)=(num c 4:Nat):=IntWalk.i64_in _ (by omega)
 have e6:IntKind.i64.wrap ((num c 6:Nat):Int)=(num c 6:Nat):=IntWalk.i64_in _ (by omega)
 go_enter Tryz.func92,Tryz.ntmps92
 go_wp2
 go_region_law (go_simp
                go_at_call 149
                refine (uh Hn _ _ (by omega)).mono ?_
                rintro e w1 ⟨rfl,hb1⟩
                have L1:=hide (Locs.later (by first | exact uh L1 | exact (uh L1).drew | exact uh L0 | exact (uh L0).drew) hb1)
                have m1:=box_has (uh L1).o0 hc
                have m2:=box_cells (uh L1).o0 hc
                have th:=there_blk (uh L1).o1 0 2 (by simp [hv_length]))
 all_goals
   have hset:=(uh L1).setCells 1 rfl 0 (hv (num c 4) (num c 6))
   rw [setList_all _ _ (by simp [hv_length])] at hset
   have l3:=blk_has hset.o1 (n:=2) (hv_length _ _)
   have l4:=blk_cells hset.o1 (n:=2) (hv_length _ _)
   have HB:=hide hset.below
   clear hset L0 Hn hb1 m1 m2 l1 l2 th
   go_wp2
   refine bodyPost_ret (results_cell Tryz.results92 ⟨w.heap.size+1,0,none⟩ rfl ?_) rfl ⟨rfl,uh HB⟩
   rw [loadVar_head,run_loadHead l3,l4]
def headBytes (a b:Nat):Clus:=putNum (putNum (velm++List.replicate 60 0) 4 a) 6 b
theorem headBytes_length (a b:Nat):(headBytes a b).length=64:=by rw [headBytes,putNum_length,putNum_length];rfl
theorem cv_append (a b:List UInt8):cv (a++b)=cv a++cv b:=List.map_append
theorem velm_front:setList (cv zc).toArray 0 (cv velm)=(cv (velm++List.replicate 60 0)).toArray:=by
 have h:zc=List.replicate 4 0++List.replicate 60 0:=by rw [zc,List.replicate_append_replicate]
 rw [h,cv_append,cv_append]
 exact setList_front _ _ _ (by simp [cv_length,velm])
theorem headBytes_eq (a b:Nat):headBytes a b=putNum (putNum (velm++List.replicate 60 0) 4 a) 6 b:=rfl
theorem run_copy_velm (w:World) (b:Nat) (t:TypeId) (hb:w.heap[b]? = some (.cells (cv zc).toArray t (0,0))):
   (Builtin.copy_ #[73,9] 3 #[.slice (some ⟨b,0,none⟩) 64 64,.string ⟨#[86,69,76,77]⟩]).run Tryz.prog w= .ok (.int .i64 4) (w.setCells b 0 (cv velm)):=by
 have h:=run_copy_string (P:=Tryz.prog) w 73 9 3 5 b 0 64 64 ⟨#[86,69,76,77]⟩ Tryz.underlying73
   (run_sizeOf Tryz.sizeByte) (by decide) (fun j hj=>by rw [Nat.zero_add,cell_blk hb,List.getElem?_toArray,cv_get _ _ (by rw [zc_length];have:j<4:=hj;omega)];rfl) (fun j _=>frozen_blk hb _)
 rw [h];rfl
theorem headCluster_any (w:World) (a b:Nat) (ha:a<65536) (hb:b<65536):
   Calls Tryz.prog 134 #[.agg (hv a b).toArray] w fun e w'=>e= .returned (.agg (cv (headBytes a b)).toArray)∧Below w.heap.size w w':=by
 have L0:=hide (Locs.three w (.cells (hv a b).toArray 128) (.cells (cv zc).toArray 38) (.cells (cv zc).toArray 38))
 have hcp:=run_copy_velm _ _ _ (uh L0).o2
 have L1:=(uh L0).setCells 2 rfl 0 (cv velm)
 rw [velm_front] at L1
 generalize World.setCells _ _ _ (cv velm)=W1 at hcp L1
 simp only [List.set_cons_succ,List.set_cons_zero] at L1
 have x1:W1.cell? ⟨w.heap.size,0,none⟩=some (.int .i64 (a:Nat)):=(cell_blk L1.o0 0).trans rfl
 have ea:IntKind.u16.wrap (a:Int)=a:=wraps_u16 _ (by omega) (by omega)
 have eb:IntKind.u16.wrap (b:Int)=b:=wraps_u16 _ (by omega) (by omega)
 have Hp1:=hide (putNumber_any W1 _ _ _ L1.o2 (by simp [velm]) 4 a (by omega) ha)
 have L1:=hide L1
 clear L0
 go_enter Tryz.func134,Tryz.ntmps134
 go_wp2_with fail
 refine (uh Hp1).mono ?_
 rintro e W2 ⟨rfl,hb2,hk2⟩
 have L2:=(uh L1).put 2 _ hk2 hb2
 simp only [List.set_cons_succ,List.set_cons_zero] at L2
 have x2:W2.cell? ⟨w.heap.size,1,none⟩=some (.int .i64 (b:Nat)):=(cell_blk L2.o0 1).trans rfl
 have Hp2:=hide (putNumber_any W2 _ _ _ L2.o2 (by rw [putNum_length];simp [velm]) 6 b (by omega) hb)
 have L2:=hide L2
 clear L1 Hp1 hb2 hk2 x1 hcp
 go_wp2_with fail
 refine (uh Hp2).mono ?_
 rintro e W3 ⟨rfl,hb3,hk3⟩
 have L3:=(uh L2).put 2 _ hk3 hb3
 simp only [List.set_cons_succ,List.set_cons_zero] at L3
 rw [← headBytes_eq] at L3
 have hbl:=headBytes_length a b
 have l1:=box_has L3.o2 hbl
 have l2:=box_cells L3.o2 hbl
 have th:=there_blk L3.o1 0 64 (by simp [cv_length,zc_length])
 have hset:=L3.setCells 1 rfl 0 (cv (headBytes a b))
 rw [setList_all _ _ (by simp [cv_length,zc_length,hbl])] at hset
 have o1:=hset.o1
 have l3:=box_has o1 hbl
 have l4:=box_cells o1 hbl
 have HB:=hide hset.below
 clear L2 L3 Hp2 hb3 hk3 x2 hset o1
 generalize hcc:headBytes a b=c at*
 go_wp2
 refine bodyPost_ret (results_cell Tryz.results134 ⟨w.heap.size+1,0,none⟩ rfl ?_) rfl ⟨rfl,uh HB⟩
 rw [loadVar_clus,run_loadClus l3,l4,hcc]
def setPart (k:List UInt8) (p:Nat) (c:Clus):List UInt8:=k.take (64*p)++c++k.drop (64*p+64)
theorem setPart_length (k:List UInt8) (p:Nat) (c:Clus) (hk:k.length=256) (hc:c.length=64) (hp:p<4):(setPart k p c).length=256:=by
 simp [setPart,hk,hc];omega
theorem setList_mid (a b vs d:List Value) (h:b.length=vs.length):setList (a++b++d).toArray a.length vs=(a++vs++d).toArray:=by
 refine Array.ext_getElem? fun i=> ?_
 rw [setList_get vs a.length _ i (by simp;omega)]
 simp only [List.getElem?_toArray]
 by_cases h1:i<a.length
 · rw [if_neg (by omega),List.append_assoc,List.append_assoc,List.getElem?_append_left h1,List.getElem?_append_left h1]
 · by_cases h2:i<a.length+vs.length
   · rw [if_pos (by omega),List.getElem?_append_left (by simp;omega),List.getElem?_append_right (by omega)]
   · rw [if_neg (by omega),List.getElem?_append_right (by simp;omega),List.getElem?_append_right (by simp;omega)]
     simp [h]
theorem setPart_cells (k:List UInt8) (p:Nat) (c:Clus) (hk:k.length=256) (hc:c.length=64) (hp:p<4):setList (cv k).toArray (64*p) (cv c)=(cv (setPart k p c)).toArray:=by
 have h:k=k.take (64*p)++(k.drop (64*p)).take 64++k.drop (64*p+64):=by
   rw [List.append_assoc,← List.drop_drop,List.take_append_drop,List.take_append_drop]
 have h2:=setList_mid (cv (k.take (64*p))) (cv ((k.drop (64*p)).take 64)) (cv c) (cv (k.drop (64*p+64))) (by simp [cv_length,hk,hc];omega)
 rw [← cv_append,← cv_append,← cv_append,← cv_append,← h,cv_length,List.length_take,hk,Nat.min_eq_left (by omega)] at h2
 exact h2
theorem run_copy_part (w:World) (b x p:Nat) (t u:TypeId) (k:List UInt8) (c:Clus) (hk:k.length=256) (hc:c.length=64) (hp:p<4) (hb:w.heap[b]? = some (.cells (cv k).toArray t (0,0))) (hx:w.heap[x]? = some (.cells (cv c).toArray u (0,0))) (n:Nat) (hn:n=256 - 64*p):
   (Builtin.copy_ #[73,73] 3 #[.slice (some ⟨b,64*p,none⟩) n n,.slice (some ⟨x,0,none⟩) 64 64]).run Tryz.prog w= .ok (.int .i64 64) (w.setCells b (64*p) (cv c)):=by
 have h:=run_copy_cells (P:=Tryz.prog) w 73 73 3 5 b (64*p) n n ⟨x,0,none⟩ 64 64 (cv c) Tryz.underlying73 Tryz.sizeByte
   (by rw [cv_length,hc];exact (Nat.min_eq_left (by omega)).symm)
   (fun j v hv=>by rw [show (⟨x,0,none⟩:Addr).add j=⟨x,j,none⟩ by simp [Addr.add];omega];rw [cell_blk hx,List.getElem?_toArray];exact hv)
   (fun j hj=>by rw [cv_length,hc] at hj;rw [cell_blk hb,List.getElem?_toArray,cv_get _ _ (by omega)];rfl) (fun j _=>frozen_blk hb _) (cv_one c)
 rw [h,cv_length,hc];rfl
theorem setPart_any (w:World) (b:Nat) (k:List UInt8) (hk:k.length=256) (hb:w.heap[b]? = some (.cells (cv k).toArray 123 (0,0))) (p:Nat) (hp:p<4) (c:Clus) (hc:c.length=64):
   Calls Tryz.prog 158 #[.pointer (some ⟨b,0,none⟩),.int .i64 (p:Nat),.agg (cv c).toArray] w fun e w'=>e= .returned (.tuple #[])∧w'.heap[b]? = some (.cells (cv (setPart k p c)).toArray 123 (0,0))∧Kept (fun x=>x=b) w w':=by
 have hbl:=blk_lt hb
 have hk1:=((Kept.refl (fun x=>x=b) w).alloc (.cells (cv c).toArray 38)).drew
 have hb1:(w.alloc (.cells (cv c).toArray 38)).drew.heap[b]? = some (.cells (cv k).toArray 123 (0,0)):=(Below.heap_alloc _ _ _ hbl).trans hb
 have hx1:(w.alloc (.cells (cv c).toArray 38)).drew.heap[w.heap.size]? = some (.cells (cv c).toArray 38 (0,0)):=heap_alloc_new w _
 have hcp:=fun n hn=>run_copy_part _ b _ p _ _ k c hk hc hp hb1 hx1 n hn
 have hk2:=hk1.setCells (b:=b) (Or.inl rfl) (64*p) (cv c)
 have hb2:=heap_setCells_same (cv c) (64*p) _ _ _ _ _ hb1
 rw [setPart_cells k p c hk hc hp] at hb2
 have HK:=hide hk2
 have HB:=hide hb2
 clear hb1 hx1 hk1 hk2 hb2
 rcases (show p=0∨p=1∨p=2∨p=3 by omega) with rfl | rfl | rfl | rfl
 · have hcp1:=hcp 256 rfl
   simp only [Nat.reduceMul] at hcp1
   clear hcp
   go_enter Tryz.func158,Tryz.ntmps158
   go_wp2
   go_region
   go_end0
   exact ⟨rfl,uh HB,uh HK⟩
 · have hcp1:=hcp 192 rfl
   simp only [Nat.reduceMul] at hcp1
   clear hcp
   go_enter Tryz.func158,Tryz.ntmps158
   go_wp2
   go_region
   go_end0
   exact ⟨rfl,uh HB,uh HK⟩
 · have hcp1:=hcp 128 rfl
   simp only [Nat.reduceMul] at hcp1
   clear hcp
   go_enter Tryz.func158,Tryz.ntmps158
   go_wp2
   go_region
   go_end0
   exact ⟨rfl,uh HB,uh HK⟩
 · have hcp1:=hcp 64 rfl
   simp only [Nat.reduceMul] at hcp1
   clear hcp
   go_enter Tryz.func158,Tryz.ntmps158
   go_wp2
   go_region
   go_end0
   exact ⟨rfl,uh HB,uh HK⟩
def partOf (k:List UInt8) (p:Nat):Clus:=(k.drop (64*p)).take 64
theorem partOf_length (k:List UInt8) (p:Nat) (hk:k.length=256) (hp:p<4):(partOf k p).length=64:=by simp [partOf,hk];omega
theorem part_range {w:World} {b:Nat} {k:List UInt8} {t:TypeId} {fr:Nat × Nat} (hb:w.heap[b]? = some (.cells (cv k).toArray t fr)) (p:Nat):w.rangeAt b (64*p) (cv (partOf k p)):=fun j v hv=>by
 rw [cell_blk hb,List.getElem?_toArray]
 simp only [cv,List.getElem?_map,partOf] at hv ⊢
 rw [List.getElem?_take] at hv
 split at hv
 · rw [List.getElem?_drop] at hv;exact hv
 · cases hv
theorem run_arrayAt (w:World) (a:Addr) (cap:Nat):(Instr.arrayAt 38 (.slice (some a) 64 cap)).run Tryz.prog w= .ok (.pointer (some a)) w:=by
 unfold Instr.arrayAt
 simp [run_underlying Tryz.underlying38,go_sem]
attribute [local go_sem] run_arrayAt
theorem part_any (w:World) (k:List UInt8) (hk:k.length=256) (p:Nat) (hp:p<4):
   Calls Tryz.prog 132 #[.agg (cv k).toArray,.int .i64 (p:Nat)] w fun e w'=>e= .returned (.agg (cv (partOf k p)).toArray)∧Below w.heap.size w w':=by
 have L0:=Locs.two w (.cells (cv k).toArray 123) (.cells (cv zc).toArray 38)
 have hpl:=partOf_length k p hk hp
 have l1:=hasAt_of_range (n:=64) (part_range L0.o0 p) (by rw [cv_length,hpl])
 have l2:=cellsAt_of_range (n:=64) (part_range L0.o0 p) (by rw [cv_length,hpl])
 have th:=there_blk L0.o1 0 64 (by simp [cv_length,zc_length])
 have hset:=L0.setCells 1 rfl 0 (cv (partOf k p))
 rw [setList_all _ _ (by simp [cv_length,zc_length,hpl])] at hset
 have l3:=box_has hset.o1 hpl
 have l4:=box_cells hset.o1 hpl
 have HB:=hide hset.below
 clear L0 hset
 rcases (show p=0∨p=1∨p=2∨p=3 by omega) with rfl | rfl | rfl | rfl
 all_goals
   generalize hcc:partOf k _=c at*
   simp only [Nat.reduceMul] at l1 l2
   go_enter Tryz.func132,Tryz.ntmps132
   go_wp2
   refine bodyPost_ret (results_cell Tryz.results132 ⟨w.heap.size+1,0,none⟩ rfl ?_) rfl ⟨rfl,uh HB⟩
   rw [loadVar_clus,run_loadClus l3,l4]
end Go.Proofs.YtknjjjenklfeoaaGreatDoor
namespace Go.Proofs.YtknjjjenklfeoaaGreatDoor
open Go.RowKit
variable {P:Program} (w:World)
end Go.Proofs.YtknjjjenklfeoaaGreatDoor
namespace Go.Proofs.YtknjjjenklfeoaaGreatDoor
open Go.RowKit
theorem run_buildSlice_two {P:Program} (w:World) (t e:TypeId) (n:Nat) (z v u:Value) (ht:P.underlying t=some (.slice e)) (hi:(P.info? e).map (fun i=>(i.zero,i.size))=some (some z,n)) (h0:0<n) (hn:n≤1000000) (hv:v.cells.size=n) (hu:u.cells.size=n):
   (Instr.buildSlice t 2 #[(0,v),(1,u)]).run P w= .ok (.slice (some ⟨w.heap.size,0,none⟩) 2 2) (w.alloc (.cells (v.cells.toList++u.cells.toList).toArray e)):=by
 obtain ⟨hz,hs⟩:=zero_of_info hi
 cases hq:P.info? e with
 | none=>simp [hq] at hs
 | some i=>
   have hsz:i.size=n:=by simpa [hq] using hs
   have hf:Instr.fill (fun i=>some (i*n,n)) ((Array.range (2*n)).map (z.cells[· % z.cells.size]!)) [(0,v),(1,u)]=some (v.cells.toList++u.cells.toList).toArray:=by
     generalize hA:(Array.range (2*n)).map (z.cells[· % z.cells.size]!)=A
     have hAs:A.toList.length=2*n:=by rw [← hA];simp
     rw [fill_one _ _ 0 0 n v _ (by simp) hv (by rw [← hA];simp;omega),fill_one _ _ 1 n n u [] (by simp) hu (by rw [setList_size,← hA];simp;omega),Instr.fill]
     have e1:setList A 0 v.cells.toList=(v.cells.toList++A.toList.drop n).toArray:=by
       have e0:A=(A.toList.take n++A.toList.drop n).toArray:=by rw [List.take_append_drop]
       conv=>lhs;rw [e0]
       exact setList_front _ _ _ (by simp [hv];rw [← Array.length_toList];omega)
     rw [e1]
     have e2:=setList_back v.cells.toList (A.toList.drop n) u.cells.toList (by simp [hu];rw [← Array.length_toList];omega)
     rw [show v.cells.toList.length=n by simp [hv]] at e2
     rw [e2]
   unfold Instr.buildSlice
   rw [Sem.run_bind,run_underlying ht w]
   simp only [Result.andThen_ok,Go.sizeOf,typeInfo,Sem.run_bind,run_program,hq,Sem.run_pure,hsz]
   rw [if_neg (by omega),if_neg (by omega)]
   simp only [Sem.run_bind,hz,Result.andThen_ok,Sem.run_pure,hf]
   simp [newRow]
end Go.Proofs.YtknjjjenklfeoaaGreatDoor
namespace Go.Proofs.YtknjjjenklfeoaaGreatDoor
open Go.RowKit
attribute [local go_sem ↓] loadVar_clus storeVar_clus zeroValue_clus buildSlice_clus
attribute [local go_sem] run_loadClus run_storeClus run_zeroClus zc_length run_bsClus
end Go.Proofs.YtknjjjenklfeoaaGreatDoor
namespace Go.Proofs.YtknjjjenklfeoaaGreatDoor
open Go.RowKit
theorem run_storeWr {w:World} {b o:Nat} {x:WrR} (ht:w.there b o 65) (hc:x.data.length=64):(storeWr ⟨b,o,none⟩ (.agg (wrCells x).toArray)).run Tryz.prog w= .ok () (w.setCells b o (wrCells x)):=by
 have:=run_storeVar_mid (P:=Tryz.prog) w b o 104 (wrCells x).toArray (by simpa [wrCells_length hc] using ht) (by simp only [List.size_toArray,wrCells_length hc];kernel_rfl) (all_oneCell_toArray (wrCells_one x))
 simpa [storeWr] using this
def bWr (parts:Array (Nat × Value)):Sem Value:=Instr.build 104 parts
theorem build_wr (parts:Array (Nat × Value)):Instr.build 104 parts=bWr parts:=rfl
theorem run_bWr0 (n:Int) (w:World):(bWr #[(0,.int .i64 n)]).run Tryz.prog w= .ok (.agg (wrCells ⟨n,zc⟩).toArray) w:=by
 have hz:=(zero_of_info (P:=Tryz.prog) (t:=104) (v:= .agg (wrCells ⟨0,zc⟩).toArray) (n:=65) (by kernel_rfl)).1
 have hf:Instr.fill (fun x=>(#[(0,1),(1,64)]:Array (Nat × Nat))[x]?) ([Value.int .i64 0]++cv zc).toArray [(0,Value.int .i64 n)]=some (wrCells ⟨n,zc⟩).toArray:=by
   rw [fill_one _ _ 0 0 1 (.int .i64 n) [] (by rfl) (by rfl) (by simp),Instr.fill,show (Value.int .i64 n).cells.toList=[Value.int .i64 n] from rfl,setList_front [Value.int .i64 0] (cv zc) [Value.int .i64 n] rfl]
   rfl
 exact run_build_struct w 104 _ (.agg (wrCells ⟨0,zc⟩).toArray) #[(0,1),(1,64)] #[(0,.int .i64 n)] _ Tryz.underlying104 hz (fun w=>by kernel_rfl) hf
def bsWr (parts:Array (Nat × Value)):Sem Value:=Instr.buildSlice 58 1 parts
theorem buildSlice_wr (parts:Array (Nat × Value)):Instr.buildSlice 58 1 parts=bsWr parts:=rfl
theorem run_bsWr {w:World} {x:WrR} (hc:x.data.length=64):(bsWr #[(0,.agg (wrCells x).toArray)]).run Tryz.prog w= .ok (.slice (some ⟨w.heap.size,0,none⟩) 1 1) (w.alloc (.cells (wrCells x).toArray 104)):=
 run_buildSlice_one w 58 104 65 (.agg (wrCells ⟨0,zc⟩).toArray) (.agg (wrCells x).toArray) Tryz.underlying58 (by kernel_rfl) (by omega) (by omega) (by simp [Value.cells,wrCells_length hc])
theorem Tryz.infoWr:(Tryz.prog.info? 104).map (fun i=>(i.zero,i.size,i.bytes))=some (some (.agg (wrCells ⟨0,zc⟩).toArray),65,72):=by kernel_rfl
theorem Tryz.infoInt:(Tryz.prog.info? 3).map (fun i=>(i.zero,i.size,i.bytes))=some (some (.int .i64 0),1,8):=by kernel_rfl
theorem flatW_snoc (l:List WrR) (x:WrR):flatW (l++[x])=flatW l++wrCells x:=by simp [flatW]
structure VolR where
 C:List Clus
 L:List WrR
 loose:Bool
 short:Bool
def volCells (Cv Lv:Value) (V:VolR):List Value:=[Cv,Lv,.bool V.loose,.bool V.short]
structure VolAt (w:World) (v:Nat) (Cv Lv:Value) (V:VolR):Prop where
 blk:w.heap[v]? = some (.cells (volCells Cv Lv V).toArray 121 (0,0))
 rowC:w.ownsRow 0 38 64 Cv V.C.length (flatC V.C)
 rowL:w.ownsRow 0 104 65 Lv V.L.length (flatW V.L)
 lenC: ∀ c ∈ V.C,c.length=64
 lenL: ∀ x ∈ V.L,x.data.length=64
 sh:V.short=true→0<V.C.length
def foot (v:Nat) (Cv Lv:Value) (k:Nat):Prop:=k=v∨Cv.ownBlock=some k∨Lv.ownBlock=some k
section
variable {w w':World} {v:Nat} {Cv Lv:Value} {V:VolR}
theorem VolAt.c0 (h:VolAt w v Cv Lv V):w.cell? ⟨v,0,none⟩=some Cv:=by rw [cell_blk h.blk];rfl
theorem VolAt.c1 (h:VolAt w v Cv Lv V):w.cell? ⟨v,1,none⟩=some Lv:=by rw [cell_blk h.blk];rfl
theorem VolAt.c2 (h:VolAt w v Cv Lv V):w.cell? ⟨v,2,none⟩=some (.bool V.loose):=by rw [cell_blk h.blk];rfl
theorem VolAt.c3 (h:VolAt w v Cv Lv V):w.cell? ⟨v,3,none⟩=some (.bool V.short):=by rw [cell_blk h.blk];rfl
theorem VolAt.fz (h:VolAt w v Cv Lv V) (i:Nat):w.frozen? ⟨v,i,none⟩=false:=frozen_blk h.blk i
theorem VolAt.lt (h:VolAt w v Cv Lv V):v<w.heap.size:=blk_lt h.blk
theorem VolAt.neC (h:VolAt w v Cv Lv V): ∀ g,Cv.ownBlock=some g→g≠v:=row_ne h.rowC h.blk (by decide)
theorem VolAt.neL (h:VolAt w v Cv Lv V): ∀ g,Lv.ownBlock=some g→g≠v:=row_ne h.rowL h.blk (by decide)
theorem VolAt.neCL (h:VolAt w v Cv Lv V): ∀ g,Lv.ownBlock=some g→Cv.ownBlock≠some g:=by
 intro g hg hl
 rcases h.rowC.2 with ⟨rfl,_⟩ | ⟨g',cap,cur,rfl,_,hh,_⟩
 · cases hl
 · simp only [Value.ownBlock,Option.some.injEq] at hl
   subst hl
   exact row_ne h.rowL hh (by decide) _ hg rfl
theorem VolAt.foot_lt (h:VolAt w v Cv Lv V): ∀ k,foot v Cv Lv k→k<w.heap.size:=by
 rintro k (rfl | hk | hk)
 · exact h.lt
 · exact (h.rowC.lt k hk).2
 · exact (h.rowL.lt k hk).2
theorem VolAt.kept {S:Nat→Prop} (h:VolAt w v Cv Lv V) (hk:Kept S w w') (hs: ∀ k,foot v Cv Lv k→ ¬ S k):VolAt w' v Cv Lv V:=
 ⟨hk.blk (hs v (Or.inl rfl)) h.blk,ownsRow_kept hk h.rowC (fun g hg=>hs g (Or.inr (Or.inl hg))),ownsRow_kept hk h.rowL (fun g hg=>hs g (Or.inr (Or.inr hg))),h.lenC,h.lenL,h.sh⟩
theorem VolAt.below (h:VolAt w v Cv Lv V) (hb:Below w.heap.size w w'):VolAt w' v Cv Lv V:=h.kept (S:=fun _=>False) (Kept.of_below hb) (fun _ _=>id)
theorem VolAt.drew (h:VolAt w v Cv Lv V):VolAt w.drew v Cv Lv V:=h.kept (S:=fun _=>False) ((Kept.refl _ _).drew) (fun _ _=>id)
theorem VolAt.drewN (h:VolAt w v Cv Lv V) (n:Nat):VolAt (w.drewN n) v Cv Lv V:=h.kept (S:=fun _=>False) ((Kept.refl _ _).drewN n) (fun _ _=>id)
theorem VolAt.alloc (h:VolAt w v Cv Lv V) (o:Obj):VolAt (w.alloc o) v Cv Lv V:=h.below ((Below.refl _ _).alloc (Nat.le_refl _) _)
end
structure VStep (w w':World) (v:Nat) (Cv Lv Cv' Lv':Value) (V':VolR):Prop where
 at':VolAt w' v Cv' Lv' V'
 kept:Kept (foot v Cv Lv) w w'
 new: ∀ k,foot v Cv' Lv' k→foot v Cv Lv k∨w.heap.size≤k
section
variable {w w1 w2:World} {v:Nat} {Cv Lv C1 L1 C2 L2:Value} {V V1 V2:VolR}
theorem VStep.refl (h:VolAt w v Cv Lv V):VStep w w v Cv Lv Cv Lv V:=⟨h,Kept.refl _ _,fun _ hk=>Or.inl hk⟩
theorem VStep.trans (h:VStep w w1 v Cv Lv C1 L1 V1) (k:VStep w1 w2 v C1 L1 C2 L2 V2):VStep w w2 v Cv Lv C2 L2 V2:=
 ⟨k.at',⟨k.kept.os.trans h.kept.os,k.kept.tape.trans h.kept.tape,k.kept.output.trans h.kept.output,Nat.le_trans h.kept.size k.kept.size,fun i hi hs=>by
   rw [k.kept.block i (Nat.lt_of_lt_of_le hi h.kept.size) (fun hf=>(h.new i hf).elim hs (by omega))]
   exact h.kept.block i hi hs⟩,fun i hi=>(k.new i hi).elim (h.new i) (fun hle=>Or.inr (Nat.le_trans h.kept.size hle))⟩
theorem VStep.later (h:VStep w w1 v Cv Lv C1 L1 V1) (hb:Below w1.heap.size w1 w2):VStep w w2 v Cv Lv C1 L1 V1:=
 ⟨h.at'.below hb,h.kept.trans (Kept.of_below hb),h.new⟩
theorem VStep.drew (h:VStep w w1 v Cv Lv C1 L1 V1):VStep w w1.drew v Cv Lv C1 L1 V1:=⟨h.at'.drew,h.kept.drew,h.new⟩
theorem VStep.drewN (h:VStep w w1 v Cv Lv C1 L1 V1) (n:Nat):VStep w (w1.drewN n) v Cv Lv C1 L1 V1:=⟨h.at'.drewN n,h.kept.drewN n,h.new⟩
theorem VStep.alloc (h:VStep w w1 v Cv Lv C1 L1 V1) (o:Obj):VStep w (w1.alloc o) v Cv Lv C1 L1 V1:=h.later ((Below.refl _ _).alloc (Nat.le_refl _) _)
theorem VStep.own (h:VStep w w1 v Cv Lv C1 L1 V1) {S:Nat→Prop} (hk:Kept S w1 w2) (hs: ∀ k,S k→w.heap.size≤k∧ ¬ foot v C1 L1 k):VStep w w2 v Cv Lv C1 L1 V1:=
 ⟨h.at'.kept hk (fun k hf hS=>(hs k hS).2 hf),⟨hk.os.trans h.kept.os,hk.tape.trans h.kept.tape,hk.output.trans h.kept.output,Nat.le_trans h.kept.size hk.size,fun i hi hf=>by
   rw [hk.block i (Nat.lt_of_lt_of_le hi h.kept.size) (fun hS=>by have:=(hs i hS).1;omega)];exact h.kept.block i hi hf⟩,h.new⟩
end
structure Env (w w':World) (v:Nat) (Cv Lv Cv' Lv':Value) (V':VolR) (bs:List (Nat × Obj)):Prop where
 step:VStep w w' v Cv Lv Cv' Lv' V'
 objs: ∀ x ∈ bs,w'.heap[x.1]? = some x.2∧w.heap.size≤x.1∧ ¬ foot v Cv' Lv' x.1
section
variable {w w1 w2:World} {v:Nat} {Cv Lv C1 L1 C2 L2:Value} {V V1 V2:VolR} {bs:List (Nat × Obj)}
theorem Env.start (h:VolAt w v Cv Lv V):Env w w v Cv Lv Cv Lv V []:=⟨VStep.refl h,fun _ hx=>by simp at hx⟩
theorem Env.does (h:Env w w1 v Cv Lv C1 L1 V1 bs) (k:VStep w1 w2 v C1 L1 C2 L2 V2):Env w w2 v Cv Lv C2 L2 V2 bs:=
 ⟨h.step.trans k,fun x hx=>by
   obtain ⟨h1,h2,h3⟩:=h.objs x hx
   exact ⟨(k.kept.block x.1 (blk_lt h1) h3).trans h1,h2,fun hf=>(k.new x.1 hf).elim h3 (by have:=blk_lt h1;omega)⟩⟩
theorem Env.later (h:Env w w1 v Cv Lv C1 L1 V1 bs) (hb:Below w1.heap.size w1 w2):Env w w2 v Cv Lv C1 L1 V1 bs:=
 ⟨h.step.later hb,fun x hx=>by obtain ⟨h1,h2,h3⟩:=h.objs x hx;exact ⟨(hb.block _ (blk_lt h1)).trans h1,h2,h3⟩⟩
theorem Env.drew (h:Env w w1 v Cv Lv C1 L1 V1 bs):Env w w1.drew v Cv Lv C1 L1 V1 bs:=⟨h.step.drew,h.objs⟩
theorem Env.drewN (h:Env w w1 v Cv Lv C1 L1 V1 bs) (n:Nat):Env w (w1.drewN n) v Cv Lv C1 L1 V1 bs:=⟨h.step.drewN n,h.objs⟩
theorem Env.lay (h:Env w w1 v Cv Lv C1 L1 V1 bs) (o:Obj):Env w (w1.alloc o) v Cv Lv C1 L1 V1 ((w1.heap.size,o) :: bs):=
 ⟨h.step.alloc o,fun x hx=>by
   rcases List.mem_cons.1 hx with rfl | hx
   · exact ⟨heap_alloc_new w1 o,h.step.kept.size,fun hf=>by have:=h.step.at'.foot_lt _ hf;omega⟩
   · obtain ⟨h1,h2,h3⟩:=h.objs x hx;exact ⟨(Below.heap_alloc _ _ _ (blk_lt h1)).trans h1,h2,h3⟩⟩
theorem Env.alloc (h:Env w w1 v Cv Lv C1 L1 V1 bs) (o:Obj):Env w (w1.alloc o) v Cv Lv C1 L1 V1 bs:=h.later ((Below.refl _ _).alloc (Nat.le_refl _) _)
theorem Env.sub {cs:List (Nat × Obj)} (h:Env w w1 v Cv Lv C1 L1 V1 bs) (hs: ∀ x ∈ cs,x ∈ bs):Env w w1 v Cv Lv C1 L1 V1 cs:=⟨h.step,fun x hx=>h.objs x (hs x hx)⟩
theorem Env.put {b:Nat} {o o':Obj} (h:Env w w1 v Cv Lv C1 L1 V1 ((b,o) :: bs)) (hne: ∀ x ∈ bs,x.1≠b) (hk:Kept (fun x=>x=b) w1 w2) (ho:w2.heap[b]? = some o'):Env w w2 v Cv Lv C1 L1 V1 ((b,o') :: bs):=by
 obtain ⟨h1,h2,h3⟩:=h.objs (b,o) (by simp)
 refine ⟨h.step.own hk (by rintro k rfl;exact ⟨h2,h3⟩),fun x hx=> ?_⟩
 rcases List.mem_cons.1 hx with rfl | hx
 · exact ⟨ho,h2,h3⟩
 · obtain ⟨y1,y2,y3⟩:=h.objs x (by simp [hx])
   exact ⟨hk.blk (hne x hx) y1,y2,y3⟩
theorem Env.at' (h:Env w w1 v Cv Lv C1 L1 V1 bs):VolAt w1 v C1 L1 V1:=h.step.at'
theorem Env.o0 {b:Nat} {o:Obj} (h:Env w w1 v Cv Lv C1 L1 V1 ((b,o) :: bs)):w1.heap[b]? = some o:=(h.objs (b,o) (by simp)).1
theorem Env.o1 {a b:Nat} {p o:Obj} (h:Env w w1 v Cv Lv C1 L1 V1 ((a,p) :: (b,o) :: bs)):w1.heap[b]? = some o:=(h.objs (b,o) (by simp)).1
theorem Env.o2 {a b c:Nat} {p q o:Obj} (h:Env w w1 v Cv Lv C1 L1 V1 ((a,p) :: (c,q) :: (b,o) :: bs)):w1.heap[b]? = some o:=(h.objs (b,o) (by simp)).1
end
end Go.Proofs.YtknjjjenklfeoaaGreatDoor
