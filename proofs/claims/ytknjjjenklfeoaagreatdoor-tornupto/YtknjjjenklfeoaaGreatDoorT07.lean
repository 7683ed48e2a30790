import Derived.Test.YtknjjjenklfeoaaGreatDoorT06
import Derived.Lib.BytesEntry
import Derived.Laws.Externs
import Derived.OwnWalk
import Derived.RangeFuncNested
import Derived.RangeFuncBound
import Derived.RangeFuncCalls
import Derived.RangeFuncLeaves
import Derived.Shelf.Abstract
import Derived.Shelf.RegionOpen
import Derived.WalkKit
import Derived.OwnWalkIn
import Derived.TacticsInMore
import Derived.LoopNIn
import Derived.LoopIn
set_option maxHeartbeats 8000000
set_option maxRecDepth 100000
namespace Go.Proofs.YtknjjjenklfeoaaGreatDoor
open Go.RowKit
attribute [local go_sem ↓] loadVar_clus storeVar_clus zeroValue_clus loadVar_tab storeVar_tab zeroValue_tab loadVar_cnt storeVar_cnt zeroValue_cnt loadVar_head storeVar_head zeroValue_head build_head buildSlice_clus loadVar_wr storeVar_wr zeroValue_wr build_wr buildSlice_wr equalIn_clus loadVar_place storeVar_place zeroValue_place build_place
attribute [local go_sem] run_loadClus run_storeClus run_zeroClus run_storeClus_new run_loadClus_new zc_length run_loadTab run_storeTab run_zeroTab run_storeTab_new run_loadTab_new zt_length run_loadCnt run_storeCnt run_zeroCnt run_storeCnt_new run_loadCnt_new zk_length run_loadHead run_storeHead run_zeroHead run_storeHead_new run_bHead HasAt_drew cellsAt_drew HasAt_drewN cellsAt_drewN run_bsClus run_loadWr run_zeroWr run_storeWr run_storeWr_new run_bWr0 run_bsWr run_loadPlace run_storePlace run_zeroPlace run_storePlace_new run_bPlace
attribute [local go_sem] field_head1 field_head0
def vol0:VolR:=⟨[],[],false,false⟩
def seven:List Nat:=[0,1,2,3,4,5,6]
def newV1:VolR:=putCnt vol0 (ones zk seven) 4
def newV2:VolR:=putV newV1 5 zc
def newV3:VolR:=putV newV2 6 zc
def newV4:VolR:=flushV newV3
def newV5:VolR:=putV newV4 0 (headBytes 7 6)
def newV:VolR:=flushV newV5
theorem newV_lens:newV1.C.length≤10∧newV2.C.length≤10∧newV3.C.length≤10∧newV4.C.length≤10∧newV5.C.length≤10∧newV1.L.length≤40∧newV2.L.length≤40∧newV3.L.length≤40∧newV4.L.length≤40∧newV5.L.length≤40:=by
 have a1:=putCnt_lenC vol0 (ones zk seven) 4
 have b1:=putCnt_lenL vol0 (ones zk seven) 4
 have c0:vol0.C.length=0:=rfl
 have d0:vol0.L.length=0:=rfl
 have e1:newV1.C.length≤5:=by unfold newV1;omega
 have f1:newV1.L.length≤8:=by unfold newV1;omega
 have e2:newV2.C.length=max newV1.C.length 6:=putV_lenC _ _ _
 have f2:newV2.L.length≤newV1.L.length+2:=putV_lenL _ _ _
 have e3:newV3.C.length=max newV2.C.length 7:=putV_lenC _ _ _
 have f3:newV3.L.length≤newV2.L.length+2:=putV_lenL _ _ _
 have e4:newV4.C.length=newV3.C.length:=by unfold newV4;rw [flushV_C]
 have f4:newV4.L.length≤newV3.L.length+1:=flushV_lenL _
 have e5:newV5.C.length=max newV4.C.length 1:=putV_lenC _ _ _
 have f5:newV5.L.length≤newV4.L.length+2:=putV_lenL _ _ _
 omega
theorem seven_take: ∀ k,k<7→seven.take (k+1)=seven.take k++[k]:=by decide
theorem vol0_at (w:World):VolAt (w.alloc (.cells #[.slice none 0 0,.slice none 0 0,.bool false,.bool false] 121)) w.heap.size (.slice none 0 0) (.slice none 0 0) vol0:=
 ⟨heap_alloc_new w _,World.ownsRow_nil _ _ _ _,World.ownsRow_nil _ _ _ _,(by intro c hc;cases hc),(by intro c hc;cases hc),(by intro h;cases h)⟩
theorem volNew_any (w:World):Calls Tryz.prog 36 #[] w fun e w'=> ∃ Cv Lv,e= .returned (.pointer (some ⟨w.heap.size,0,none⟩))∧VStep (w.alloc (.cells #[.slice none 0 0,.slice none 0 0,.bool false,.bool false] 121)) w' w.heap.size (.slice none 0 0) (.slice none 0 0) Cv Lv newV:=by
 have E0:=(Env.start (vol0_at w)).lay (.cells (cv zk).toArray 123)
 have hls:=newV_lens
 have hbh: ∀ W,(bHead #[(0,.int .i64 7),(1,.int .i64 6)]).run Tryz.prog W= .ok (.agg (hv 7 6).toArray) W:=fun W=>run_bHead 7 6 W
 have E0:=hide E0
 go_enter Tryz.func36,Tryz.ntmps36
 go_wp2
 rw [World.size_alloc] at E0
 generalize (w.alloc (.cells #[.slice none 0 0,.slice none 0 0,.bool false,.bool false] 121)).alloc (.cells (cv zk).toArray 123)=W at E0 ⊢
 generalize hw0:w.alloc (.cells #[.slice none 0 0,.slice none 0 0,.bool false,.bool false] 121)=w0 at*
 go_loopw [3,6] (fun _ i w'=> ∃ k:Nat,k≤7∧i= .int .i64 k∧Env w0 w' w.heap.size (.slice none 0 0) (.slice none 0 0) (.slice none 0 0) (.slice none 0 0) vol0 [(w.heap.size+1,.cells (cv (ones zk (seven.take k))).toArray 123)]) (fun _ i _=>7 - (intOf i).toNat)
 case atStart=>exact ⟨0,by omega,rfl,uh E0⟩
 case round=>
   obtain ⟨k,hk,rfl,hE⟩:=hrel
   clear E0
   have hol:(ones zk (seven.take k)).length=256:=by rw [ones_length];exact zk_length
   by_cases hlt:k<7
   · have hki:(k:Int)<7:=by omega
     have c1:wr.cell? ⟨w.heap.size+1,k,none⟩=some (.int .u8 (byteAt (ones zk (seven.take k)) k:Nat)):=by
       rw [cell_blk hE.o0,List.getElem?_toArray,cv_get _ _ (by omega)]
     have f1:=frozen_blk hE.o0
     have E3:=hE.put (by simp) (Kept.only _ (w.heap.size+1) k (.int .u8 1)) (heap_setCell_same _ _ _ _ _ _ _ hE.o0)
     have hset:(cv (ones zk (seven.take k))).toArray.setIfInBounds k (.int .u8 1)=(cv (ones zk (seven.take (k+1)))).toArray:=by
       rw [seven_take k hlt,ones_snoc,List.setIfInBounds_toArray]
       congr 1
       have:=cv_setB (ones zk (seven.take k)) k 1 (by omega)
       exact this.symm
     rw [hset] at E3
     have HE:=hide E3
     clear E3 hE hset
     go_wp2
     go_roundw
     case rel=>exact ⟨k+1,by omega,by go_num,uh HE⟩
     case measure=>simp [intOf];omega
   · have hk7:k=7:=by omega
     subst hk7
     have hE':Env w0 wr w.heap.size (.slice none 0 0) (.slice none 0 0) (.slice none 0 0) (.slice none 0 0) vol0 [(w.heap.size+1,.cells (cv (ones zk seven)).toArray 123)]:=hE
     have hol':(ones zk seven).length=256:=hol
     have l1:=blk_has hE'.o0 (n:=256) (by rw [cv_length,hol'])
     have l2:=blk_cells hE'.o0 (n:=256) (by rw [cv_length,hol'])
     have Hp:=hide (putCounts_any wr _ _ _ vol0 hE'.at' (ones zk seven) hol' (by decide) (by decide))
     have HE:=hide hE'
     clear hE hE' hol
     have HV1:Hid (newV1=putCnt vol0 (ones zk seven) 4):=rfl
     generalize ones zk seven=k7 at*
     go_wp2_with fail
     refine (uh Hp).mono ?_
     rintro e w1 ⟨rfl,C1,L1,hS1⟩
     rw [← uh HV1] at hS1
     have E1:=hide ((uh HE).does hS1)
     clear hS1 HE Hp l1 l2
     go_wp2_with fail
     refine (put_any _ _ _ _ _ (uh E1).at' 5 (by omega) zc zc_length (by omega) (by omega)).mono ?_
     rintro e w2 ⟨rfl,C2,L2,hS2⟩
     have E2:Hid (Env _ _ _ _ _ _ _ newV2 _):=hide ((uh E1).does hS2)
     clear hS2 E1
     go_wp2_with fail
     refine (put_any _ _ _ _ _ (uh E2).at' 6 (by omega) zc zc_length (by omega) (by omega)).mono ?_
     rintro e w3 ⟨rfl,C3,L3,hS3⟩
     have E3:Hid (Env _ _ _ _ _ _ _ newV3 _):=hide ((uh E2).does hS3)
     clear hS3 E2
     go_wp2_with fail
     refine (flush_any _ _ _ _ _ (uh E3).at' (by omega)).mono ?_
     rintro e w4 ⟨rfl,C4,L4,hS4⟩
     have E4:Hid (Env _ _ _ _ _ _ _ newV4 _):=hide ((uh E3).does hS4)
     clear hS4 E3
     go_wp2_with fail
     refine (putHead_any _ _ _ _ _ (uh E4).at' 7 6 (by omega) (by omega) (by omega) (by omega)).mono ?_
     rintro e w5 ⟨rfl,C5,L5,hS5⟩
     have E5:Hid (Env _ _ _ _ _ _ _ newV5 _):=hide ((uh E4).does hS5)
     clear hS5 E4
     go_wp2_with fail
     refine (flush_any _ _ _ _ _ (uh E5).at' (by omega)).mono ?_
     rintro e w6 ⟨rfl,C6,L6,hS6⟩
     have E6:Hid (VStep _ _ _ _ _ _ _ newV):=hide ((uh E5).does hS6).step
     clear hS6 E5
     go_wp2
     go_ret
     exact ⟨C6,L6,rfl,by rw [hw0];exact uh E6⟩
theorem new_below {w w':World} {Cv Lv:Value} {V:VolR} {o:Obj} (h:VStep (w.alloc o) w' w.heap.size (.slice none 0 0) (.slice none 0 0) Cv Lv V):Below w.heap.size w w'∧ ∀ k,foot w.heap.size Cv Lv k→w.heap.size≤k:=by
 refine ⟨⟨h.kept.os,h.kept.tape,h.kept.output,by have:=h.kept.size;simp at this;omega,fun k hk=> ?_⟩,fun k hk=> ?_⟩
 · rw [h.kept.block k (by simp;omega) (by rintro (e | e | e);omega;cases e;cases e)]
   exact Below.heap_alloc _ _ _ hk
 · rcases h.new k hk with (e | e | e) | e
   · omega
   · cases e
   · cases e
   · simp at e;omega
theorem diskNew_any (w:World):Calls Tryz.prog 11 #[] w fun e w'=> ∃ d v Cv Lv,e= .returned (.pointer (some ⟨d,0,none⟩))∧DskAt w' d v Cv Lv newV∧Below w.heap.size w w'∧ ∀ k,dfoot d v Cv Lv k→w.heap.size≤k:=by
 have Hn:=hide (volNew_any w)
 go_enter Tryz.func11,Tryz.ntmps11
 go_wp2_with fail
 refine (uh Hn).mono ?_
 rintro e w1 ⟨Cv,Lv,rfl,hS⟩
 obtain ⟨hB,hF⟩:=new_below hS
 have HS:=hide hS.at'
 have HB:=hide hB
 have HF:=hide hF
 clear hS hB hF
 go_wp2
 go_ret
 refine ⟨w1.heap.size,w.heap.size,Cv,Lv,rfl,⟨heap_alloc_new _ _,(uh HS).alloc _⟩,(uh HB).alloc (uh HB).size _,fun k hk=> ?_⟩
 rcases hk with e | e
 · have:=(uh HB).size;omega
 · exact uh HF k e
def zeroAt (c:List UInt8):Int:=Lib.indexByte c 0
theorem zeroAt_range (c:List UInt8): -1≤zeroAt c∧zeroAt c<c.length:=by
 unfold zeroAt
 induction c with
 | nil=>simp [Lib.indexByte]
 | cons a r ih=>
   simp only [Lib.indexByte,List.length_cons]
   split
   · omega
   · split
     · omega
     · rename_i h
       simp only [beq_iff_eq] at h
       omega
theorem bytesOf_ints (c:List UInt8):Lib.bytesOf (c.map fun b=>((b.toNat:Nat):Int))=c:=by
 unfold Lib.bytesOf
 rw [List.map_map]
 conv=>rhs;rw [← List.map_id c]
 refine List.map_congr_left fun b _=> ?_
 simp
theorem indexByte_any (w:World) (b o cap:Nat) (c:List UInt8) (hr:w.rangeAt b o (cv c)):
   Calls Tryz.prog 183 #[.slice (some ⟨b,o,none⟩) c.length cap,.int .u8 0] w fun e w'=>e= .returned (.int .i64 (zeroAt c))∧w'=w:=by
 have hx:(c.map fun b=>((b.toNat:Nat):Int)).length=c.length:=by simp
 have hc: ∀ i,i<c.length→w.cell? ⟨b,o+i,none⟩=some (.int .u8 ((c.map fun b=>((b.toNat:Nat):Int)).getD i 0)):=by
   intro i hi
   have:=hr i (.int .u8 (byteAt c i:Nat)) (by rw [cv_get _ _ hi])
   rw [this,List.getD_eq_getElem?_getD,List.getElem?_map,List.getElem?_eq_getElem hi]
   simp [byteAt,hi]
 have hex: ∀ W,W=w→(callFunc 188 #[.slice (some ⟨b,o,none⟩) c.length cap,.int .u8 0]).run Tryz.prog W= .ok (.value (.int .i64 (zeroAt c))) W:=by
   rintro W rfl
   rw [run_callFunc_extern Tryz.func188 (by kernel_rfl) (by kernel_rfl) (by kernel_rfl) (e:=Extern.BytealgIndexByte.indexByte) (by kernel_rfl),Lib.run_indexByteSlice W b o c.length cap _ hx hc 0,bytesOf_ints]
   rfl
 have hex:=hex w rfl
 clear hx hc hr
 generalize zeroAt c=z at*
 go_enter Tryz.func183,Tryz.ntmps183
 go_wp2
 go_ret
 exact ⟨rfl,rfl⟩
theorem index_any (w:World) (b o cap:Nat) (c:List UInt8) (hr:w.rangeAt b o (cv c)) (s:Nat) (hs:w.cell? ⟨s,0,none⟩=some (.int .u8 0)):
   Calls Tryz.prog 180 #[.slice (some ⟨b,o,none⟩) c.length cap,.slice (some ⟨s,0,none⟩) 1 1] w fun e w'=>e= .returned (.int .i64 (zeroAt c))∧w'=w:=by
 have Hi:=hide (indexByte_any w b o cap c hr)
 clear hr
 generalize zeroAt c=z at*
 go_enter Tryz.func180,Tryz.ntmps180
 go_wp2_with fail
 refine (uh Hi).mono ?_
 rintro e w1 ⟨rfl,rfl⟩
 go_wp2
 go_ret
 exact ⟨rfl,rfl⟩
def cutLen (c:List UInt8):Nat:=if 0≤zeroAt c then (zeroAt c).toNat else c.length
theorem cutLen_le (c:List UInt8):cutLen c≤c.length:=by
 have:=zeroAt_range c
 unfold cutLen
 split <;> omega
theorem cut_any (w:World) (b o cap:Nat) (c:List UInt8) (hr:w.rangeAt b o (cv c)) (hcap:c.length≤cap) (hcap2:cap≤1000) (s:Nat) (hs:w.cell? ⟨s,0,none⟩=some (.int .u8 0)):
   Calls Tryz.prog 170 #[.slice (some ⟨b,o,none⟩) c.length cap,.slice (some ⟨s,0,none⟩) 1 1] w fun e w'=>(∃ r2 r3,e= .returned (.tuple #[.slice (some ⟨b,o,none⟩) (cutLen c) cap,r2,r3]))∧Below w.heap.size w w':=by
 have Hi:=hide (index_any w b o cap c hr s hs)
 have hz:=zeroAt_range c
 have HL:Hid (cutLen c=if 0≤zeroAt c then (zeroAt c).toNat else c.length):=rfl
 clear hr hs
 by_cases h0:0≤zeroAt c
 · rw [if_pos h0] at HL
   obtain ⟨z,hzz⟩:=Int.eq_ofNat_of_zero_le h0
   rw [hzz] at Hi HL hz
   rw [Int.toNat_natCast] at HL
   have hz2:=hz.2
   have hzi:(z:Int)<(c.length:Int):=by omega
   have hzc:(z:Int)+1≤(c.length:Int):=by omega
   have hzcap:(z:Int)≤(cap:Int):=by omega
   have hw:IntKind.i64.wrap ((z:Int)+1)=(z:Int)+1:=IntWalk.i64_in _ (by omega)
   clear hzz h0 hz
   go_enter Tryz.func170,Tryz.ntmps170
   go_wp2_with fail
   refine (uh Hi).mono ?_
   rintro e w1 ⟨rfl,rfl⟩
   go_wp2
   go_quiet (fail)
   go_wp2
   all_goals
     rw [uh HL]
     refine bodyPost_ret (results_tmp3 rfl _ _ _) rfl ?_
     exact ⟨⟨_,_,rfl⟩,⟨rfl,rfl,rfl,Nat.le_refl _,fun _ _=>rfl⟩⟩
 · rw [if_neg h0] at HL
   have hz1:zeroAt c= -1:=by omega
   rw [hz1] at Hi
   go_enter Tryz.func170,Tryz.ntmps170
   go_wp2_with fail
   refine (uh Hi).mono ?_
   rintro e w1 ⟨rfl,rfl⟩
   go_wp2
   rw [uh HL]
   refine bodyPost_ret (results_tmp3 rfl _ _ _) rfl ?_
   exact ⟨⟨_,_,rfl⟩,Below.refl _ _⟩
theorem conv_range {w:World} {b o:Nat} (c:List UInt8) (h:w.rangeAt b o (cv c)) (cap:Nat):
   (convert 73 9 (.slice (some ⟨b,o,none⟩) c.length cap)).run Tryz.prog w= .ok (.string (txt c)) w:=by
 have:=run_convert_bytes_arg (P:=Tryz.prog) w 73 5 Tryz.underlying73 Tryz.underlying5 b o c.length cap (c.map fun x=>(x.toNat:Int)) (by simp) (fun i hi=>by
   rw [h i (.int .u8 (byteAt c i:Nat)) (by rw [cv_get _ _ hi])]
   simp only [List.getD_eq_getElem?_getD,List.getElem?_map,byteAt]
   rw [List.getElem?_eq_getElem hi]
   rfl) 9 Tryz.underlying9
 rw [this]
 congr 2
 unfold txt strOfNums
 congr 1
 have e:((fun n:Int=>UInt8.ofNat n.toNat) ∘ fun x:UInt8=>(x.toNat:Int))=id:=by funext x;simp
 simp [e]
structure EntR where
 name:List UInt8
 first:Nat
def ev (p:EntR):List Value:=[.string (txt p.name),.int .i64 (p.first:Nat)]
def lv (L:List EntR):List Value:=L.flatMap ev
theorem ev_one (p:EntR): ∀ v ∈ ev p,v.oneCell'=true:=by
 intro v hv
 simp only [ev,List.mem_cons,List.not_mem_nil,or_false] at hv
 rcases hv with rfl | rfl <;> rfl
theorem lv_one (L:List EntR): ∀ v ∈ lv L,v.oneCell'=true:=by
 intro v hv
 obtain ⟨x,_,hx⟩:=List.mem_flatMap.1 hv
 exact ev_one x v hx
theorem lv_length (L:List EntR):(lv L).length=L.length*2:=by
 induction L with
 | nil=>rfl
 | cons a r ih=>rw [show lv (a :: r)=ev a++lv r from rfl,List.length_append,ih,List.length_cons];simp [ev];omega
def ze:EntR:=⟨[],0⟩
def zl:List EntR:=[ze,ze,ze,ze]
def loadLst (a:Addr):Sem Value:=loadVar 144 a
theorem loadVar_lst (a:Addr):loadVar 144 a=loadLst a:=rfl
theorem run_loadLst {w:World} {b o:Nat} (h:HasAt w b o 8):(loadLst ⟨b,o,none⟩).run Tryz.prog w= .ok (.agg (cellsAt w b o 8).toArray) w:=
 run_loadVar_has h 144 _ Tryz.underlying144 rfl (by kernel_rfl)
def storeLst (a:Addr) (v:Value):Sem Unit:=storeVar 144 a v
theorem storeVar_lst (a:Addr) (v:Value):storeVar 144 a v=storeLst a v:=rfl
theorem run_storeLst {w:World} {b o:Nat} {L:List EntR} (ht:w.there b o 8) (hL:L.length=4):(storeLst ⟨b,o,none⟩ (.agg (lv L).toArray)).run Tryz.prog w= .ok () (w.setCells b o (lv L)):=by
 have:=run_storeVar_mid (P:=Tryz.prog) w b o 144 (lv L).toArray (by simpa [lv_length,hL] using ht) (by simp only [List.size_toArray,lv_length,hL];kernel_rfl) (all_oneCell_toArray (lv_one L))
 simpa [storeLst] using this
def zeroLst:Sem Value:=zeroValue 144
theorem zeroValue_lst:zeroValue 144=zeroLst:=rfl
theorem run_zeroLst (w:World):zeroLst.run Tryz.prog w= .ok (.agg (lv zl).toArray) w:=
 (zero_of_info (P:=Tryz.prog) (t:=144) (v:= .agg (lv zl).toArray) (n:=8) (by kernel_rfl)).1 w
theorem run_storeLst_new {w:World} {z L:List EntR} (hz:z.length=4) (hL:L.length=4):
   (storeLst ⟨w.heap.size,0,none⟩ (.agg (lv L).toArray)).run Tryz.prog (w.alloc (.cells (lv z).toArray 144))= .ok () (w.alloc (.cells (lv L).toArray 144)):=
 run_storeVar_new w 144 (lv z).toArray (lv L).toArray (by simp only [List.size_toArray,lv_length,hL];kernel_rfl) (by simp [lv_length,hz,hL]) (all_oneCell_toArray (lv_one L))
def storeEnt (a:Addr) (v:Value):Sem Unit:=storeVar 142 a v
theorem storeVar_ent (a:Addr) (v:Value):storeVar 142 a v=storeEnt a v:=rfl
theorem run_storeEnt {w:World} {b o:Nat} {p:EntR} (ht:w.there b o 2):(storeEnt ⟨b,o,none⟩ (.agg (ev p).toArray)).run Tryz.prog w= .ok () (w.setCells b o (ev p)):=by
 have:=run_storeVar_mid (P:=Tryz.prog) w b o 142 (ev p).toArray (by simpa [ev] using ht) (by simp only [ev];kernel_rfl) (all_oneCell_toArray (ev_one p))
 simpa [storeEnt] using this
def bEnt (parts:Array (Nat × Value)):Sem Value:=Instr.build 142 parts
theorem build_ent (parts:Array (Nat × Value)):Instr.build 142 parts=bEnt parts:=rfl
theorem run_bEnt (nm:List UInt8) (n:Nat) (w:World):(bEnt #[(0,.string (txt nm)),(1,.int .i64 n)]).run Tryz.prog w= .ok (.agg (ev ⟨nm,n⟩).toArray) w:=by
 have hz:=(zero_of_info (P:=Tryz.prog) (t:=142) (v:= .agg (ev ze).toArray) (n:=2) (by kernel_rfl)).1
 exact run_build_struct w 142 _ (.agg (ev ze).toArray) #[(0,1),(1,1)] #[(0,.string (txt nm)),(1,.int .i64 n)] _ Tryz.underlying142 hz (fun w=>by kernel_rfl) (by rfl)
end Go.Proofs.YtknjjjenklfeoaaGreatDoor
namespace Go.Proofs.YtknjjjenklfeoaaGreatDoor
open Go.RowKit Go.Shelf
attribute [local go_sem ↓] loadVar_clus storeVar_clus zeroValue_clus loadVar_tab storeVar_tab zeroValue_tab loadVar_cnt storeVar_cnt zeroValue_cnt loadVar_head storeVar_head zeroValue_head build_head buildSlice_clus loadVar_wr storeVar_wr zeroValue_wr build_wr buildSlice_wr equalIn_clus loadVar_place storeVar_place zeroValue_place build_place
attribute [local go_sem] run_loadClus run_storeClus run_zeroClus run_storeClus_new run_loadClus_new zc_length run_loadTab run_storeTab run_zeroTab run_storeTab_new run_loadTab_new zt_length run_loadCnt run_storeCnt run_zeroCnt run_storeCnt_new run_loadCnt_new zk_length run_loadHead run_storeHead run_zeroHead run_storeHead_new run_bHead HasAt_drew cellsAt_drew HasAt_drewN cellsAt_drewN run_bsClus run_loadWr run_zeroWr run_storeWr run_storeWr_new run_bWr0 run_bsWr run_loadPlace run_storePlace run_zeroPlace run_storePlace_new run_bPlace
attribute [local go_sem] field_head1 field_head0 Oper.semAt_some
def OKN (Pc:Nat→Prop) (n:Nat):Prop:=n<65536∧(n≠0→Pc (n%32768))
structure SpotR (Pc:Nat→Prop) where
 table:Nat
 index:Nat
 number:Nat
 hi:index<32
 hn:number<65536
 h0:number≠0
 hc:Pc (number%32768)
def spotVal {Pc:Nat→Prop} (s:SpotR Pc):Value:= .agg #[.int .i64 ((s.table:Nat):Int),.int .i64 ((s.index:Nat):Int),.int .u16 ((s.number:Nat):Int)]
def spotsTo {Pc:Nat→Prop} (t:Nat) (T:List Nat) (hT: ∀ i,OKN Pc (T.getD i 0)):(k:Nat)→k≤32→List (SpotR Pc)
 | 0,_=>[]
 | k+1,hk=>spotsTo t T hT k (by omega)++if h:T.getD k 0≠0 then [⟨t,k,T.getD k 0,by omega,(hT k).1,h,(hT k).2 h⟩] else []
theorem spotsTo_zero {Pc:Nat→Prop} (t:Nat) (T:List Nat) (hT: ∀ i,OKN Pc (T.getD i 0)) (k:Nat) (hk:k+1≤32) (h:T.getD k 0=0):spotsTo t T hT (k+1) hk=spotsTo t T hT k (by omega):=by
 rw [spotsTo,dif_neg (by simpa using h),List.append_nil]
theorem spotsTo_some {Pc:Nat→Prop} (t:Nat) (T:List Nat) (hT: ∀ i,OKN Pc (T.getD i 0)) (k:Nat) (hk:k+1≤32) (h:T.getD k 0≠0):spotsTo t T hT (k+1) hk=spotsTo t T hT k (by omega)++[⟨t,k,T.getD k 0,by omega,(hT k).1,h,(hT k).2 h⟩]:=by
 rw [spotsTo,dif_pos h]
theorem spotsTo_length {Pc:Nat→Prop} (t:Nat) (T:List Nat) (hT: ∀ i,OKN Pc (T.getD i 0)): ∀ k hk,(spotsTo t T hT k hk).length≤k
 | 0,_=>by simp [spotsTo]
 | k+1,hk=>by
   have:=spotsTo_length t T hT k (by omega)
   rw [spotsTo]
   split <;> simp <;> omega
theorem spotsTo_prefix {Pc:Nat→Prop} (t:Nat) (T:List Nat) (hT: ∀ i,OKN Pc (T.getD i 0)) (k:Nat) (hk:k≤32):spotsTo t T hT k hk <+: spotsTo t T hT 32 (Nat.le_refl _):=by
 have: ∀ j (hj:k+j≤32),spotsTo t T hT k hk <+: spotsTo t T hT (k+j) hj:=by
   intro j
   induction j with
   | zero=>intro _;exact List.prefix_refl _
   | succ j ih=>intro hj;exact (ih (by omega)).trans (by show _ <+: spotsTo t T hT ((k+j)+1) hj;rw [spotsTo];exact List.prefix_append _ _)
 have h:=this (32 - k) (by omega)
 have e:k+(32 - k)=32:=by omega
 simpa [e] using h
theorem numbers1_in {Pc:Nat→Prop} (n:Nat) (hn:3≤n) (l bv bt v table:Nat) (V:VolR) (J Jx:List (SpotR Pc)→World→Prop) (P:World→Prop)
   (hT: ∀ i,OKN Pc ((numsOf (cl V.C table)).getD i 0))
   (hY: ∀ pre x W,J pre W→pre.length<32→YieldAt Fence.wide (n - 1) Tryz.prog l #[spotVal x] W fun e W'=>
     (e= .returned (.bool true)∧J (pre++[x]) W'∧(P W→P W'))∨(e= .returned (.bool false)∧Jx (pre++[x]) W'))
   (hPc: ∀ W,P W→W.cell? ⟨bt,0,none⟩=some (.int .i64 (table:Nat))) (hPb: ∀ W W',P W→Below W.heap.size W W'→P W')
   (W:World) (hJ:AbidesFrom W.heap.size J) (hP:P W) (hbv:W.cell? ⟨bv,0,none⟩=some (.pointer (some ⟨v,0,none⟩))) (Cv Lv:Value) (hV:VolAt W v Cv Lv V) (ht:table<V.C.length) (h0:J [] W):
   CallsIn Fence.wide n Tryz.prog 182 #[.func (.yield l) #[] #[],.pointer (some ⟨bv,0,none⟩),.pointer (some ⟨bt,0,none⟩)] W fun e W'=>(∃ v,e= .returned v)∧
     ((∃ ys,ys=spotsTo table (numsOf (cl V.C table)) hT 32 (Nat.le_refl _)∧J ys W')∨(∃ pre,pre <+: spotsTo table (numsOf (cl V.C table)) hT 32 (Nat.le_refl _)∧Jx pre W')):=by
 have c1:=hPc W hP
 have Ht:=hide (table_vol W v Cv Lv V hV table ht)
 have hTl:=numsOf_length (cl V.C table)
 generalize numsOf (cl V.C table)=T at*
 refine callsIn_of_wp Tryz.func182 rfl trivial ?_ rfl
 simp only [Tryz.ntmps182,List.size_toArray,List.length_cons,List.length_nil,Nat.reduceAdd,Nat.reduceSub,Array.replicate_succ,Array.replicate_zero,List.push_toArray,List.append_toArray,List.nil_append,List.cons_append]
 gi_wp2_with fail
 refine ⟨trivial,fun _=>by omega,(callsIn_wide.2 (uh Ht)).mono ?_⟩
 rintro e W1 ⟨rfl,hb1⟩
 have HP1:=hide (hPb W W1 hP hb1)
 have HJ1:=hide (hJ [] W W1 none h0 ⟨hb1.os,hb1.tape,hb1.output,hb1.size,fun k hk _=>hb1.block k hk⟩ (fun r e=>by cases e))
 clear hP h0 c1 Ht hb1 hbv hV hJ
 gi_wp2
 gi_loopw [4,5,9] (fun _ _ i wr=> ∃ (k:Nat) (hk:k≤32),i= .int .i64 k∧P wr∧J (spotsTo table T hT k hk) wr) (fun _ _ i _=>32 - (intOf i).toNat)
 case atStart=>exact ⟨0,by omega,rfl,uh HP1,uh HJ1⟩
 case round=>
   obtain ⟨k,hk,rfl,hPk,hJk⟩:=hrel
   clear HP1 HJ1
   have c1:=hPc wr hPk
   by_cases hlt:k<32
   · have hki:(k:Int)<32:=by omega
     have hix:=run_index_tab wr T hTl k hlt
     have hlen:=spotsTo_length table T hT k hk
     by_cases h0:T.getD k 0=0
     · have Hs:=hide (spotsTo_zero table T hT k hlt h0)
       rw [h0] at hix
       gi_wp2
       refine ⟨fun _ h=>(by cases h),?_⟩
       gi_wp2
       go_roundw
       case rel=>exact ⟨k+1,by omega,by go_num,hPk,by rw [uh Hs];exact hJk⟩
       case measure=>simp [intOf];omega
     · obtain ⟨x,hs1,hs2,hs3,hs4⟩: ∃ x:SpotR Pc,x.table=table∧x.index=k∧x.number=T.getD k 0∧spotsTo table T hT (k+1) hlt=spotsTo table T hT k hk++[x]:=⟨⟨table,k,T.getD k 0,hlt,(hT k).1,h0,(hT k).2 h0⟩,rfl,rfl,rfl,spotsTo_some table T hT k hlt h0⟩
       have Hs:=hide hs4
       obtain ⟨fn,tmps,assign,body,hy,hR⟩:=hY _ x wr hJk (by omega)
       rw [spotVal,hs1,hs2,hs3] at hy
       have hnl:=(hT k).1
       have d0:((((T.getD k 0:Nat)):Int) != 0)=true:=by rw [bne_iff_ne];omega
       clear hs4 hs1 hs2 hs3
       generalize T.getD k 0=nn at*
       gi_wp2
       refine ⟨fun _=>by omega,hR.mono ?_⟩
       rintro e W3 (⟨rfl,hJ3,hP3⟩ | ⟨rfl,hJx3⟩)
       · have HP3:=hide (hP3 hPk)
         clear hP3 c1 hPk
         gi_wp2
         go_roundw
         case rel=>exact ⟨k+1,by omega,by go_num,uh HP3,by rw [uh Hs];exact hJ3⟩
         case measure=>simp [intOf];omega
       · gi_wp2
         refine bodyPost_ret (results_none rfl _ _ _) rfl ?_
         exact ⟨⟨_,rfl⟩,.inr ⟨_,by rw [← uh Hs];exact spotsTo_prefix table T hT _ hlt,hJx3⟩⟩
   · have hk32:k=32:=by omega
     subst hk32
     gi_wp2
     go_end0
     exact ⟨⟨_,rfl⟩,.inl ⟨_,rfl,hJk⟩⟩
theorem cv_inj {a b:List UInt8} (h:cv a=cv b):a=b:=by
 unfold cv at h
 refine List.map_inj_right (fun x y hxy=> ?_) |>.1 h
 injection hxy with _ h2
 exact UInt8.toNat_inj.1 (by omega)
theorem flatC_inj: ∀ {A B:List Clus},(∀ c ∈ A,c.length=64)→(∀ c ∈ B,c.length=64)→flatC A=flatC B→A=B
 | [],[],_,_,_=>rfl
 | [],b :: r,_,hB,h=>by
   have h1:=hB b (by simp)
   have:=congrArg List.length h
   simp [flatC,cv_length,h1] at this
   omega
 | a :: r,[],hA,_,h=>by
   have h1:=hA a (by simp)
   have:=congrArg List.length h
   simp [flatC,cv_length,h1] at this
 | a :: r,b :: q,hA,hB,h=>by
   have h1:=hA a (by simp)
   have h2:=hB b (by simp)
   simp only [flatC,List.flatMap_cons] at h
   have h3:=List.append_inj h (by rw [cv_length,cv_length,h1,h2])
   rw [cv_inj h3.1,flatC_inj (fun c hc=>hA c (by simp [hc])) (fun c hc=>hB c (by simp [hc])) h3.2]
theorem flatW_inj: ∀ {A B:List WrR},(∀ c ∈ A,c.data.length=64)→(∀ c ∈ B,c.data.length=64)→flatW A=flatW B→A=B
 | [],[],_,_,_=>rfl
 | [],b :: r,_,_,h=>by
   have:=congrArg List.length h
   simp [flatW,wrCells] at this
 | a :: r,[],_,_,h=>by
   have:=congrArg List.length h
   simp [flatW,wrCells] at this
 | a :: r,b :: q,hA,hB,h=>by
   have h1:=hA a (by simp)
   have h2:=hB b (by simp)
   simp only [flatW,List.flatMap_cons] at h
   have h3:=List.append_inj h (by rw [wrCells_length h1,wrCells_length h2])
   have h4:=h3.1
   simp only [wrCells,List.cons.injEq] at h4
   have h5:a=b:=by
     obtain ⟨ac,ad⟩:=a
     obtain ⟨bc,bd⟩:=b
     have e1:=h4.1
     injection e1 with _ e1
     have e2:=cv_inj h4.2
     dsimp only at e1 e2
     rw [e1,e2]
   rw [h5,flatW_inj (fun c hc=>hA c (by simp [hc])) (fun c hc=>hB c (by simp [hc])) h3.2]
theorem row_unique {w:World} {b1 b2:Nat} {e:TypeId} {size:Nat} {v:Value} {n1 n2:Nat} {xs ys:List Value} (h1:w.ownsRow b1 e size v n1 xs) (h2:w.ownsRow b2 e size v n2 ys):n1=n2∧xs=ys:=by
 obtain ⟨a1,c1,e1⟩:=row_form h1
 obtain ⟨a2,c2,e2⟩:=row_form h2
 rw [e1] at e2
 injection e2 with e3 e4 e5
 subst e4
 refine ⟨rfl,?_⟩
 rcases h1.2 with ⟨f1,f2⟩ | ⟨g,cap,cur,rfl,_,hh,_,_,_,ht⟩
 · have:=h1.1;have h22:=h2.1
   rw [f2,Nat.zero_mul] at this h22
   rw [List.length_eq_zero_iff.1 this,List.length_eq_zero_iff.1 h22]
 · rcases h2.2 with ⟨f1,f2⟩ | ⟨g',cap',cur',e',_,hh',_,_,_,ht'⟩
   · cases f1
   · injection e' with x1 _ _
     injection x1 with x1
     injection x1 with x1 _ _
     subst x1
     rw [hh] at hh'
     simp only [Option.some.injEq,Obj.cells.injEq] at hh'
     rw [← ht,← ht',hh'.1]
theorem VolAt.unique {w:World} {v:Nat} {C1 L1 C2 L2:Value} {V1 V2:VolR} (h:VolAt w v C1 L1 V1) (k:VolAt w v C2 L2 V2):C1=C2∧L1=L2∧V1=V2:=by
 have hb:=h.blk
 rw [k.blk] at hb
 simp only [volCells,Option.some.injEq,Obj.cells.injEq,Array.mk.injEq,List.cons.injEq,Value.bool.injEq,and_true] at hb
 obtain ⟨e1,e2,e3⟩:=hb
 subst e1
 subst e2
 have a1:=flatC_inj h.lenC k.lenC (row_unique h.rowC k.rowC).2
 have a2:=flatW_inj h.lenL k.lenL (row_unique h.rowL k.rowL).2
 obtain ⟨c,l,o,s⟩:=V1
 obtain ⟨c',l',o',s'⟩:=V2
 dsimp only at a1 a2 e3
 obtain ⟨e3,e4⟩:=e3
 subst a1
 subst a2
 subst e3
 subst e4
 exact ⟨rfl,rfl,rfl⟩
def KeepV (X Y:Nat→Prop) (v:Nat) (R:VolR→VolR→Prop) (A B:World):Prop:=
 A.heap.size≤B.heap.size∧(∀ k o,A.heap[k]? = some o→o.isCells=false→Y k→B.heap[k]? = some o)∧ ∀ C1 L1 V1,VolAt A v C1 L1 V1→ ∃ C2 L2 V2,VolAt B v C2 L2 V2∧R V1 V2∧
   (∀ k o,A.heap[k]? = some o→o.isCells=true→ ¬ X k→ ¬ foot v C1 L1 k→B.heap[k]? = some o)∧(∀ k,k<A.heap.size→foot v C2 L2 k→foot v C1 L1 k)
theorem VolAt.cells {w:World} {v:Nat} {C1 L1:Value} {V1:VolR} (hV:VolAt w v C1 L1 V1) {k:Nat} (hf:foot v C1 L1 k): ∃ o,w.heap[k]? = some o∧o.isCells=true:=by
 rcases hf with rfl | e | e
 · exact ⟨_,hV.blk,rfl⟩
 · rcases hV.rowC.2 with ⟨rfl,_⟩ | ⟨g',cap,cur,rfl,_,hh,_⟩
   · cases e
   · simp only [Value.ownBlock,Option.some.injEq] at e;subst e;exact ⟨_,hh,rfl⟩
 · rcases hV.rowL.2 with ⟨rfl,_⟩ | ⟨g',cap,cur,rfl,_,hh,_⟩
   · cases e
   · simp only [Value.ownBlock,Option.some.injEq] at e;subst e;exact ⟨_,hh,rfl⟩
theorem VolAt.notCells {w:World} {v:Nat} {C1 L1:Value} {V1:VolR} (hV:VolAt w v C1 L1 V1) {k:Nat} {o:Obj} (ho:w.heap[k]? = some o) (hc:o.isCells=false): ¬ foot v C1 L1 k:=by
 intro hf
 obtain ⟨q,hq,hqc⟩:=hV.cells hf
 rw [ho] at hq
 injection hq with hq
 subst hq
 rw [hc] at hqc
 cases hqc
section
variable {X Y:Nat→Prop} {v:Nat} {R:VolR→VolR→Prop}
theorem KeepV.trans (hR: ∀ a b c,R a b→R b c→R a c) {A B C:World} (h:KeepV X Y v R A B) (k:KeepV X Y v R B C):KeepV X Y v R A C:=by
 refine ⟨Nat.le_trans h.1 k.1,fun i o hi hc hy=>k.2.1 i o (h.2.1 i o hi hc hy) hc hy,fun C1 L1 V1 hV=> ?_⟩
 obtain ⟨C2,L2,V2,hV2,r2,o2,f2⟩:=h.2.2 C1 L1 V1 hV
 obtain ⟨C3,L3,V3,hV3,r3,o3,f3⟩:=k.2.2 C2 L2 V2 hV2
 exact ⟨C3,L3,V3,hV3,hR _ _ _ r2 r3,fun i o hi hc hx hf=>o3 i o (o2 i o hi hc hx hf) hc hx (fun hf2=>hf (f2 i (blk_lt hi) hf2)),fun i hi hf=>f2 i hi (f3 i (Nat.lt_of_lt_of_le hi h.1) hf)⟩
theorem KeepV.turn (hR: ∀ a,R a a) (W:World) (l:Nat) (o o':Obj) (hl:W.heap[l]? = some o) (ho:o.isCells=false) (hy: ¬ Y l):KeepV X Y v R W (W.putObj l o'):=by
 have hg:=grownBy_putObj' W l o'
 have hk:Kept (fun k=>k=l) W (W.putObj l o'):=⟨hg.os,hg.tape,hg.output,hg.size,fun k hk hs=>hg.block k hk (fun e=>hs (by injection e))⟩
 refine ⟨hk.size,fun k q hq _ hyk=>hk.blk (by rintro rfl;exact hy hyk) hq,fun C1 L1 V1 hV=> ?_⟩
 have hn: ∀ k q,W.heap[k]? = some q→q.isCells=true→ ¬ (k=l):=by
   rintro k q hq hc rfl
   rw [hl] at hq
   injection hq with hq
   subst hq
   rw [ho] at hc
   cases hc
 have hf: ∀ k,foot v C1 L1 k→ ¬ (k=l):=by
   intro k hf
   obtain ⟨q,hq,hqc⟩:=hV.cells hf
   exact hn k q hq hqc
 exact ⟨C1,L1,V1,hV.kept hk hf,hR _,fun k q hq hc _ _=>hk.blk (hn k q hq hc) hq,fun _ _ hf=>hf⟩
theorem KeepV.of {A B:World} {C1 L1 C2 L2:Value} {V1 V2:VolR} (h:VolAt A v C1 L1 V1) (hB:VolAt B v C2 L2 V2) (hs:A.heap.size≤B.heap.size) (r:R V1 V2)
   (y: ∀ k o,A.heap[k]? = some o→o.isCells=false→Y k→B.heap[k]? = some o)
   (o: ∀ k o,A.heap[k]? = some o→o.isCells=true→ ¬ X k→ ¬ foot v C1 L1 k→B.heap[k]? = some o) (f: ∀ k,k<A.heap.size→foot v C2 L2 k→foot v C1 L1 k):KeepV X Y v R A B:=by
 refine ⟨hs,y,fun C1' L1' V1' hV=> ?_⟩
 obtain ⟨rfl,rfl,rfl⟩:=h.unique hV
 exact ⟨C2,L2,V2,hB,r,o,f⟩
theorem KeepV.step {A B:World} {C1 L1 C2 L2:Value} {V1 V2:VolR} (h:VolAt A v C1 L1 V1) (hs:VStep A B v C1 L1 C2 L2 V2) (r:R V1 V2):KeepV X Y v R A B:=
 KeepV.of h hs.at' hs.kept.size r (fun _ _ ho hc _=>hs.kept.blk (h.notCells ho hc) ho) (fun _ _ ho _ _ hf=>hs.kept.blk hf ho) (fun k hk hf=>(hs.new k hf).elim id (by omega))
theorem KeepV.own {A B:World} {C1 L1:Value} {V1:VolR} (h:VolAt A v C1 L1 V1) {S:Nat→Prop} (hk:Kept S A B) (hS: ∀ k,S k→X k∧ ¬ foot v C1 L1 k∧ ∃ o,A.heap[k]? = some o∧o.isCells=true) (r:R V1 V1):KeepV X Y v R A B:=
 KeepV.of h (h.kept hk (fun k hf hs=>(hS k hs).2.1 hf)) hk.size r (fun k o ho hc _=>hk.blk (fun hs=>by
   obtain ⟨q,hq,hqc⟩:=(hS k hs).2.2
   rw [ho] at hq
   injection hq with hq
   subst hq
   rw [hc] at hqc
   cases hqc) ho) (fun k _ ho _ hx _=>hk.blk (fun hs=>hx (hS k hs).1) ho) (fun _ _ hf=>hf)
theorem KeepV.below (hR: ∀ a,R a a) {A B:World} (h:Below A.heap.size A B):KeepV X Y v R A B:=
 ⟨h.size,fun k _ ho _ _=>(h.block k (blk_lt ho)).trans ho,fun C1 L1 V1 hV=>⟨C1,L1,V1,hV.below h,hR _,fun k _ ho _ _ _=>(h.block k (blk_lt ho)).trans ho,fun _ _ hf=>hf⟩⟩
theorem KeepV.weak {Y':Nat→Prop} {A B:World} (h:KeepV X Y v R A B) (hy: ∀ k,Y' k→Y k):KeepV X Y' v R A B:=⟨h.1,fun k o ho hc hy'=>h.2.1 k o ho hc (hy k hy'),h.2.2⟩
structure Beside (X:Nat→Prop) (v b:Nat) (o:Obj) (P:VolR→Prop) (W:World):Prop where
 vol: ∃ C1 L1 V1,VolAt W v C1 L1 V1∧P V1∧ ¬ foot v C1 L1 b
 box:W.heap[b]? = some o
 cells:o.isCells=true
 free: ¬ X b
theorem Beside.keep {b:Nat} {o:Obj} {P:VolR→Prop} (hP: ∀ a b,P a→R a b→P b) {A B:World} (h:Beside X v b o P A) (k:KeepV X Y v R A B):Beside X v b o P B:=by
 obtain ⟨C1,L1,V1,hV,hp,hf⟩:=h.vol
 obtain ⟨C2,L2,V2,hV2,r,o2,f2⟩:=k.2.2 C1 L1 V1 hV
 exact ⟨⟨C2,L2,V2,hV2,hP _ _ hp r,fun hf2=>hf (f2 b (blk_lt h.box) hf2)⟩,o2 b o h.box h.cells h.free hf,h.cells,h.free⟩
theorem Beside.below {b:Nat} {o:Obj} {P:VolR→Prop} {A B:World} (h:Beside X v b o P A) (k:Below A.heap.size A B):Beside X v b o P B:=by
 obtain ⟨C1,L1,V1,hV,hp,hf⟩:=h.vol
 exact ⟨⟨C1,L1,V1,hV.below k,hp,hf⟩,(k.block b (blk_lt h.box)).trans h.box,h.cells,h.free⟩
end
end Go.Proofs.YtknjjjenklfeoaaGreatDoor
