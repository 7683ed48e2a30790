import Derived.Test.YtknjjjenklfeoaaGreatDoorC38
import Derived.Test.YtknjjjenklfeoaaGreatDoorC12
import Derived.Test.YtknjjjenklfeoaaGreatDoorC14
set_option maxHeartbeats 8000000
set_option maxRecDepth 100000
namespace Go.Proofs.YtknjjjenklfeoaaGreatDoor
open Go.RowKit
def nameTo (xs:List Value) (m:ByteArray) (k:Nat):List Value:=reps k m++xs.drop k
theorem nameTo_succ (xs:List Value) (m:ByteArray) (k:Nat) (h:k<xs.length):(nameTo xs m k).set k (.string m)=nameTo xs m (k+1):=by
 unfold nameTo reps
 rw [List.set_append_right _ _ (by simp),List.length_replicate,Nat.sub_self,List.drop_eq_getElem_cons h,List.set_cons_zero,List.replicate_succ',List.append_assoc]
 rfl
theorem row_put1 {w:World} {base g cap n:Nat} {e:TypeId} {xs:List Value} (h:w.ownsRow base e 1 (.slice (some ⟨g,0,none⟩) n cap) n xs) (k:Nat) (hk:k<n) (v:Value):
   (w.cell? ⟨g,k,none⟩).isSome=true∧w.frozen? ⟨g,k,none⟩=false∧(w.setCell ⟨g,k,none⟩ v).ownsRow base e 1 (.slice (some ⟨g,0,none⟩) n cap) n (xs.set k v):=by
 obtain ⟨h1,h2⟩:=h
 rcases h2 with ⟨e0,_⟩ | ⟨g',cap',cur,e0,hb,hh,hn,hm,hs,ht⟩
 · cases e0
 · injection e0 with e1 _ e3
   injection e1 with e1
   injection e1 with e1 _ _
   subst e1
   subst e3
   refine ⟨?_,frozen_blk hh k,by rw [List.length_set];exact h1,Or.inr ⟨g,cap,cur.setIfInBounds k v,rfl,hb,heap_setCell_same _ _ _ _ _ _ _ hh,hn,hm,by rw [Array.size_setIfInBounds];exact hs,?_⟩⟩
   · rw [cell_blk hh,Array.getElem?_eq_getElem (by omega)];rfl
   · rw [Array.toList_setIfInBounds,Nat.mul_one,← ht,Nat.mul_one,List.take_set]
theorem ext_still {w w6:World} {g3 cap3 g6 cap6 N a j H H0:Nat} {lv:Value} {m:ByteArray} (hr:w.ownsRow 0 9 1 (.slice (some ⟨g3,0,none⟩) (N+a) cap3) (N+a) (reps (N+a) m))
   (hg3:lv= .slice (some ⟨g3,0,none⟩) N cap3∨H0≤g3) (hlt0: ∀ g,lv.ownBlock=some g→g<H0) (hcase:(lv= .slice (some ⟨g6,0,none⟩) N cap6∧w.grownBy w6 (some g6))∨(g6=H∧w.grownBy w6 none))
   (h26:w6.ownsRow 0 9 1 (.slice (some ⟨g6,0,none⟩) (N+j) cap6) (N+j) (reps (N+j) m)) (haj:a≤j):w6.ownsRow 0 9 1 (.slice (some ⟨g3,0,none⟩) (N+a) cap3) (N+a) (reps (N+a) m):=by
 rcases hcase with ⟨e6,hg6⟩ | ⟨_,hg6⟩
 · rcases hg3 with e3 | e3
   · rw [e6] at e3
     injection e3 with x1 _ x3
     injection x1 with x1
     injection x1 with x1 _ _
     subst x1
     subst x3
     have h27:w6.ownsRow 0 9 1 (.slice (some ⟨g6,0,none⟩) (N+a+(j - a)) cap6) (N+a+(j - a)) (reps (N+a) m++reps (j - a) m):=by
       rw [show N+a+(j - a)=N+j by omega,show reps (N+a) m++reps (j - a) m=reps (N+j) m by rw [List.replicate_append_replicate];congr 1;omega]
       exact h26
     exact row_prefix h27 (by simp)
   · refine grown_row hg6 hr (fun g hg x=> ?_)
     simp only [Value.ownBlock,Option.some.injEq] at hg x
     have:=hlt0 g6 (by rw [e6];rfl)
     omega
 · exact grown_row hg6 hr (fun g hg x=>by cases x)
theorem case_new {w w6:World} {g6 cap6 N H:Nat} {lv:Value} {j:Nat} (hcase:(lv= .slice (some ⟨g6,0,none⟩) N cap6∧w.grownBy w6 (some g6))∨(g6=H∧w.grownBy w6 none)) {H0:Nat} (hH:H0≤H):
   (lv= .slice (some ⟨g6,0,none⟩) N cap6∨H0≤g6)∧ ∀ g,(Value.slice (some ⟨g6,0,none⟩) (N+j) cap6).ownBlock=some g→lv.ownBlock=some g∨H0≤g:=by
 rcases hcase with ⟨e6,_⟩ | ⟨e6,_⟩
 · exact ⟨Or.inl e6,fun g hg=>by simp only [Value.ownBlock,Option.some.injEq] at hg;subst hg;exact Or.inl (by rw [e6];rfl)⟩
 · exact ⟨Or.inr (by omega),fun g hg=>by simp only [Value.ownBlock,Option.some.injEq] at hg;exact Or.inr (by omega)⟩
theorem names_more {w:World} {g cap N j:Nat} {m:ByteArray} (h:w.ownsRow 0 9 1 (.slice (some ⟨g,0,none⟩) (N+j) cap) (N+j) (reps N m++reps j m)):w.ownsRow 0 9 1 (.slice (some ⟨g,0,none⟩) (N+j) cap) (N+j) (reps (N+j) m):=by
 rw [show reps (N+j) m=reps N m++reps j m from List.replicate_append_replicate.symm]
 exact h
theorem ownsNames_any (w:World) (b:Nat) (V:BookV) (B:BookR) (S:Nat→Prop) (lv:Value) (xs:List Value) (h:BookAt w b V B S) (hl:w.ownsRow 0 9 1 lv xs.length xs)
   (hne: ∀ g,lv.ownBlock=some g→ ¬ S g) (hnx:B.next≤1000000000) (hfl:B.names.length≤10000000000) (hL:xs.length≤1000):
   Calls Tryz.prog 129 #[.pointer (some ⟨b,0,none⟩),lv] w fun e w'=>e= .returned (.tuple #[])∧
     ∃ V' B' S',BookAt w' b V' B' S'∧B'.next=B.next+1∧B'.names.length=B.names.length+4∧B'.writes=B.writes∧B'.files=B.files∧(∀ x ∈ B'.names,x ∈ B.names∨x.n≤xs.length+3)∧
       Kept (fun k=>S k∨lv.ownBlock=some k) w w'∧(∀ k,S' k→S k∨lv.ownBlock=some k∨w.heap.size≤k):=by
 have c6:=h.cell 6
 rw [show (bookCells V B.next)[6]? = some (.int .i64 (B.next:Int)) from rfl] at c6
 have z6:=frozen_blk h.blk 6
 have h1:=h.setNext (B.next+1)
 have hni:(B.next:Int)≤1000000000:=by omega
 rw [show ((B.next+1:Nat):Int)=(B.next:Int)+1 by omega] at h1
 have d6:(w.setCell ⟨b,6,none⟩ (.int .i64 ((B.next:Int)+1))).drew.cell? ⟨b,6,none⟩=some (.int .i64 ((B.next:Int)+1)):=by
   show (w.setCell ⟨b,6,none⟩ (.int .i64 ((B.next:Int)+1))).cell? ⟨b,6,none⟩=_
   rw [h1.cell 6];show some (Value.int .i64 ((B.next+1:Nat):Int))=_;rw [show ((B.next+1:Nat):Int)=(B.next:Int)+1 by omega]
 go_enter Tryz.func129,Tryz.ntmps129
 go_wp2
 generalize hW:w.setCell ⟨b,6,none⟩ (.int .i64 ((B.next:Int)+1))=W at*
 have hcv:(convert 73 9 (.slice (some ⟨W.heap.size,0,none⟩) 2 2)).run Tryz.prog (W.alloc (.cells #[.int .u8 (((B.next:Int)+1)%256),.int .u8 (((B.next:Int)+1) / 256%256)] 5)).drew= .ok (.string (txt [UInt8.ofNat ((B.next+1)%256),UInt8.ofNat ((B.next+1) / 256%256)])) (W.alloc (.cells #[.int .u8 (((B.next:Int)+1)%256),.int .u8 (((B.next:Int)+1) / 256%256)] 5)).drew:=by
   refine conv_range (w:=(W.alloc (.cells #[.int .u8 (((B.next:Int)+1)%256),.int .u8 (((B.next:Int)+1) / 256%256)] 5)).drew) [UInt8.ofNat ((B.next+1)%256),UInt8.ofNat ((B.next+1) / 256%256)] (fun j v hv=> ?_) 2
   have hb:(W.alloc (.cells #[.int .u8 (((B.next:Int)+1)%256),.int .u8 (((B.next:Int)+1) / 256%256)] 5)).drew.heap[W.heap.size]? = some (.cells #[.int .u8 (((B.next:Int)+1)%256),.int .u8 (((B.next:Int)+1) / 256%256)] 5 (0,0)):=heap_alloc_new W _
   rw [Nat.zero_add,cell_blk hb]
   match j with
   | 0=>
     simp only [cv,List.map_cons,List.getElem?_cons_zero,Option.some.injEq] at hv
     rw [← hv,toNat_ofNat _ (by omega)]
     simp
   | 1=>
     simp only [cv,List.map_cons,List.getElem?_cons_zero,List.getElem?_cons_succ,Option.some.injEq] at hv
     rw [← hv,toNat_ofNat _ (by omega)]
     simp
   | k+2=>simp [cv] at hv
 have hq2:(txt [UInt8.ofNat ((B.next+1)%256),UInt8.ofNat ((B.next+1) / 256%256)]).size=2:=rfl
 have hq1:(⟨#[35]⟩:ByteArray).size=1:=rfl
 generalize txt [UInt8.ofNat ((B.next+1)%256),UInt8.ofNat ((B.next+1) / 256%256)]=t1 at*
 go_region
 go_wp2
 have hW1:Below W.heap.size W (W.alloc (.cells #[.int .u8 (((B.next:Int)+1)%256),.int .u8 (((B.next:Int)+1) / 256%256)] 5)).drew:=((Below.refl _ W).alloc (Nat.le_refl _) _).drew
 generalize (W.alloc (.cells #[.int .u8 (((B.next:Int)+1)%256),.int .u8 (((B.next:Int)+1) / 256%256)] 5)).drew=W1 at*
 generalize ((⟨#[35]⟩:ByteArray)++t1)=m at*
 generalize ((B.next:Int)+1)%256=z0 at*
 generalize ((B.next:Int)+1) / 256%256=z1 at*
 generalize ((B.next:Int)+1) / 256=z2 at*
 have hK0:Kept (fun k=>S k∨lv.ownBlock=some k) w W:=by rw [← hW];exact (Kept.only w b 6 (.int .i64 ((B.next:Int)+1))).mono (fun k hk=>Or.inl (by rw [hk];exact h.inB))
 have HK0:=hide (hK0.trans (Kept.of_below hW1))
 have hl0:W.ownsRow 0 9 1 lv xs.length xs:=by rw [← hW];exact ownsRow_kept (Kept.only w b 6 (.int .i64 ((B.next:Int)+1))) hl (row_ne hl h.blk (by decide))
 have Hl0:=hide (ownsRow_kept (Kept.of_below (S:=fun _=>False) hW1) hl0 (fun _ _=>id))
 have HB0:=hide (h1.below hW1)
 have hlt0: ∀ g,lv.ownBlock=some g→g<w.heap.size:=fun g hg=>(hl.lt g hg).2
 have Hlt0:=hide hlt0
 have Hne:=hide hne
 have HS:=hide h.lt
 obtain ⟨la,lcap,hlv⟩:=row_form hl
 have Hlv:=hide hlv
 subst hlv
 clear c6 z6 d6 h1 h hl hlt0 hne hcv hW1 hK0 hl0 hW
 generalize hN:xs.length=N at*
 go_loopw [5] (fun i w'=> ∃ k:Nat,k≤N∧i= .int .i64 k∧w'.ownsRow 0 9 1 (.slice la N lcap) N (nameTo xs m k)∧BookAt w' b V { B with next:=B.next+1 } S∧Kept (fun k=>S k∨(Value.slice la N lcap).ownBlock=some k) w w') (fun i _=>N - (intOf i).toNat)
 case atStart=>exact ⟨0,by omega,rfl,uh Hl0,uh HB0,uh HK0⟩
 case round=>
   obtain ⟨k,hk,rfl,hrow,hbk,hkp⟩:=hrel
   clear Hl0 HB0 HK0
   by_cases hlt:k<N
   · obtain ⟨g,cap2,e2,_⟩:=row_some hrow (by omega)
     obtain ⟨rfl,rfl⟩:la=some ⟨g,0,none⟩∧lcap=cap2:=by injection e2 with x1 x2 x3;exact ⟨x1,x3⟩
     have hki:(k:Int)<(N:Int):=by omega
     obtain ⟨t1,t2,t3⟩:=row_put1 hrow k hlt (.string m)
     rw [nameTo_succ xs m k (by omega)] at t3
     obtain ⟨ov,hov⟩:=Option.isSome_iff_exists.1 t1
     have Hset:=hide t3
     have Hbk:=hide (hbk.kept (T:=fun x=>x=g) (Kept.only wr g k (.string m)) (fun x hx e=>uh Hne g rfl (by rw [← e];exact hx)))
     have Hkp:=hide (hkp.trans ((Kept.only wr g k (.string m)).mono (T:=fun k=>S k∨(Value.slice (some ⟨g,0,none⟩) N lcap).ownBlock=some k) (fun x e=>Or.inr (by rw [e];rfl))))
     clear hrow hbk hkp e2 t1 t3
     go_wp2
     go_roundw
     case rel=>exact ⟨k+1,by omega,by go_num,uh Hset,uh Hbk,uh Hkp⟩
     case measure=>simp [intOf];omega
   · have hkL:k=N:=by omega
     have hfull:nameTo xs m k=reps N m:=by rw [hkL];unfold nameTo;rw [← hN,List.drop_length,List.append_nil]
     rw [hfull] at hrow
     have Hrow:=hide hrow
     have Hbk:=hide hbk
     have Hkp:=hide hkp
     clear hrow hbk hkp hfull
     obtain ⟨i0,hi0,hz0,hz1,hz2⟩:=info_parts Tryz.infoStr
     obtain ⟨i1,hi1,hx0,hx1,hx2⟩:=info_parts Tryz.infoSlS
     go_wp2_with (first
       | (at_builtin
          refine wpList_append_keep _ rfl _ _ _ rfl 0 9 i0 _ 1 16 Tryz.underlying34 hi0 hz0 hz1 hz2 rfl (by omega) (.slice la N lcap) N (reps N m) rfl ((uh Hrow).alloc _) ⟨wr.heap.size,0,none⟩ 1 1 [.string m] rfl rfl (World.news_of_block (cs:= #[.string m]) (t:=9) (fr:=(0,0)) (heap_alloc_new wr _)) (by simp [Value.oneCell']) (by omega) (by unfold maxLen;omega) (by omega) (by omega) (wr.heap.size+1) (by simp) ?_
          intro g3 cap3 w3 hown3 hcase3 hlt3
          have L3:=hide (row_still ((uh Hrow).alloc (.cells #[.string m] 9)) hown3 hcase3)
          have B3:=hide (((uh Hbk).below ((Below.refl _ _).alloc (Nat.le_refl _) (.cells #[.string m] 9))).kept (case_kept hcase3) (fun x hx e=>uh Hne x e hx))
          have K3:=hide (((uh Hkp).alloc (.cells #[.string m] 9)).trans ((case_kept hcase3).mono (T:=fun k=>S k∨(Value.slice la N lcap).ownBlock=some k) (fun k hk=>Or.inr hk)))
          have G3:=hide (case_new (j:=1) hcase3 (H0:=w.heap.size) (by have:=(uh Hkp).size;omega))
          have O3:=hide (names_more (j:=1) hown3)
          clear hown3 hcase3)
       | (at_builtin
          refine wpList_append_keep _ rfl _ _ _ rfl 0 9 i0 _ 1 16 Tryz.underlying34 hi0 hz0 hz1 hz2 rfl (by omega) (.slice la N lcap) N (reps N m) rfl ((uh L3).alloc _) ⟨w3.heap.size,0,none⟩ 2 2 [.string m,.string m] rfl rfl (World.news_of_block (cs:= #[.string m,.string m]) (t:=9) (fr:=(0,0)) (heap_alloc_new w3 _)) (by simp [Value.oneCell']) (by omega) (by unfold maxLen;omega) (by omega) (by omega) (w3.heap.size+1) (by simp) ?_
          intro g4 cap4 w4 hown4 hcase4 hlt4
          have L4:=hide (row_still ((uh L3).alloc (.cells #[.string m,.string m] 9)) hown4 hcase4)
          have B4:=hide (((uh B3).below ((Below.refl _ _).alloc (Nat.le_refl _) (.cells #[.string m,.string m] 9))).kept (case_kept hcase4) (fun x hx e=>uh Hne x e hx))
          have K4:=hide (((uh K3).alloc (.cells #[.string m,.string m] 9)).trans ((case_kept hcase4).mono (T:=fun k=>S k∨(Value.slice la N lcap).ownBlock=some k) (fun k hk=>Or.inr hk)))
          have G4:=hide (case_new (j:=2) hcase4 (H0:=w.heap.size) (by have:=(uh K3).size;omega))
          have O4:=hide (names_more (j:=2) hown4)
          have O3_4:=hide (ext_still ((uh O3).alloc (.cells #[.string m,.string m] 9)) (uh G3).1 (uh Hlt0) hcase4 (uh O4) (by omega))
          clear hown4 hcase4)
       | (at_builtin
          refine wpList_append_keep _ rfl _ _ _ rfl 0 9 i0 _ 1 16 Tryz.underlying34 hi0 hz0 hz1 hz2 rfl (by omega) (.slice la N lcap) N (reps N m) rfl ((uh L4).alloc _) ⟨w4.heap.size,0,none⟩ 3 3 [.string m,.string m,.string m] rfl rfl (World.news_of_block (cs:= #[.string m,.string m,.string m]) (t:=9) (fr:=(0,0)) (heap_alloc_new w4 _)) (by simp [Value.oneCell']) (by omega) (by unfold maxLen;omega) (by omega) (by omega) (w4.heap.size+1) (by simp) ?_
          intro g5 cap5 w5 hown5 hcase5 hlt5
          have L5:=hide (row_still ((uh L4).alloc (.cells #[.string m,.string m,.string m] 9)) hown5 hcase5)
          have B5:=hide (((uh B4).below ((Below.refl _ _).alloc (Nat.le_refl _) (.cells #[.string m,.string m,.string m] 9))).kept (case_kept hcase5) (fun x hx e=>uh Hne x e hx))
          have K5:=hide (((uh K4).alloc (.cells #[.string m,.string m,.string m] 9)).trans ((case_kept hcase5).mono (T:=fun k=>S k∨(Value.slice la N lcap).ownBlock=some k) (fun k hk=>Or.inr hk)))
          have G5:=hide (case_new (j:=3) hcase5 (H0:=w.heap.size) (by have:=(uh K4).size;omega))
          have O5:=hide (names_more (j:=3) hown5)
          have O3_5:=hide (ext_still ((uh O3_4).alloc (.cells #[.string m,.string m,.string m] 9)) (uh G3).1 (uh Hlt0) hcase5 (uh O5) (by omega))
          have O4_5:=hide (ext_still ((uh O4).alloc (.cells #[.string m,.string m,.string m] 9)) (uh G4).1 (uh Hlt0) hcase5 (uh O5) (by omega))
          have c0:w5.cell? ⟨b,0,none⟩=some V.n:=(uh B5).cell 0
          clear hown5 hcase5)
       | (at_builtin
          refine wpList_append_lies _ rfl _ _ _ rfl 0 34 i1 _ 1 24 Tryz.underlying25 hi1 hx0 hx1 hx2 rfl (by omega) V.n B.names.length (B.names.map (·.v)) rfl ((uh B5).rN.alloc _) ⟨w5.heap.size,0,none⟩ 4 4 [.slice la N lcap,.slice (some ⟨g3,0,none⟩) (N+1) cap3,.slice (some ⟨g4,0,none⟩) (N+2) cap4,.slice (some ⟨g5,0,none⟩) (N+3) cap5] rfl rfl (World.news_of_block (cs:= #[.slice la N lcap,.slice (some ⟨g3,0,none⟩) (N+1) cap3,.slice (some ⟨g4,0,none⟩) (N+2) cap4,.slice (some ⟨g5,0,none⟩) (N+3) cap5]) (t:=34) (fr:=(0,0)) (heap_alloc_new w5 _)) (by simp [Value.oneCell']) (by omega) (by unfold maxLen;omega) (by omega) (by omega) (w5.heap.size+1) (by simp) ?_
          intro g7 cap7 w7 hown7 hgrow7 hat7 hlt7
          have b7:=hide (grown_blk hgrow7 ((uh B5).below ((Below.refl _ _).alloc (Nat.le_refl _) (.cells #[.slice la N lcap,.slice (some ⟨g3,0,none⟩) (N+1) cap3,.slice (some ⟨g4,0,none⟩) (N+2) cap4,.slice (some ⟨g5,0,none⟩) (N+3) cap5] 34))).blk (row_ne (uh B5).rN (uh B5).blk (by decide)))
          have c70:w7.cell? ⟨b,0,none⟩=some V.n:=(cell_blk (uh b7) 0).trans rfl
          have c71:w7.cell? ⟨b,1,none⟩=some V.nm:=(cell_blk (uh b7) 1).trans rfl
          have z7: ∀ i,w7.frozen? ⟨b,i,none⟩=false:=fun i=>frozen_blk (uh b7) i
          have R9:=hide (ownsRow_kept (Kept.only w7 b 0 (.slice (some ⟨g7,0,none⟩) (B.names.length+4) cap7)) (grown_row hgrow7 ((uh B5).rNm.alloc _) (rows_ne (uh B5).rNm (uh B5).rN (by decide))) (row_ne (uh B5).rNm (uh B5).blk (by decide))))
       | (at_builtin
          refine wpList_append_lies _ rfl _ _ _ rfl 0 9 i0 _ 1 16 Tryz.underlying34 hi0 hz0 hz1 hz2 rfl (by omega) V.nm B.names.length (B.names.map fun x=> .string x.s) rfl ((uh R9).alloc _) ⟨w7.heap.size,0,none⟩ 4 4 [.string m,.string m,.string m,.string m] rfl rfl (World.news_of_block (cs:= #[.string m,.string m,.string m,.string m]) (t:=9) (fr:=(0,0)) (by have:=heap_alloc_new (w7.setCell ⟨b,0,none⟩ (.slice (some ⟨g7,0,none⟩) (B.names.length+4) cap7)) (.cells #[.string m,.string m,.string m,.string m] 9);rwa [size_setCell] at this)) (by simp [Value.oneCell']) (by omega) (by unfold maxLen;omega) (by omega) (by omega) (w7.heap.size+1) (by simp) ?_
          intro g8 cap8 w8 hown8 hgrow8 hat8 hlt8
          have b8:=hide (grown_blk hgrow8 (show _=some (.cells (bookCells { V with n:= .slice (some ⟨g7,0,none⟩) (B.names.length+4) cap7 } (B.next+1)).toArray 77 (0,0)) from (Below.heap_alloc _ _ _ (by rw [size_setCell];exact blk_lt (uh b7))).trans (by rw [heap_setCell_same _ _ _ _ _ _ _ (uh b7)];rfl)) (fun g hg=>row_ne (uh B5).rNm (uh B5).blk (by decide) g hg))
          have c81:w8.cell? ⟨b,1,none⟩=some V.nm:=(cell_blk (uh b8) 1).trans rfl
          have z8: ∀ i,w8.frozen? ⟨b,i,none⟩=false:=fun i=>frozen_blk (uh b8) i)
       | fail)
     have E:=hide (ownsNames_end (uh HS) (uh Hne) (uh B5) (uh L5) (uh O3_5) (uh O4_5) (uh O5) (uh G3).2 (uh G4).2 (uh G5).2 (uh K5) hgrow7 hown7 hat7 hgrow8 hown8 hat8 (uh b8))
     go_end0
     exact ⟨rfl,uh E⟩
end Go.Proofs.YtknjjjenklfeoaaGreatDoor
namespace Go.Proofs.YtknjjjenklfeoaaGreatDoor
open Go.RowKit
attribute [local go_sem ↓] loadVar_clus storeVar_clus zeroValue_clus loadVar_op
attribute [local go_sem] run_loadClus run_storeClus run_zeroClus run_storeClus_new run_loadClus_new zc_length run_loadOp HasAt_drew cellsAt_drew
def ShareT (p bo d:Nat) (s:ByteArray) (w':World):Prop:=w'.cell? ⟨p,0,none⟩=some (.pointer (some ⟨d,0,none⟩))∧w'.cell? ⟨bo,2,none⟩=some (.string s)
set_option linter.unusedSimpArgs false in
theorem sharesTake_any (w:World) (p:Nat) (P:PairR) (S:Nat→Prop) (N0:Nat) (E:List EntR) (h:PairAt w p P S) (hst:Stands P N0 E) (hL:P.V.L.length≤400000000) (o:OpR) (hn:o.name.size≤maxLen) (hkd:o.kind=3):
   Calls Tryz.prog 63 #[.pointer (some ⟨p,0,none⟩),.agg (opCells o).toArray] w fun e w'=>e= .returned (.bool true)∧ ∃ P' N1 E',Stands P' N1 E'∧ ∃ S',Went w w' p P S P' S':=by
 have hg:=hst.vol
 obtain ⟨k1,k2,k3,k4,k5⟩:=hg.look
 have h7:=hg.file.seven
 have hmost:=hg.file.most
 have hlens:=hg.file.lens
 have hr0:(⟨N0,0,[]⟩:RootR) ∈ rsOf N0 E:=by simp [rsOf]
 have hin:=hg.sound.inFile hr0
 have hcase:=hg.takeCases o.name
 have hrl:(rsOf N0 E).length≤5:=by have:=hg.file.ents.len;simp [rsOf];omega
 have hFst:FirstOK P.V (num (cl P.V.C 0) 6):=by rw [hg.num6];exact hg.sound.firstOK hg.roots0
 have hDl:P.D.L.length≤4:=by rw [← hst.disk,dsk_len];exact hg.file.ents.len
 have hb0:Below w.heap.size w (w.alloc (.cells (opCells o).toArray 80)):=(Below.refl _ _).alloc (Nat.le_refl _) _
 have hbx0:(w.alloc (.cells (opCells o).toArray 80)).heap[w.heap.size]? = some (.cells (opCells o).toArray 80 (0,0)):=heap_alloc_new _ _
 have c0:=(h.below hb0).c0
 have H:=hide h
 have HG:=hide hg
 have HS:=hide hst
 have B0:=hide hb0
 have X0:=hide hbx0
 have HC:=hide hcase
 have hft:=fun k hk=>(uh H).lt k ((uh H).inD k (Or.inr hk))
 have Hft:=hide hft
 have Hk:=hide hkd
 have HFst:=hide hFst
 clear h hg hb0 hbx0 hcase hft hst hkd hFst
 go_enter Tryz.func63,Tryz.ntmps63
 go_wp2_with fail
 generalize w.alloc (.cells (opCells o).toArray 80)=w0 at*
 refine (diskFile_any w0 _ _ _ _ _ ((uh H).below (uh B0)).dsk (by omega) (by omega)).mono ?_
 rintro e w1 ⟨fv,rfl,rf1,b1⟩
 have B1:=hide ((uh B0).trans (b1.mono (uh B0).size))
 have X1:=hide ((b1.block _ (blk_lt (uh X0))).trans (uh X0))
 have R1:Hid (FRow w1 fv P.V.C):=⟨row_base rf1 (Nat.zero_le _),hlens⟩
 clear B0 X0 rf1 b1 c0
 go_wp2_with fail
 refine (look_any w1 fv P.V.C (uh R1) (by omega)).mono ?_
 rintro e w2 ⟨rfl,fl,fr,hLk⟩
 have B2:=hide ((uh B1).trans (hLk.below.mono (uh B1).size))
 have X2:=hide ((hLk.below.block _ (blk_lt (uh X1))).trans (uh X1))
 have F2:=hide hLk.at'
 have hfr: ∀ g,fl.ownBlock=some g→w.heap.size≤g:=fun g hg=>Nat.le_trans (uh B1).size (hLk.fresh g hg)
 have Hfr:=hide hfr
 have hfs:w.heap.size≤w1.heap.size:=(uh B1).size
 have c1:=((uh H).below (uh B2)).c1
 have hf2:w1.heap.size<w2.heap.size:=blk_lt hLk.at'.blk
 have hs2:w.heap.size≤w2.heap.size:=(uh B2).size
 clear hLk B1 X1 R1 hfr
 generalize w1.heap.size=f at*
 go_wp2_with fail
 refine (copied_any w2 P.y P.Pv P.D ((uh H).below (uh B2)).ref (by omega)).mono ?_
 rintro e w3 ⟨Qv,rfl,hD3,hQ3,b3⟩
 have B3:=hide ((uh B2).trans (b3.mono (uh B2).size))
 have X3:=hide ((b3.block _ (blk_lt (uh X2))).trans (uh X2))
 have F3:=hide ((uh F2).below b3)
 have D3:=hide hD3
 have hz3:w2.heap.size<w3.heap.size:=hD3.lt
 have hQ: ∀ g,Qv.ownBlock=some g→w.heap.size≤g∧g<w3.heap.size:=fun g hg=>⟨by have:=hQ3 g hg;omega,(hD3.row.lt g hg).2⟩
 have HF2l:Hid (∀ g,fl.ownBlock=some g→g<w2.heap.size):=fun g hg=>((uh F2).rowL.lt g hg).2
 have HF2r:Hid (∀ g,fr.ownBlock=some g→g<w2.heap.size):=fun g hg=>((uh F2).rowR.lt g hg).2
 have HQ:=hide hQ
 have HQ3:=hide hQ3
 have ck:w3.cell? ⟨w.heap.size,0,none⟩=some (.int .i64 3):=by rw [cell_blk (uh X3) 0,List.getElem?_toArray];show some (Value.int .i64 o.kind)=_;rw [uh Hk]
 clear hD3 hQ3 b3 hQ X2 F2 c1 B2
 generalize w2.heap.size=z at*
 go_wp2_with fail
 have hT:ShareT p w.heap.size P.d o.name w3.drew:=⟨((uh H).below (uh B3).drew).c0,(cell_blk (w:=w3) (uh X3) 2).trans rfl⟩
 have Hw:=hide (diskTake_any w3.drew P.d P.v P.Cv P.Lv P.V ((uh H).below (uh B3).drew).dsk (by omega) hmost (by omega) (uh HFst) o.name hn)
 generalize hR:takeR P.V o.name=R at*
 have HR:=hide hR
 clear hR
 refine wp_region_L (ShareT p w.heap.size P.d o.name) 7 (by kernel_rfl) ?_
 refine takeL 0 ?_ (fun W hW=> ?_) hT ?_
 rotate_left 1
 · (obtain ⟨t0,t1⟩:=hW;go_simp;with_reducible rfl)
 simp only [Act.put,setB,set0,setS]
 refine takeL 1 ?_ (fun W hW=> ?_) hT ?_
 rotate_left 1
 · (obtain ⟨t0,t1⟩:=hW;go_simp;with_reducible rfl)
 simp only [Act.put,setB,set0,setS]
 refine takeL 2 ?_ (fun W hW=> ?_) hT ?_
 rotate_left 1
 · (obtain ⟨t0,t1⟩:=hW;go_simp;with_reducible rfl)
 simp only [Act.put,setB,set0,setS]
 refine takeL 3 ?_ (fun W hW=> ?_) hT ?_
 rotate_left 1
 · (obtain ⟨t0,t1⟩:=hW;go_simp;with_reducible rfl)
 simp only [Act.put,setB,set0,setS]
 refine takeL 4 ?_ (fun W hW=> ?_) hT ?_
 rotate_left 1
 · (obtain ⟨t0,t1⟩:=hW;go_simp;with_reducible rfl)
 simp only [Act.put,setB,set0,setS]
 refine takeL 5 ?_ (fun W hW=> ?_) hT ?_
 rotate_left 1
 · (obtain ⟨t0,t1⟩:=hW;go_simp;with_reducible rfl)
 simp only [Act.put,setB,set0,setS]
 refine wpAnyL_one (i:=6) (by kernel_rfl) rfl fun K6 hK6=> ?_
 go_simp
 go_at_call 17
 refine (uh Hw).mono ?_
 rintro e w4 ⟨rfl,C4,L4,hS4⟩
 have S4:Hid (VStep w3 w4 P.v P.Cv P.Lv C4 L4 R.1):=⟨hS4.at',⟨hS4.kept.os,hS4.kept.tape,hS4.kept.output,hS4.kept.size,hS4.kept.block⟩,hS4.new⟩
 have hnf: ∀ k,w.heap.size≤k→ ¬ foot P.v P.Cv P.Lv k:=fun k hk hf=>by have:=uh Hft k hf;omega
 have X4:=hide ((uh S4).kept.blk (hnf _ (Nat.le_refl _)) (uh X3))
 have F4:=hide ((uh F3).kept (uh S4).kept (hnf _ hfs) (fun g hg=>hnf g (uh Hfr g hg)) (fun g hg=>by obtain ⟨cs,fr',hb⟩:=row_blk (uh F3).rowR hg;exact ((uh H).below (uh B3)).footKey hb (by decide) (by decide) (by decide)))
 have D4:=hide ((uh D3).kept (uh S4).kept (hnf _ hs2) (fun g hg=>hnf g (uh HQ g hg).1))
 have hsz4:w3.heap.size≤w4.heap.size:=(uh S4).kept.size
 have c04:=(((uh H).below (uh B3)).step (uh S4)).c0
 have hT4:ShareT p w.heap.size P.d o.name w4:=⟨c04,(cell_blk (uh X4) 2).trans rfl⟩
 clear hS4 hnf
 refine hK6 _ _ (Or.inr hT4) ?_
 try simp only [Act.put,setB,set0,setS]
 refine wpAnyL_one (i:=7) (by kernel_rfl) rfl fun K7 hK7=> ?_
 go_simp
 refine hK7 _ _ (Or.inl rfl) ?_
 try simp only [Act.put,setB,set0,setS]
 refine wpAnyL_done (by kernel_rfl) ?_ _
 clear hT hT4 c04 Hw X3 F3 D3 ck
 have cn4:w4.cell? ⟨w.heap.size,2,none⟩=some (.string o.name):=(cell_blk (uh X4) 2).trans rfl
 have Hw:=hide (refTake_any w4 z Qv P.D (uh D4) (by omega) o.name hn)
 rw [(uh HS).disk] at HC
 generalize hR':refTakeR P.D o.name=R' at*
 clear hR'
 go_wp2_with fail
 refine (uh Hw).mono ?_
 rintro e w5 ⟨rfl,Q5,hS5⟩
 have hk5:Kept (fun x=>x=z∨Qv.ownBlock=some x) w4 w5:=hS5.kept
 have D5:=hide hS5.at'
 have HQ5:Hid (∀ g,Q5.ownBlock=some g→w.heap.size≤g):=fun g hg=>by
   rcases hS5.new g hg with x | x
   · exact (uh HQ g x).1
   · have:=(uh B3).size;omega
 have F5:=hide ((uh F4).kept hk5 (fun x=>by
   rcases x with x | x
   · omega
   · have:=uh HQ3 _ x;omega) (fun g hg x=>by
   have:=uh HF2l g hg
   rcases x with x | x
   · omega
   · have:=uh HQ3 _ x;omega) (fun g hg x=>by
   have:=uh HF2r g hg
   rcases x with x | x
   · omega
   · have:=uh HQ3 _ x;omega))
 have Hoth:=hide (fun hl hm=>Went.other (uh H) (uh B3) (uh S4) hk5 ⟨hs2,hz3⟩ (uh HQ) hl hm)
 have hnz: ¬ (S z∨foot P.v C4 L4 z):=fun x=>by
   rcases ((uh H).below (uh B3)).step_new (uh S4) z x with y | y
   · have:=(uh H).lt z y;omega
   · omega
 have Hnz:=hide hnz
 clear hS5 hk5 hnz
 clear Hw X4 F4 D4 cn4
 have cb5:=(uh F5).cBad
 rw [k1] at cb5
 rcases uh HC with ⟨c,hc,e1,e2⟩ | ⟨e2,hrm,e1⟩ | ⟨e2,hrm,e1,hl,hm,E',hcm⟩
 · subst e1
   subst e2
   dsimp only at Hoth D5 ⊢
   have HW:=hide (uh Hoth (by omega) (Nat.le_refl _))
   have Hst:Hid (Stands { P with Cv:=C4,Lv:=L4,V:=P.V } N0 E):=⟨(uh HS).vol,(uh HS).disk,(uh HS).exact⟩
   have d0:(((c:Nat):Int) == 0)=false:=by rw [beq_eq_false_iff_ne];omega
   have hnum:=hide (fun W=>num_any ((c:Nat):Int) W)
   clear Hoth D5 F5 HC
   go_wp2_with fail
   refine (uh hnum _).mono ?_
   rintro e w9 ⟨rfl,rfl⟩
   go_wp2
   go_ret
   exact ⟨rfl,_,_,_,uh Hst,_,uh HW⟩
 · subst e1
   dsimp only at Hoth ⊢
   rw [e2]
   have HW:=hide (uh Hoth (by omega) (Nat.le_refl _))
   have Hst:Hid (Stands { P with Cv:=C4,Lv:=L4,V:=P.V } N0 E):=⟨(uh HS).vol,(uh HS).disk,(uh HS).exact⟩
   have hrt:rootOf (look P.V.C) 0=⟨N0,0,[]⟩:=by unfold rootOf;rw [k3];rfl
   have Hroom:=hide (fun (W:World) (hB:Below w5.heap.size w5 W)=>refRoom_any W f fl fr (look P.V.C) ((uh F5).below hB) 0 (by rw [k3];simp [rsOf]) (by rw [k3];omega) (by rw [k2];exact hmost) (by rw [k2];omega) (by rw [hrt,k2];exact hin))
   rw [hrt,k2] at Hroom
   dsimp only at Hroom
   rw [hrm] at Hroom
   clear Hoth D5 F5 HC hrm e2
   go_wp2_with fail
   refine (uh Hroom _ (Below.refl _ _)).mono ?_
   rintro e w6 ⟨rfl,b6⟩
   have HW6:=hide ((uh HW).below b6)
   clear b6 HW Hroom
   go_wp2
   go_ret
   exact ⟨rfl,_,_,_,uh Hst,_,uh HW6⟩
 · rw [e2,e1]
   have HW:=hide (uh Hoth hl hm)
   have hD0:=(uh HS).disk
   have hrt:rootOf (look P.V.C) 0=⟨N0,0,[]⟩:=by unfold rootOf;rw [k3];rfl
   have Hroom:=hide (fun (W:World) (hB:Below w5.heap.size w5 W)=>refRoom_any W f fl fr (look P.V.C) ((uh F5).below hB) 0 (by rw [k3];simp [rsOf]) (by rw [k3];omega) (by rw [k2];exact hmost) (by rw [k2];omega) (by rw [hrt,k2];exact hin))
   rw [hrt,k2] at Hroom
   dsimp only at Hroom
   rw [hrm] at Hroom
   have Hst:Hid (Stands { P with Cv:=C4,Lv:=L4,V:=R.1,y:=z,D:=R'.1,Pv:=Q5 } N0 E'):=⟨hcm.vol,hcm.holds,fun hx=>hcm.exact ((uh HS).exact hx)⟩
   have hnum:=hide (fun W=>num_any 0 W)
   clear Hoth F5 HC hrm e2 e1
   go_wp2_with fail
   refine (uh Hroom _ (Below.refl _ _)).mono ?_
   rintro e w6 ⟨rfl,b6⟩
   have HW6:=hide ((uh HW).below b6)
   have HD6:=hide ((uh D5).below b6)
   have HN:=hide (Went.newRef (uh H) (uh HW6) (uh HD6) hs2 (uh Hnz) (uh HQ5))
   have f6:=fun j=>frozen_blk (uh HW6).at'.blk j
   have cy6:=(uh HW6).at'.c1
   clear b6 HW Hroom
   go_wp2_with fail
   refine (uh hnum _).mono ?_
   rintro e w9 ⟨rfl,rfl⟩
   go_wp2
   go_ret
   exact ⟨rfl,_,_,_,uh Hst,_,uh HN⟩
def ShareF (p bo y:Nat) (s:ByteArray) (w':World):Prop:=w'.cell? ⟨p,1,none⟩=some (.pointer (some ⟨y,0,none⟩))∧w'.cell? ⟨bo,2,none⟩=some (.string s)
theorem refFindFrom_range (Ps:List PicR) (s:ByteArray): ∀ m k,-1≤refFindFrom Ps s m k∧refFindFrom Ps s m k≤((k+m:Nat):Int)
 | 0,k=>by show -1≤(-1:Int)∧(-1:Int)≤_;omega
 | m+1,k=>by
   have:=refFindFrom_range Ps s m (k+1)
   rw [refFindFrom]
   split <;> omega
theorem refFind_range (D:DiskR) (s:ByteArray): -1≤refFind D s∧refFind D s≤(D.L.length:Int):=by
 have:=refFindFrom_range D.L s D.L.length 0
 unfold refFind
 omega
theorem root_next {R:FileR} {N0:Nat} {E:List EntR} {i:Nat} (h:R.roots=rsOf N0 E) (hi:i<E.length):rootOf R (i+1)=rootE (E.getD i ze):=by
 unfold rootOf rsOf at*
 rw [h,List.getD_cons_succ,List.getD_eq_getElem?_getD,List.getD_eq_getElem?_getD,List.getElem?_map,List.getElem?_eq_getElem hi]
 rfl
set_option linter.unusedSimpArgs false in
theorem sharesReturn_any (w:World) (p:Nat) (P:PairR) (S:Nat→Prop) (N0:Nat) (E:List EntR) (h:PairAt w p P S) (hst:Stands P N0 E) (hL:P.V.L.length≤400000000) (o:OpR) (hn:o.name.size≤maxLen) (hkd:o.kind=4):
   Calls Tryz.prog 63 #[.pointer (some ⟨p,0,none⟩),.agg (opCells o).toArray] w fun e w'=>e= .returned (.bool true)∧ ∃ P' N1 E',Stands P' N1 E'∧ ∃ S',Went w w' p P S P' S':=by
 have hg:=hst.vol
 obtain ⟨k1,k2,k3,k4,k5⟩:=hg.look
 have h7:=hg.file.seven
 have hmost:=hg.file.most
 have hlens:=hg.file.lens
 have hr0:(⟨N0,0,[]⟩:RootR) ∈ rsOf N0 E:=by simp [rsOf]
 have hinE: ∀ i,i<E.length→InFile P.V.C (E.getD i ze).first:=fun i hi=>by
   obtain ⟨r,hr,e⟩:=List.mem_map.1 (hg.rootsE hi)
   rw [← e]
   exact hg.sound.inFile hr
 have hcase:=hg.returnCases o.name
 have hrl:(rsOf N0 E).length≤5:=by have:=hg.file.ents.len;simp [rsOf];omega
 have hFst:=fun he=>hg.returnHyps (s:=o.name) he
 have hDl:P.D.L.length≤4:=by rw [← hst.disk,dsk_len];exact hg.file.ents.len
 have hfr2:=refFind_range P.D o.name
 have hb0:Below w.heap.size w (w.alloc (.cells (opCells o).toArray 80)):=(Below.refl _ _).alloc (Nat.le_refl _) _
 have hbx0:(w.alloc (.cells (opCells o).toArray 80)).heap[w.heap.size]? = some (.cells (opCells o).toArray 80 (0,0)):=heap_alloc_new _ _
 have c0:=(h.below hb0).c0
 have H:=hide h
 have HG:=hide hg
 have HS:=hide hst
 have B0:=hide hb0
 have X0:=hide hbx0
 have HC:=hide hcase
 have hft:=fun k hk=>(uh H).lt k ((uh H).inD k (Or.inr hk))
 have Hft:=hide hft
 have Hk:=hide hkd
 have HFst:=hide hFst
 clear h hg hb0 hbx0 hcase hft hst hkd hFst
 go_enter Tryz.func63,Tryz.ntmps63
 go_wp2_with fail
 generalize w.alloc (.cells (opCells o).toArray 80)=w0 at*
 refine (diskFile_any w0 _ _ _ _ _ ((uh H).below (uh B0)).dsk (by omega) (by omega)).mono ?_
 rintro e w1 ⟨fv,rfl,rf1,b1⟩
 have B1:=hide ((uh B0).trans (b1.mono (uh B0).size))
 have X1:=hide ((b1.block _ (blk_lt (uh X0))).trans (uh X0))
 have R1:Hid (FRow w1 fv P.V.C):=⟨row_base rf1 (Nat.zero_le _),hlens⟩
 clear B0 X0 rf1 b1 c0
 go_wp2_with fail
 refine (look_any w1 fv P.V.C (uh R1) (by omega)).mono ?_
 rintro e w2 ⟨rfl,fl,fr,hLk⟩
 have B2:=hide ((uh B1).trans (hLk.below.mono (uh B1).size))
 have X2:=hide ((hLk.below.block _ (blk_lt (uh X1))).trans (uh X1))
 have F2:=hide hLk.at'
 have hfr: ∀ g,fl.ownBlock=some g→w.heap.size≤g:=fun g hg=>Nat.le_trans (uh B1).size (hLk.fresh g hg)
 have Hfr:=hide hfr
 have hfs:w.heap.size≤w1.heap.size:=(uh B1).size
 have c1:=((uh H).below (uh B2)).c1
 have hf2:w1.heap.size<w2.heap.size:=blk_lt hLk.at'.blk
 have hs2:w.heap.size≤w2.heap.size:=(uh B2).size
 clear hLk B1 X1 R1 hfr
 generalize w1.heap.size=f at*
 go_wp2_with fail
 refine (copied_any w2 P.y P.Pv P.D ((uh H).below (uh B2)).ref (by omega)).mono ?_
 rintro e w3 ⟨Qv,rfl,hD3,hQ3,b3⟩
 have B3:=hide ((uh B2).trans (b3.mono (uh B2).size))
 have X3:=hide ((b3.block _ (blk_lt (uh X2))).trans (uh X2))
 have F3:=hide ((uh F2).below b3)
 have D3:=hide hD3
 have hz3:w2.heap.size<w3.heap.size:=hD3.lt
 have hQ: ∀ g,Qv.ownBlock=some g→w.heap.size≤g∧g<w3.heap.size:=fun g hg=>⟨by have:=hQ3 g hg;omega,(hD3.row.lt g hg).2⟩
 have HF2l:Hid (∀ g,fl.ownBlock=some g→g<w2.heap.size):=fun g hg=>((uh F2).rowL.lt g hg).2
 have HF2r:Hid (∀ g,fr.ownBlock=some g→g<w2.heap.size):=fun g hg=>((uh F2).rowR.lt g hg).2
 have HQ:=hide hQ
 have HQ3:=hide hQ3
 have ck:w3.cell? ⟨w.heap.size,0,none⟩=some (.int .i64 4):=by rw [cell_blk (uh X3) 0,List.getElem?_toArray];show some (Value.int .i64 o.kind)=_;rw [uh Hk]
 clear hD3 hQ3 b3 hQ X2 F2 c1 B2
 generalize w2.heap.size=z at*
 go_wp2_with fail
 have hTf:ShareF p w.heap.size P.y o.name w3.drew:=⟨((uh H).below (uh B3).drew).c1,(cell_blk (w:=w3) (uh X3) 2).trans rfl⟩
 have Hfi:=hide (refFind_any w3.drew P.y P.Pv P.D ((uh H).below (uh B3).drew).ref (by omega) o.name)
 rw [(uh HS).disk] at HC
 generalize hrf:refFind P.D o.name=rf at*
 have Hrf:=hide hrf
 clear hrf
 obtain ⟨hrf1,hrf2⟩:=hfr2
 have hrf3:rf≤4:=by omega
 refine wp_region_L (ShareF p w.heap.size P.y o.name) 8 (by kernel_rfl) ?_
 refine takeL 0 ?_ (fun W hW=> ?_) hTf ?_
 rotate_left 1
 · (obtain ⟨t0,t1⟩:=hW;go_simp;with_reducible rfl)
 simp only [Act.put,setB,set0,setS]
 refine takeL 1 ?_ (fun W hW=> ?_) hTf ?_
 rotate_left 1
 · (obtain ⟨t0,t1⟩:=hW;go_simp;with_reducible rfl)
 simp only [Act.put,setB,set0,setS]
 refine takeL 2 ?_ (fun W hW=> ?_) hTf ?_
 rotate_left 1
 · (obtain ⟨t0,t1⟩:=hW;go_simp;with_reducible rfl)
 simp only [Act.put,setB,set0,setS]
 refine takeL 3 ?_ (fun W hW=> ?_) hTf ?_
 rotate_left 1
 · (obtain ⟨t0,t1⟩:=hW;go_simp;with_reducible rfl)
 simp only [Act.put,setB,set0,setS]
 refine takeL 4 ?_ (fun W hW=> ?_) hTf ?_
 rotate_left 1
 · (obtain ⟨t0,t1⟩:=hW;go_simp;with_reducible rfl)
 simp only [Act.put,setB,set0,setS]
 refine takeL 5 ?_ (fun W hW=> ?_) hTf ?_
 rotate_left 1
 · (obtain ⟨t0,t1⟩:=hW;go_simp;with_reducible rfl)
 simp only [Act.put,setB,set0,setS]
 refine wpAnyL_one (i:=6) (by kernel_rfl) rfl fun K6 hK6=> ?_
 go_simp
 go_at_call 120
 refine (uh Hfi).mono ?_
 rintro e w3' ⟨rfl,rfl⟩
 refine hK6 _ _ (Or.inr hTf) ?_
 try simp only [Act.put,setB,set0,setS]
 refine takeL 7 ?_ (fun W hW=> ?_) hTf ?_
 rotate_left 1
 · (obtain ⟨t0,t1⟩:=hW;go_simp;with_reducible rfl)
 simp only [Act.put,setB,set0,setS]
 refine wpAnyL_one (i:=8) (by kernel_rfl) rfl fun K8 hK8=> ?_
 go_simp
 refine hK8 _ _ (Or.inl rfl) ?_
 try simp only [Act.put,setB,set0,setS]
 refine wpAnyL_done (by kernel_rfl) ?_ _
 clear hTf Hfi ck
 have hwr:IntKind.i64.wrap (1+rf)=1+rf:=IntWalk.i64_in _ (by omega)
 try rw [hwr]
 have hdr:Below w3.heap.size w3 w3.drew:=(Below.refl _ w3).drew
 have B3':=hide ((uh B3).drew)
 have X3':=hide (show w3.drew.heap[w.heap.size]? = _ from uh X3)
 have F3':=hide ((uh F3).below hdr)
 have D3':=hide ((uh D3).below hdr)
 have hz3':z<w3.drew.heap.size:=hz3
 have HQ':Hid (∀ g,Qv.ownBlock=some g→w.heap.size≤g∧g<w3.drew.heap.size):=uh HQ
 clear B3 X3 F3 D3 hdr hwr hz3 HQ
 generalize w3.drew=w3 at*
 have B3:=B3'
 have X3:=X3'
 have F3:=F3'
 have D3:=D3'
 have hz3:=hz3'
 have HQ:=HQ'
 clear B3' X3' F3' D3' hz3' HQ'
 go_wp2_with fail
 have hT:ShareT p w.heap.size P.d o.name w3.drew:=⟨((uh H).below (uh B3).drew).c0,(cell_blk (w:=w3) (uh X3) 2).trans rfl⟩
 have Hw:=hide (diskReturn_any w3.drew P.d P.v P.Cv P.Lv P.V ((uh H).below (uh B3).drew).dsk (by omega) hmost (by omega) o.name hn (fun he=>(uh HFst he).1) (fun he=>(uh HFst he).2))
 generalize hR:returnR P.V o.name=R at*
 have HR:=hide hR
 clear hR
 refine wp_region_L (ShareT p w.heap.size P.d o.name) 7 (by kernel_rfl) ?_
 refine takeL 0 ?_ (fun W hW=> ?_) hT ?_
 rotate_left 1
 · (obtain ⟨t0,t1⟩:=hW;go_simp;with_reducible rfl)
 simp only [Act.put,setB,set0,setS]
 refine takeL 1 ?_ (fun W hW=> ?_) hT ?_
 rotate_left 1
 · (obtain ⟨t0,t1⟩:=hW;go_simp;with_reducible rfl)
 simp only [Act.put,setB,set0,setS]
 refine takeL 2 ?_ (fun W hW=> ?_) hT ?_
 rotate_left 1
 · (obtain ⟨t0,t1⟩:=hW;go_simp;with_reducible rfl)
 simp only [Act.put,setB,set0,setS]
 refine takeL 3 ?_ (fun W hW=> ?_) hT ?_
 rotate_left 1
 · (obtain ⟨t0,t1⟩:=hW;go_simp;with_reducible rfl)
 simp only [Act.put,setB,set0,setS]
 refine takeL 4 ?_ (fun W hW=> ?_) hT ?_
 rotate_left 1
 · (obtain ⟨t0,t1⟩:=hW;go_simp;with_reducible rfl)
 simp only [Act.put,setB,set0,setS]
 refine takeL 5 ?_ (fun W hW=> ?_) hT ?_
 rotate_left 1
 · (obtain ⟨t0,t1⟩:=hW;go_simp;with_reducible rfl)
 simp only [Act.put,setB,set0,setS]
 refine wpAnyL_one (i:=6) (by kernel_rfl) rfl fun K6 hK6=> ?_
 go_simp
 go_at_call 28
 refine (uh Hw).mono ?_
 rintro e w4 ⟨rfl,C4,L4,hS4⟩
 have S4:Hid (VStep w3 w4 P.v P.Cv P.Lv C4 L4 R.1):=⟨hS4.at',⟨hS4.kept.os,hS4.kept.tape,hS4.kept.output,hS4.kept.size,hS4.kept.block⟩,hS4.new⟩
 have hnf: ∀ k,w.heap.size≤k→ ¬ foot P.v P.Cv P.Lv k:=fun k hk hf=>by have:=uh Hft k hf;omega
 have X4:=hide ((uh S4).kept.blk (hnf _ (Nat.le_refl _)) (uh X3))
 have F4:=hide ((uh F3).kept (uh S4).kept (hnf _ hfs) (fun g hg=>hnf g (uh Hfr g hg)) (fun g hg=>by obtain ⟨cs,fr',hb⟩:=row_blk (uh F3).rowR hg;exact ((uh H).below (uh B3)).footKey hb (by decide) (by decide) (by decide)))
 have D4:=hide ((uh D3).kept (uh S4).kept (hnf _ hs2) (fun g hg=>hnf g (uh HQ g hg).1))
 have hsz4:w3.heap.size≤w4.heap.size:=(uh S4).kept.size
 have c04:=(((uh H).below (uh B3)).step (uh S4)).c0
 have hT4:ShareT p w.heap.size P.d o.name w4:=⟨c04,(cell_blk (uh X4) 2).trans rfl⟩
 clear hS4 hnf
 refine hK6 _ _ (Or.inr hT4) ?_
 try simp only [Act.put,setB,set0,setS]
 refine wpAnyL_one (i:=7) (by kernel_rfl) rfl fun K7 hK7=> ?_
 go_simp
 refine hK7 _ _ (Or.inl rfl) ?_
 try simp only [Act.put,setB,set0,setS]
 refine wpAnyL_done (by kernel_rfl) ?_ _
 clear hT hT4 c04 Hw X3 F3 D3
 have cn4:w4.cell? ⟨w.heap.size,2,none⟩=some (.string o.name):=(cell_blk (uh X4) 2).trans rfl
 have Hw:=hide (refReturn_any w4 z Qv P.D (uh D4) (by omega) o.name hn)
 generalize hR':refReturnR P.D o.name=R' at*
 clear hR'
 go_wp2_with fail
 refine (uh Hw).mono ?_
 rintro e w5 ⟨rfl,hD5,hkk5⟩
 have hk5:Kept (fun x=>x=z∨Qv.ownBlock=some x) w4 w5:=hkk5.mono fun x e=>Or.inl e
 have D5:=hide hD5
 have HQ5:Hid (∀ g,Qv.ownBlock=some g→w.heap.size≤g):=fun g hg=>(uh HQ g hg).1
 have F5:=hide ((uh F4).kept hk5 (fun x=>by
   rcases x with x | x
   · omega
   · have:=uh HQ3 _ x;omega) (fun g hg x=>by
   have:=uh HF2l g hg
   rcases x with x | x
   · omega
   · have:=uh HQ3 _ x;omega) (fun g hg x=>by
   have:=uh HF2r g hg
   rcases x with x | x
   · omega
   · have:=uh HQ3 _ x;omega))
 have Hoth:=hide (fun hl hm=>Went.other (uh H) (uh B3) (uh S4) hk5 ⟨hs2,hz3⟩ (uh HQ) hl hm)
 have hnz: ¬ (S z∨foot P.v C4 L4 z):=fun x=>by
   rcases ((uh H).below (uh B3)).step_new (uh S4) z x with y | y
   · have:=(uh H).lt z y;omega
   · omega
 have Hnz:=hide hnz
 clear hD5 hkk5 hk5 hnz
 clear Hw X4 F4 D4 cn4
 have cb5:=(uh F5).cBad
 rw [k1] at cb5
 rcases uh HC with ⟨c,hc,e1,e2⟩ | ⟨e2,i,hi,e3,⟨hrm,e1⟩ | ⟨hrm,e1,hl,hm,N1,hcm⟩⟩
 · subst e1
   subst e2
   dsimp only at Hoth D5 ⊢
   have HW:=hide (uh Hoth (by omega) (Nat.le_refl _))
   have Hst:Hid (Stands { P with Cv:=C4,Lv:=L4,V:=P.V } N0 E):=⟨(uh HS).vol,(uh HS).disk,(uh HS).exact⟩
   have d0:(((c:Nat):Int) == 0)=false:=by rw [beq_eq_false_iff_ne];omega
   have hnum:=hide (fun W=>num_any ((c:Nat):Int) W)
   clear Hoth D5 F5 HC
   go_wp2_with fail
   refine (uh hnum _).mono ?_
   rintro e w9 ⟨rfl,rfl⟩
   go_wp2
   go_ret
   exact ⟨rfl,_,_,_,uh Hst,_,uh HW⟩
 · subst e1
   dsimp only at Hoth ⊢
   rw [e2]
   have HW:=hide (uh Hoth (by omega) (Nat.le_refl _))
   have Hst:Hid (Stands { P with Cv:=C4,Lv:=L4,V:=P.V } N0 E):=⟨(uh HS).vol,(uh HS).disk,(uh HS).exact⟩
   have hrt:rootOf (look P.V.C) (i+1)=rootE (E.getD i ze):=root_next k3 hi
   rw [e3]
   have Hroom:=hide (fun (W:World) (hB:Below w5.heap.size w5 W)=>refRoom_any W f fl fr (look P.V.C) ((uh F5).below hB) (i+1) (by rw [k3];simp [rsOf];omega) (by rw [k3];omega) (by rw [k2];exact hmost) (by rw [k2];omega) (by rw [hrt,k2];exact hinE i hi))
   rw [hrt,k2,show (rootE (E.getD i ze)).N=(E.getD i ze).first from rfl,hrm,show ((i+1:Nat):Int)=1+(i:Int) by omega] at Hroom
   clear Hoth D5 F5 HC hrm e2
   go_wp2_with fail
   refine (uh Hroom _ (Below.refl _ _)).mono ?_
   rintro e w6 ⟨rfl,b6⟩
   have HW6:=hide ((uh HW).below b6)
   clear b6 HW Hroom
   go_wp2
   go_ret
   exact ⟨rfl,_,_,_,uh Hst,_,uh HW6⟩
 · rw [e2,e1]
   have HW:=hide (uh Hoth hl hm)
   have hD0:=(uh HS).disk
   have hrt:rootOf (look P.V.C) (i+1)=rootE (E.getD i ze):=root_next k3 hi
   rw [e3]
   have Hroom:=hide (fun (W:World) (hB:Below w5.heap.size w5 W)=>refRoom_any W f fl fr (look P.V.C) ((uh F5).below hB) (i+1) (by rw [k3];simp [rsOf];omega) (by rw [k3];omega) (by rw [k2];exact hmost) (by rw [k2];omega) (by rw [hrt,k2];exact hinE i hi))
   rw [hrt,k2,show (rootE (E.getD i ze)).N=(E.getD i ze).first from rfl,hrm,show ((i+1:Nat):Int)=1+(i:Int) by omega] at Hroom
   have Hst:Hid (Stands { P with Cv:=C4,Lv:=L4,V:=R.1,y:=z,D:=R'.1,Pv:=Qv } N1 E):=⟨hcm.vol,hcm.holds,fun hx=>hcm.exact ((uh HS).exact hx)⟩
   have hnum:=hide (fun W=>num_any 0 W)
   clear Hoth F5 HC hrm e2 e1
   go_wp2_with fail
   refine (uh Hroom _ (Below.refl _ _)).mono ?_
   rintro e w6 ⟨rfl,b6⟩
   have HW6:=hide ((uh HW).below b6)
   have HD6:=hide ((uh D5).below b6)
   have HN:=hide (Went.newRef (uh H) (uh HW6) (uh HD6) hs2 (uh Hnz) (uh HQ5))
   have f6:=fun j=>frozen_blk (uh HW6).at'.blk j
   have cy6:=(uh HW6).at'.c1
   clear b6 HW Hroom
   go_wp2_with fail
   refine (uh hnum _).mono ?_
   rintro e w9 ⟨rfl,rfl⟩
   go_wp2
   go_ret
   exact ⟨rfl,_,_,_,uh Hst,_,uh HN⟩
end Go.Proofs.YtknjjjenklfeoaaGreatDoor
