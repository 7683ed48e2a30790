import Derived.Test.YtknjjjenklfeoaaGreatDoorC09
set_option maxHeartbeats 8000000
set_option maxRecDepth 100000
namespace Go.Proofs.YtknjjjenklfeoaaGreatDoor
open Go.RowKit
attribute [local go_sem ↓] loadVar_wr storeVar_wr zeroValue_wr build_wr buildSlice_wr buildSlice_wr2
attribute [local go_sem] run_loadWr run_storeWr run_zeroWr run_storeWr_new run_bWr0 run_bsWr run_bsWr2 zc_length
def markWTo (L:List WrR) (m:Int) (k:Nat):List WrR:=List.replicate k ⟨m,zc⟩++L.drop k
theorem markWTo_length (L:List WrR) (m:Int) (k:Nat) (h:k≤L.length):(markWTo L m k).length=L.length:=by simp [markWTo];omega
theorem markWTo_lens {L:List WrR} (hl: ∀ c ∈ L,c.data.length=64) (m:Int) (k:Nat): ∀ c ∈ markWTo L m k,c.data.length=64:=by
 intro c hc
 rcases List.mem_append.1 hc with h | h
 · rw [List.eq_of_mem_replicate h];exact zc_length
 · exact hl c (List.mem_of_mem_drop h)
theorem markWTo_succ (L:List WrR) (m:Int) (k:Nat) (h:k<L.length):(markWTo L m k).set k ⟨m,zc⟩=markWTo L m (k+1):=by
 unfold markWTo
 rw [List.set_append_right _ _ (by simp),List.length_replicate,Nat.sub_self,List.drop_eq_getElem_cons h,List.set_cons_zero,List.replicate_succ',List.append_assoc]
 rfl
theorem repW_snoc (N:Nat) (c:WrR):flatW (List.replicate N c)++wrCells c=flatW (List.replicate (N+1) c):=by rw [List.replicate_succ',flatW_snoc]
theorem keep_rowW {w W:World} {b:Nat} {V:BookV} {B:BookR} {S:Nat→Prop} (h:BookAt w b V B S) (hk:Kept (fun k=>k=b∨V.w.ownBlock=some k∨V.wm.ownBlock=some k) w W) {base:Nat} {e:TypeId} {size:Nat} {v:Value} {n:Nat} {xs:List Value}
   (hr:w.ownsRow base e size v n xs) (h1:e≠77) (h2:e≠58) (h3:e≠3):W.ownsRow base e size v n xs:=
 ownsRow_kept hk hr fun g hg x=>by
   rcases x with x | x | x
   · exact row_ne hr h.blk h1 g hg x
   · exact rows_ne hr h.rW h2 g hg x
   · exact rows_ne hr h.rWm h3 g hg x
theorem ownsLog_end {w w6 w7 w8:World} {b:Nat} {V:BookV} {B:BookR} {S:Nat→Prop} {lv one two:Value} {N g7 cap7 g8 cap8:Nat} {m:Int} {X7 X8:Obj}
   (h:BookAt w6 b V B S) (hl:w6.ownsRow 0 104 65 lv N (flatW (List.replicate N ⟨m,zc⟩))) (h1:w6.ownsRow 0 104 65 one (N+1) (flatW (List.replicate (N+1) ⟨m,zc⟩))) (h2:w6.ownsRow 0 104 65 two (N+2) (flatW (List.replicate (N+2) ⟨m,zc⟩)))
   (o1: ∀ g,one.ownBlock=some g→lv.ownBlock=some g∨w.heap.size≤g) (o2: ∀ g,two.ownBlock=some g→lv.ownBlock=some g∨w.heap.size≤g)
   (hK:Kept (fun k=>S k∨lv.ownBlock=some k) w w6)
   (hg7:(w6.alloc X7).grownBy w7 V.w.ownBlock) (r7:w7.ownsRow 0 58 1 (.slice (some ⟨g7,0,none⟩) (B.writes.length+3) cap7) (B.writes.length+3) (B.writes.map (·.v)++[lv,one,two])) (a7:V.w.ownBlock=some g7∨g7=w6.heap.size+1)
   (hg8:((w7.setCell ⟨b,4,none⟩ (.slice (some ⟨g7,0,none⟩) (B.writes.length+3) cap7)).alloc X8).grownBy w8 V.wm.ownBlock)
   (r8:w8.ownsRow 0 3 1 (.slice (some ⟨g8,0,none⟩) (B.writes.length+3) cap8) (B.writes.length+3) ((B.writes.map fun x=> .int .i64 x.m)++[.int .i64 m,.int .i64 m,.int .i64 m])) (a8:V.wm.ownBlock=some g8∨g8=w7.heap.size+1)
   (b8:w8.heap[b]? = some (.cells (bookCells { V with w:= .slice (some ⟨g7,0,none⟩) (B.writes.length+3) cap7 } B.next).toArray 77 (0,0))):
   ∃ V' B' S',BookAt (w8.setCell ⟨b,5,none⟩ (.slice (some ⟨g8,0,none⟩) (B.writes.length+3) cap8)) b V' B' S'∧B'.next=B.next∧B'.writes.length=B.writes.length+3∧B'.files=B.files∧B'.names=B.names∧(∀ x ∈ B'.writes,x ∈ B.writes∨x.n≤N+2)∧
     Kept (fun k=>S k∨lv.ownBlock=some k) w (w8.setCell ⟨b,5,none⟩ (.slice (some ⟨g8,0,none⟩) (B.writes.length+3) cap8))∧(∀ k,S' k→S k∨lv.ownBlock=some k∨w.heap.size≤k):=by
 have KA:Kept (fun k=>k=b∨V.w.ownBlock=some k∨V.wm.ownBlock=some k) w6 (w7.setCell ⟨b,4,none⟩ (.slice (some ⟨g7,0,none⟩) (B.writes.length+3) cap7)):=
   Kept.setCell (S:=fun k=>k=b∨V.w.ownBlock=some k∨V.wm.ownBlock=some k) (((Kept.refl _ _).alloc X7).grown hg7 (fun g hg=>Or.inl (Or.inr (Or.inl hg)))) (p:=⟨b,4,none⟩) (Or.inl (Or.inl rfl)) _
 have KB:Kept (fun k=>k=b∨V.w.ownBlock=some k∨V.wm.ownBlock=some k) (w7.setCell ⟨b,4,none⟩ (.slice (some ⟨g7,0,none⟩) (B.writes.length+3) cap7)) (w8.setCell ⟨b,5,none⟩ (.slice (some ⟨g8,0,none⟩) (B.writes.length+3) cap8)):=
   Kept.setCell (S:=fun k=>k=b∨V.w.ownBlock=some k∨V.wm.ownBlock=some k) (((Kept.refl _ _).alloc X8).grown hg8 (fun g hg=>Or.inl (Or.inr (Or.inr hg)))) (p:=⟨b,5,none⟩) (Or.inl (Or.inl rfl)) _
 have KAB:=KA.trans KB
 have hb7:w7.heap[b]? = some (.cells (bookCells V B.next).toArray 77 (0,0)):=grown_blk hg7 ((Below.heap_alloc _ _ _ h.lt').trans h.blk) (row_ne h.rW h.blk (by decide))
 have s1:=hK.size
 have s2:=KA.size
 have s3:=KB.size
 have s7:=size_setCell w7 ⟨b,4,none⟩ (.slice (some ⟨g7,0,none⟩) (B.writes.length+3) cap7)
 have hfm7:(w7.setCell ⟨b,4,none⟩ (.slice (some ⟨g7,0,none⟩) (B.writes.length+3) cap7)).ownsRow 0 3 1 V.wm B.writes.length (B.writes.map fun x=> .int .i64 x.m):=
   ownsRow_kept (Kept.only w7 b 4 _) (grown_row hg7 (h.rWm.alloc X7) (rows_ne h.rWm h.rW (by decide))) (row_ne h.rWm h.blk (by decide))
 have r7':(w7.setCell ⟨b,4,none⟩ (.slice (some ⟨g7,0,none⟩) (B.writes.length+3) cap7)).ownsRow 0 58 1 (.slice (some ⟨g7,0,none⟩) (B.writes.length+3) cap7) (B.writes.length+3) (B.writes.map (·.v)++[lv,one,two]):=
   ownsRow_kept (Kept.only w7 b 4 _) r7 (row_ne r7 hb7 (by decide))
 have r7'':w8.ownsRow 0 58 1 (.slice (some ⟨g7,0,none⟩) (B.writes.length+3) cap7) (B.writes.length+3) (B.writes.map (·.v)++[lv,one,two]):=
   grown_row hg8 (r7'.alloc X8) (rows_ne r7' hfm7 (by decide))
 refine ⟨{ V with w:= .slice (some ⟨g7,0,none⟩) (B.writes.length+3) cap7,wm:= .slice (some ⟨g8,0,none⟩) (B.writes.length+3) cap8 },{ B with writes:=B.writes++[⟨lv,N,m⟩,⟨one,N+1,m⟩,⟨two,N+2,m⟩] },
   fun k=>S k∨lv.ownBlock=some k∨(w.heap.size≤k∧k<(w8.setCell ⟨b,5,none⟩ (.slice (some ⟨g8,0,none⟩) (B.writes.length+3) cap8)).heap.size),?_,rfl,by simp,rfl,rfl,fun x hx=>more_of (f:=WEnt.n) hx (by simp) (by simp) (by simp),?_,fun k hk=>by rcases hk with x | x | x;exact Or.inl x;exact Or.inr (Or.inl x);exact Or.inr (Or.inr x.1)⟩
 · exact {
     blk:=by rw [heap_setCell_same _ _ _ _ _ _ _ b8];rfl
     rN:=keep_rowW h KAB h.rN (by decide) (by decide) (by decide)
     rNm:=keep_rowW h KAB h.rNm (by decide) (by decide) (by decide)
     rW:=by
       have:=ownsRow_kept (Kept.only w8 b 5 (.slice (some ⟨g8,0,none⟩) (B.writes.length+3) cap8)) r7'' (row_ne r7'' b8 (by decide))
       simpa using this
     rWm:=by
       have:=ownsRow_kept (Kept.only w8 b 5 (.slice (some ⟨g8,0,none⟩) (B.writes.length+3) cap8)) r8 (row_ne r8 b8 (by decide))
       simpa using this
     rF:=keep_rowW h KAB h.rF (by decide) (by decide) (by decide)
     rFm:=keep_rowW h KAB h.rFm (by decide) (by decide) (by decide)
     eN:=fun x hx=>keep_rowW h KAB (h.eN x hx) (by decide) (by decide) (by decide)
     eW:=fun x hx=>by
       rcases List.mem_append.1 hx with y | y
       · exact keep_rowW h KAB (h.eW x y) (by decide) (by decide) (by decide)
       · simp only [List.mem_cons,List.not_mem_nil,or_false] at y
         rcases y with rfl | rfl | rfl
         · exact keep_rowW h KAB hl (by decide) (by decide) (by decide)
         · exact keep_rowW h KAB h1 (by decide) (by decide) (by decide)
         · exact keep_rowW h KAB h2 (by decide) (by decide) (by decide)
     eF:=fun x hx=>keep_rowW h KAB (h.eF x hx) (by decide) (by decide) (by decide)
     apart:=h.apart
     inB:=Or.inl h.inB
     inV:=fun g hg=>by
       have q8:=(r8.lt g8 rfl).2
       have q7:=(r7''.lt g7 rfl).2
       rcases hg with x | x | x | x | x | x
       · exact Or.inl (h.inV g (Or.inl x))
       · exact Or.inl (h.inV g (Or.inr (Or.inl x)))
       · exact Or.inl (h.inV g (Or.inr (Or.inr (Or.inl x))))
       · exact Or.inl (h.inV g (Or.inr (Or.inr (Or.inr (Or.inl x)))))
       · simp only [Value.ownBlock,Option.some.injEq] at x
         subst x
         rcases a7 with y | y
         · exact Or.inl (h.inV _ (Or.inr (Or.inr (Or.inr (Or.inr (Or.inl y))))))
         · exact Or.inr (Or.inr ⟨by omega,by rw [size_setCell];exact q7⟩)
       · simp only [Value.ownBlock,Option.some.injEq] at x
         subst x
         rcases a8 with y | y
         · exact Or.inl (h.inV _ (Or.inr (Or.inr (Or.inr (Or.inr (Or.inr y))))))
         · exact Or.inr (Or.inr ⟨by omega,by rw [size_setCell];exact q8⟩)
     inN:=fun x hx g hg=>Or.inl (h.inN x hx g hg)
     inW:=fun x hx g hg=>by
       rcases List.mem_append.1 hx with y | y
       · exact Or.inl (h.inW x y g hg)
       · simp only [List.mem_cons,List.not_mem_nil,or_false] at y
         rcases y with rfl | rfl | rfl
         · exact Or.inr (Or.inl hg)
         · rcases o1 g hg with z | z
           · exact Or.inr (Or.inl z)
           · exact Or.inr (Or.inr ⟨z,by have:=(h1.lt g hg).2;omega⟩)
         · rcases o2 g hg with z | z
           · exact Or.inr (Or.inl z)
           · exact Or.inr (Or.inr ⟨z,by have:=(h2.lt g hg).2;omega⟩)
     inF:=fun x hx g hg=>Or.inl (h.inF x hx g hg)
     lt:=fun k hk=>by
       rcases hk with x | x | x
       · have:=h.lt k x;omega
       · have:=(hl.lt k x).2;omega
       · exact x.2 }
 · refine hK.trans (KAB.mono fun k hk=> ?_)
   rcases hk with rfl | x | x
   · exact Or.inl h.inB
   · exact Or.inl (h.inV k (Or.inr (Or.inr (Or.inr (Or.inr (Or.inl x))))))
   · exact Or.inl (h.inV k (Or.inr (Or.inr (Or.inr (Or.inr (Or.inr x))))))
theorem ownsLog_any (w:World) (b:Nat) (V:BookV) (B:BookR) (S:Nat→Prop) (lv:Value) (L:List WrR) (h:BookAt w b V B S) (hl:w.ownsRow 0 104 65 lv L.length (flatW L)) (hls: ∀ c ∈ L,c.data.length=64)
   (hne: ∀ g,lv.ownBlock=some g→ ¬ S g) (hnx:B.next≤1000000000) (hfl:B.writes.length≤10000000000) (hL:L.length≤1000000000):
   Calls Tryz.prog 131 #[.pointer (some ⟨b,0,none⟩),lv] w fun e w'=>e= .returned (.tuple #[])∧
     ∃ V' B' S',BookAt w' b V' B' S'∧B'.next=B.next+1∧B'.writes.length=B.writes.length+3∧B'.files=B.files∧B'.names=B.names∧(∀ x ∈ B'.writes,x ∈ B.writes∨x.n≤L.length+2)∧
       Kept (fun k=>S k∨lv.ownBlock=some k) w w'∧(∀ k,S' k→S k∨lv.ownBlock=some k∨w.heap.size≤k):=by
 have c6:=h.cell 6
 rw [show (bookCells V B.next)[6]? = some (.int .i64 (B.next:Int)) from rfl] at c6
 have z6:=frozen_blk h.blk 6
 have h1:=h.setNext (B.next+1)
 have hni:(B.next:Int)≤1000000000:=by omega
 rw [show ((B.next+1:Nat):Int)=(B.next:Int)+1 by omega] at h1
 have d6:(w.setCell ⟨b,6,none⟩ (.int .i64 ((B.next:Int)+1))).cell? ⟨b,6,none⟩=some (.int .i64 ((B.next:Int)+1)):=by
   rw [h1.cell 6];show some (Value.int .i64 ((B.next+1:Nat):Int))=_;rw [show ((B.next+1:Nat):Int)=(B.next:Int)+1 by omega]
 have hss:=size_setCell w ⟨b,6,none⟩ (.int .i64 ((B.next:Int)+1))
 have hst: ∀ (x z:WrR),x.data.length=64→z.data.length=64→(storeWr ⟨w.heap.size,0,none⟩ (.agg (wrCells x).toArray)).run Tryz.prog ((w.setCell ⟨b,6,none⟩ (.int .i64 ((B.next:Int)+1))).alloc (.cells (wrCells z).toArray 104))= .ok () ((w.setCell ⟨b,6,none⟩ (.int .i64 ((B.next:Int)+1))).alloc (.cells (wrCells x).toArray 104)):=fun x z hx hz=>by
   have:=run_storeWr_new (w:=w.setCell ⟨b,6,none⟩ (.int .i64 ((B.next:Int)+1))) hz hx
   rwa [hss] at this
 have Hss:=hide hss
 clear hss
 go_enter Tryz.func131,Tryz.ntmps131
 go_wp2
 have hm: ∃ m:Int,-((B.next:Int)+1)=m:=⟨_,rfl⟩
 obtain ⟨m,hm⟩:=hm
 rw [hm]
 have Hm:=hide hm
 have hbx0:((w.setCell ⟨b,6,none⟩ (.int .i64 ((B.next:Int)+1))).alloc (.cells (wrCells ⟨m,zc⟩).toArray 104)).heap[w.heap.size]? = some (.cells (wrCells ⟨m,zc⟩).toArray 104 (0,0)):=by
   have:=heap_alloc_new (w.setCell ⟨b,6,none⟩ (.int .i64 ((B.next:Int)+1))) (.cells (wrCells ⟨m,zc⟩).toArray 104)
   rwa [uh Hss] at this
 have HK0:=hide (((Kept.only w b 6 (.int .i64 ((B.next:Int)+1))).mono (T:=fun k=>S k∨lv.ownBlock=some k) (fun k hk=>Or.inl (by rw [hk];exact h.inB))).alloc (.cells (wrCells ⟨m,zc⟩).toArray 104))
 have Hl0:=hide ((ownsRow_kept (Kept.only w b 6 (.int .i64 ((B.next:Int)+1))) hl (row_ne hl h.blk (by decide))).alloc (.cells (wrCells ⟨m,zc⟩).toArray 104))
 have HB0:=hide (h1.below ((Below.refl _ _).alloc (Nat.le_refl _) (.cells (wrCells ⟨m,zc⟩).toArray 104)))
 have Hbx0:=hide hbx0
 have hlt0: ∀ g,lv.ownBlock=some g→g<w.heap.size:=fun g hg=>(hl.lt g hg).2
 have Hlt0:=hide hlt0
 have Hne:=hide hne
 have HS:=hide h.lt
 obtain ⟨la,lcap,hlv⟩:=row_form hl
 subst hlv
 clear c6 z6 d6 hm h1 h hl hlt0 hne hst hbx0 Hss
 generalize (w.setCell ⟨b,6,none⟩ (.int .i64 ((B.next:Int)+1))).alloc (.cells (wrCells ⟨m,zc⟩).toArray 104)=W at*
 have hxl:(WrR.mk m zc).data.length=64:=zc_length
 have hxl2:=wrCells_length hxl
 go_loopw [5] (fun i w'=> ∃ k:Nat,k≤L.length∧i= .int .i64 k∧w'.ownsRow 0 104 65 (.slice la L.length lcap) L.length (flatW (markWTo L m k))∧BookAt w' b V { B with next:=B.next+1 } S∧Kept (fun k=>S k∨(Value.slice la L.length lcap).ownBlock=some k) w w'∧w'.heap[w.heap.size]? = some (.cells (wrCells ⟨m,zc⟩).toArray 104 (0,0))) (fun i _=>L.length - (intOf i).toNat)
 case atStart=>exact ⟨0,by omega,rfl,uh Hl0,uh HB0,uh HK0,uh Hbx0⟩
 case round=>
   obtain ⟨k,hk,rfl,hrow,hbk,hkp,hbx⟩:=hrel
   clear Hl0 HB0 HK0 Hbx0
   have l1:=hasAt_of_range (n:=65) (range_blk hbx) hxl2
   have l2:=cellsAt_of_range (n:=65) (range_blk hbx) hxl2
   by_cases hlt:k<L.length
   · obtain ⟨g,cap2,e2,_⟩:=row_some hrow (by omega)
     obtain ⟨rfl,rfl⟩:la=some ⟨g,0,none⟩∧lcap=cap2:=by injection e2 with x1 x2 x3;exact ⟨x1,x3⟩
     have hki:(k:Int)<(L.length:Int):=by omega
     have hml:=markWTo_length L m k (by omega)
     have hr2':wr.ownsRow 0 104 65 (.slice (some ⟨g,0,none⟩) (markWTo L m k).length lcap) (markWTo L m k).length (flatW (markWTo L m k)):=by rw [hml];exact hrow
     have th:=wrow_there hr2' k (by rw [hml];exact hlt)
     have hset:=wrow_set hr2' (markWTo_lens hls m k) k (by rw [hml];exact hlt) ⟨m,zc⟩ hxl
     rw [markWTo_succ L m k hlt,markWTo_length L m (k+1) (by omega),hml] at hset
     have hgw:=uh Hlt0 g rfl
     have Hset:=hide hset
     have Hbk:=hide hbk
     have Hkp:=hide hkp
     have Hbx:=hide hbx
     clear hrow hbk hkp hbx e2 hr2' hset hml
     go_wp2
     go_roundw
     case rel=>
       refine ⟨k+1,by omega,by go_num,uh Hset,?_,(uh Hkp).setCells (b:=g) (Or.inl (Or.inr rfl)) _ _,by rw [heap_setCells_other _ _ _ _ _ (by omega)];exact uh Hbx⟩
       exact (uh Hbk).kept (T:=fun x=>x=g) ((Kept.refl (fun x=>x=g) wr).setCells (b:=g) (Or.inl rfl) _ _) (fun x hx e=>uh Hne g rfl (by rw [← e];exact hx))
     case measure=>simp [intOf];omega
   · have hkL:k=L.length:=by omega
     have hfull:markWTo L m k=List.replicate L.length ⟨m,zc⟩:=by rw [hkL];unfold markWTo;rw [List.drop_length,List.append_nil]
     rw [hfull] at hrow
     have Hrow:=hide hrow
     have Hbk:=hide hbk
     have Hkp:=hide hkp
     have Hbx:=hide hbx
     have hbl:=blk_lt hbx
     clear hrow hbk hkp hkL hfull hbx
     obtain ⟨i0,hi0,hz0,hz1,hz2⟩:=info_parts Tryz.infoWr
     obtain ⟨i1,hi1,hx0,hx1,hx2⟩:=info_parts Tryz.infoSlW
     obtain ⟨i2,hi2,hw0,hw1,hw2⟩:=info_parts Tryz.infoInt
     have hzs:(Value.agg (wrCells ⟨0,zc⟩).toArray).cells.size=65:=by simp [Value.cells,wrCells_length (x:=⟨0,zc⟩) zc_length]
     have Hzs:=hide hzs
     clear hzs
     go_wp2_with (first
       | (at_builtin
          refine wpList_append_keep _ rfl _ _ _ rfl 0 104 i0 _ 65 72 Tryz.underlying58 hi0 hz0 hz1 hz2 (uh Hzs) (by omega) (.slice la L.length lcap) L.length (flatW (List.replicate L.length ⟨m,zc⟩)) rfl ((uh Hrow).alloc _) ⟨wr.heap.size,0,none⟩ 1 1 (wrCells ⟨m,zc⟩) rfl (by rw [hxl2]) (World.news_of_block (cs:=(wrCells ⟨m,zc⟩).toArray) (t:=104) (fr:=(0,0)) (heap_alloc_new wr _)) (wrCells_one _) (by omega) (by unfold maxLen;omega) (by omega) (by omega) (wr.heap.size+1) (by simp) ?_
          intro g3 cap3 w3 hown3 hcase3 hlt3
          have bx3:=hide ((case_kept hcase3).blk (fun e=>by have:=uh Hlt0 _ e;omega) ((Below.heap_alloc wr (.cells (wrCells ⟨m,zc⟩).toArray 104) _ hbl).trans (uh Hbx)))
          have l3:=hasAt_of_range (n:=65) (range_blk (uh bx3)) hxl2
          have l4:=cellsAt_of_range (n:=65) (range_blk (uh bx3)) hxl2
          have Hl3:=hide (row_still ((uh Hrow).alloc (.cells (wrCells ⟨m,zc⟩).toArray 104)) hown3 hcase3)
          have HB3:=hide (((uh Hbk).below ((Below.refl _ _).alloc (Nat.le_refl _) (.cells (wrCells ⟨m,zc⟩).toArray 104))).kept (case_kept hcase3) (fun x hx e=>uh Hne x e hx)))
       | (at_builtin
          refine wpList_append_keep _ rfl _ _ _ rfl 0 104 i0 _ 65 72 Tryz.underlying58 hi0 hz0 hz1 hz2 (uh Hzs) (by omega) (.slice la L.length lcap) L.length (flatW (List.replicate L.length ⟨m,zc⟩)) rfl ((uh Hl3).alloc _) ⟨w3.heap.size,0,none⟩ 2 2 (wrCells ⟨m,zc⟩++wrCells ⟨m,zc⟩) rfl (by rw [List.length_append,hxl2]) (World.news_of_block (cs:=(wrCells ⟨m,zc⟩++wrCells ⟨m,zc⟩).toArray) (t:=104) (fr:=(0,0)) (heap_alloc_new w3 _)) (by intro u hu;rcases List.mem_append.1 hu with x | x <;> exact wrCells_one _ u x) (by omega) (by unfold maxLen;omega) (by omega) (by omega) (w3.heap.size+1) (by simp) ?_
          intro g6 cap6 w6 hown6 hcase6 hlt6
          have B6:=hide (((uh HB3).below ((Below.refl _ _).alloc (Nat.le_refl _) (.cells (wrCells ⟨m,zc⟩++wrCells ⟨m,zc⟩).toArray 104))).kept (case_kept hcase6) (fun x hx e=>uh Hne x e hx))
          have c2:w6.cell? ⟨b,4,none⟩=some V.w:=(uh B6).cell 4)
       | (at_builtin
          refine wpList_append_lies _ rfl _ _ _ rfl 0 58 i1 _ 1 24 Tryz.underlying74 hi1 hx0 hx1 hx2 rfl (by omega) V.w B.writes.length (B.writes.map (·.v)) rfl ((uh B6).rW.alloc _) ⟨w6.heap.size,0,none⟩ 3 3 [.slice la L.length lcap,.slice (some ⟨g3,0,none⟩) (L.length+1) cap3,.slice (some ⟨g6,0,none⟩) (L.length+2) cap6] rfl rfl (World.news_of_block (cs:= #[.slice la L.length lcap,.slice (some ⟨g3,0,none⟩) (L.length+1) cap3,.slice (some ⟨g6,0,none⟩) (L.length+2) cap6]) (t:=58) (fr:=(0,0)) (heap_alloc_new w6 _)) (by simp [Value.oneCell']) (by omega) (by unfold maxLen;omega) (by omega) (by omega) (w6.heap.size+1) (by simp) ?_
          intro g7 cap7 w7 hown7 hgrow7 hat7 hlt7
          have b7:=hide (grown_blk hgrow7 ((uh B6).below ((Below.refl _ _).alloc (Nat.le_refl _) (.cells #[.slice la L.length lcap,.slice (some ⟨g3,0,none⟩) (L.length+1) cap3,.slice (some ⟨g6,0,none⟩) (L.length+2) cap6] 58))).blk (row_ne (uh B6).rW (uh B6).blk (by decide)))
          have c72:w7.cell? ⟨b,4,none⟩=some V.w:=(cell_blk (uh b7) 4).trans rfl
          have c73:w7.cell? ⟨b,5,none⟩=some V.wm:=(cell_blk (uh b7) 5).trans rfl
          have z7: ∀ i,w7.frozen? ⟨b,i,none⟩=false:=fun i=>frozen_blk (uh b7) i
          have R9:=hide (ownsRow_kept (Kept.only w7 b 4 (.slice (some ⟨g7,0,none⟩) (B.writes.length+3) cap7)) (grown_row hgrow7 ((uh B6).rWm.alloc _) (rows_ne (uh B6).rWm (uh B6).rW (by decide))) (row_ne (uh B6).rWm (uh B6).blk (by decide))))
       | fail)
     have hrep2:flatW (List.replicate L.length ⟨m,zc⟩)++(wrCells ⟨m,zc⟩++wrCells ⟨m,zc⟩)=flatW (List.replicate (L.length+2) ⟨m,zc⟩):=by rw [← List.append_assoc,repW_snoc,repW_snoc]
     have hl6:=row_still ((uh Hl3).alloc (.cells (wrCells ⟨m,zc⟩++wrCells ⟨m,zc⟩).toArray 104)) hown6 hcase6
     have h26:w6.ownsRow 0 104 65 (.slice (some ⟨g6,0,none⟩) (L.length+2) cap6) (L.length+2) (flatW (List.replicate (L.length+2) ⟨m,zc⟩)):=by rw [← hrep2];exact hown6
     have hone3:=hown3
     rw [repW_snoc] at hone3
     have hsz3:=(uh Hkp).size
     have h16:w6.ownsRow 0 104 65 (.slice (some ⟨g3,0,none⟩) (L.length+1) cap3) (L.length+1) (flatW (List.replicate (L.length+1) ⟨m,zc⟩)):=by
       have hlen1:(flatW (List.replicate (L.length+1) (WrR.mk m zc))).length=(L.length+1)*65:=by
         rw [flatW_length _ (by intro c hc;rw [List.eq_of_mem_replicate hc];exact hxl),List.length_replicate]
       rcases hcase6 with ⟨e6,hg6⟩ | ⟨_,hg6⟩
       · rcases hcase3 with ⟨e3,_⟩ | ⟨e3,_⟩
         · rw [e6] at e3
           injection e3 with x1 _ x3
           injection x1 with x1
           injection x1 with x1 _ _
           subst x1
           subst x3
           have h27:w6.ownsRow 0 104 65 (.slice (some ⟨g6,0,none⟩) (L.length+1+1) cap6) (L.length+1+1) (flatW (List.replicate (L.length+1) ⟨m,zc⟩)++wrCells ⟨m,zc⟩):=by rw [repW_snoc];exact h26
           exact row_prefix h27 hlen1
         · refine grown_row hg6 (hone3.alloc _) (fun g hg x=> ?_)
           simp only [Value.ownBlock,Option.some.injEq] at hg x
           have:=uh Hlt0 g6 (by rw [e6];rfl)
           omega
       · exact grown_row hg6 (hone3.alloc _) (fun g hg x=>by cases x)
     have o1: ∀ g,(Value.slice (some ⟨g3,0,none⟩) (L.length+1) cap3).ownBlock=some g→(Value.slice la L.length lcap).ownBlock=some g∨w.heap.size≤g:=fun g hg=>by
       simp only [Value.ownBlock,Option.some.injEq] at hg
       subst hg
       rcases hcase3 with ⟨e3,_⟩ | ⟨e3,_⟩
       · exact Or.inl (by rw [e3];rfl)
       · exact Or.inr (by omega)
     have hK3:=((uh Hkp).alloc (.cells (wrCells ⟨m,zc⟩).toArray 104)).trans ((case_kept hcase3).mono (T:=fun k=>S k∨(Value.slice la L.length lcap).ownBlock=some k) (fun k hk=>Or.inr hk))
     have o2: ∀ g,(Value.slice (some ⟨g6,0,none⟩) (L.length+2) cap6).ownBlock=some g→(Value.slice la L.length lcap).ownBlock=some g∨w.heap.size≤g:=fun g hg=>by
       simp only [Value.ownBlock,Option.some.injEq] at hg
       subst hg
       rcases hcase6 with ⟨e6,_⟩ | ⟨e6,_⟩
       · exact Or.inl (by rw [e6];rfl)
       · exact Or.inr (by have:=hK3.size;omega)
     have hK6:=(hK3.alloc (.cells (wrCells ⟨m,zc⟩++wrCells ⟨m,zc⟩).toArray 104)).trans ((case_kept hcase6).mono (T:=fun k=>S k∨(Value.slice la L.length lcap).ownBlock=some k) (fun k hk=>Or.inr hk))
     have hE: ∀ (w8:World) (g8 cap8:Nat) (X8:Obj),((w7.setCell ⟨b,4,none⟩ (.slice (some ⟨g7,0,none⟩) (B.writes.length+3) cap7)).alloc X8).drew.grownBy w8 V.wm.ownBlock→
         w8.ownsRow 0 3 1 (.slice (some ⟨g8,0,none⟩) (B.writes.length+3) cap8) (B.writes.length+3) ((B.writes.map fun x=> .int .i64 x.m)++[.int .i64 m,.int .i64 m,.int .i64 m])→(V.wm.ownBlock=some g8∨g8=w7.heap.size+1)→
         w8.heap[b]? = some (.cells (bookCells { V with w:= .slice (some ⟨g7,0,none⟩) (B.writes.length+3) cap7 } (B.next+1)).toArray 77 (0,0))→_:=
       fun w8 g8 cap8 X8 p1 p2 p3 p4=>ownsLog_end (X8:=X8) (uh B6) hl6 h16 h26 o1 o2 hK6 hgrow7 hown7 hat7 ⟨p1.os,p1.tape,p1.output,p1.size,p1.block⟩ p2 p3 p4
     have HE:=hide hE
     clear hrep2 hl6 h26 hone3 hsz3 h16 o1 o2 hK3 hK6 hE hown3 hcase3 hown6 hcase6 hown7 hgrow7 hat7
     have hss:=size_setCell w7 ⟨b,4,none⟩ (.slice (some ⟨g7,0,none⟩) (B.writes.length+3) cap7)
     have hb7':(w7.setCell ⟨b,4,none⟩ (.slice (some ⟨g7,0,none⟩) (B.writes.length+3) cap7)).heap[b]? = some (.cells (bookCells { V with w:= .slice (some ⟨g7,0,none⟩) (B.writes.length+3) cap7 } (B.next+1)).toArray 77 (0,0)):=by rw [heap_setCell_same _ _ _ _ _ _ _ (uh b7)];rfl
     have Hss:=hide hss
     have Hb7':=hide hb7'
     clear hss hb7' l1 l2 l3 l4 c2 c72 c73 z7
     generalize hW7:w7.setCell ⟨b,4,none⟩ (.slice (some ⟨g7,0,none⟩) (B.writes.length+3) cap7)=W7 at*
     have HW7:=hide hW7
     clear hW7
     have c5:W7.cell? ⟨b,5,none⟩=some V.wm:=(cell_blk (uh Hb7') 5).trans rfl
     have c6:W7.cell? ⟨b,6,none⟩=some (.int .i64 ((B.next:Int)+1)):=by
       rw [cell_blk (uh Hb7') 6];show some (Value.int .i64 ((B.next+1:Nat):Int))=_;rw [show ((B.next+1:Nat):Int)=(B.next:Int)+1 by omega]
     have c5': ∀ o,(W7.alloc o).cell? ⟨b,5,none⟩=some V.wm:=fun o=>by rw [World.cell?_alloc_lt _ _ _ (blk_lt (uh Hb7'))];exact c5
     have z7: ∀ i,W7.frozen? ⟨b,i,none⟩=false:=fun i=>frozen_blk (uh Hb7') i
     have hwr:IntKind.i64.wrap (-((B.next:Int)+1))=m:=by rw [IntWalk.i64_in _ (by omega)];exact uh Hm
     go_region_law ((refine step_append_lies _ (by rfl) _ _ _ (by rfl) 0 3 i2 _ 1 8 Tryz.underlying75 hi2 hw0 hw1 hw2 rfl (by omega) V.wm B.writes.length (B.writes.map fun x=> .int .i64 x.m) (by rfl) (((uh R9).alloc _).drew) ⟨W7.heap.size,0,none⟩ 3 3 [.int .i64 m,.int .i64 m,.int .i64 m] (by rfl) (by rfl) (World.news_of_block (cs:= #[.int .i64 m,.int .i64 m,.int .i64 m]) (t:=3) (fr:=(0,0)) (heap_alloc_new W7 _)) (by simp [Value.oneCell']) (by omega) (by unfold maxLen;omega) (by omega) (by omega) (W7.heap.size+1) (by simp) ?_;intro g8 cap8 w8 hown8 hgrow8 hat8 hlt8;have b8:=hide (grown_blk hgrow8 ((Below.heap_alloc _ _ _ (blk_lt (uh Hb7'))).trans (uh Hb7')) (fun g hg=>row_ne (uh B6).rWm (uh B6).blk (by decide) g hg));have c83:w8.cell? ⟨b,5,none⟩=some V.wm:=(cell_blk (uh b8) 5).trans rfl;have z8: ∀ i,w8.frozen? ⟨b,i,none⟩=false:=fun i=>frozen_blk (uh b8) i))
     all_goals
       go_wp2
       go_end0
       exact ⟨rfl,uh HE w8 g8 cap8 _ hgrow8 hown8 (by rw [← uh Hss];exact hat8) (uh b8)⟩
end Go.Proofs.YtknjjjenklfeoaaGreatDoor
