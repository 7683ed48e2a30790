import Derived.Test.YtknjjjenklfeoaaGreatDoorT13
import Derived.Test.YtknjjjenklfeoaaGreatDoorT03
set_option maxHeartbeats 8000000
set_option maxRecDepth 100000
namespace Go.Proofs.YtknjjjenklfeoaaGreatDoor
open Go.RowKit Go.Shelf
theorem nv_one (T:List Nat): ∀ v ∈ nv T,v.oneCell'=true:=by
 intro v hv
 simp only [nv,List.mem_map] at hv
 obtain ⟨b,_,rfl⟩:=hv
 rfl
def loadUse (a:Addr):Sem Value:=loadVar 161 a
theorem loadVar_use (a:Addr):loadVar 161 a=loadUse a:=rfl
theorem run_loadUse {w:World} {b o:Nat} (h:HasAt w b o 256):(loadUse ⟨b,o,none⟩).run Tryz.prog w= .ok (.agg (cellsAt w b o 256).toArray) w:=
 run_loadVar_has h 161 _ Tryz.underlying161 rfl (by kernel_rfl)
def storeUse (a:Addr) (v:Value):Sem Unit:=storeVar 161 a v
theorem storeVar_use (a:Addr) (v:Value):storeVar 161 a v=storeUse a v:=rfl
theorem run_storeUse_new {w:World} {z T:List Nat} (hz:z.length=256) (hT:T.length=256):
   (storeUse ⟨w.heap.size,0,none⟩ (.agg (nv T).toArray)).run Tryz.prog (w.alloc (.cells (nv z).toArray 161))= .ok () (w.alloc (.cells (nv T).toArray 161)):=
 run_storeVar_new w 161 (nv z).toArray (nv T).toArray (by simp only [List.size_toArray,nv_length,hT];kernel_rfl) (by simp [nv_length,hz,hT]) (all_oneCell_toArray (nv_one T))
theorem run_storeUse {w:World} {b o:Nat} {T:List Nat} (ht:w.there b o 256) (hT:T.length=256):(storeUse ⟨b,o,none⟩ (.agg (nv T).toArray)).run Tryz.prog w= .ok () (w.setCells b o (nv T)):=by
 have:=run_storeVar_mid (P:=Tryz.prog) w b o 161 (nv T).toArray (by simpa [nv_length,hT] using ht) (by simp only [List.size_toArray,nv_length,hT];kernel_rfl) (all_oneCell_toArray (nv_one T))
 simpa [storeUse] using this
theorem all_store {w:World} {b:Nat} {cs:List Value} {vs:List Value} {t:TypeId} {fr:Nat × Nat} (h:w.heap[b]? = some (.cells cs.toArray t fr)) (hl:cs.length=vs.length):(w.setCells b 0 vs).heap[b]? = some (.cells vs.toArray t fr):=by
 rw [heap_setCells_same _ _ _ _ _ _ _ h]
 congr 2
 apply Array.ext_getElem?
 intro i
 rw [setList_get _ _ _ _ (by simp [hl]),List.getElem?_toArray,List.getElem?_toArray]
 by_cases hi:i<vs.length
 · rw [if_pos (by omega),Nat.sub_zero]
 · rw [if_neg (by omega),List.getElem?_eq_none (by omega),List.getElem?_eq_none (by omega)]
def zeroUse:Sem Value:=zeroValue 161
theorem zeroValue_use:zeroValue 161=zeroUse:=rfl
theorem run_zeroUse (w:World):zeroUse.run Tryz.prog w= .ok (.agg (nv zI).toArray) w:=
 (zero_of_info (P:=Tryz.prog) (t:=161) (v:= .agg (nv zI).toArray) (n:=256) (by kernel_rfl)).1 w
attribute [local go_sem ↓] loadVar_use storeVar_use zeroValue_use
attribute [local go_sem] run_loadUse run_storeUse run_storeUse_new run_zeroUse zI_length
attribute [local go_sem] Oper.semAt_some
def onesTo (k:Nat):List Nat:=List.replicate k 1++List.replicate (256 - k) 0
theorem onesTo_length (k:Nat) (hk:k≤256):(onesTo k).length=256:=by simp [onesTo];omega
theorem onesTo_succ (k:Nat) (hk:k<256):(onesTo k).set k 1=onesTo (k+1):=by
 unfold onesTo
 rw [List.set_append_right _ _ (by simp),List.length_replicate,Nat.sub_self,show 256 - k=(256 - (k+1))+1 by omega,List.replicate_succ,List.set_cons_zero,List.replicate_succ',List.append_assoc]
 rfl
def bumps (M:List Nat) (us:List Nat):List Nat:=us.foldl bump M
theorem bumps_snoc (M us:List Nat) (u:Nat):bumps M (us++[u])=bump (bumps M us) u:=by simp [bumps]
theorem bumps_length (M us:List Nat):(bumps M us).length=M.length:=by
 unfold bumps
 induction us generalizing M with
 | nil=>rfl
 | cons a r ih=>simp only [List.foldl_cons];rw [ih,bump_length]
theorem bumps_most {b:Nat} (us:List Nat): ∀ {M:List Nat},AtMost b M→AtMost (b+us.length) (bumps M us):=by
 induction us generalizing b with
 | nil=>intro M h;exact h
 | cons a r ih=>
   intro M h
   have:=ih (bump_most h a)
   rw [List.length_cons,show b+(r.length+1)=b+1+r.length by omega]
   exact this
def useAll (V:VolR) (fs:List Nat):List Nat:=bumps (onesTo 6) (fs.flatMap (heldAll V.C))
def usesOf (V:VolR):List Nat:=useAll V (firstsOf V)
theorem useAll_snoc (V:VolR) (fs:List Nat) (f:Nat):useAll V (fs++[f])=bumps (useAll V fs) (heldAll V.C f):=by
 unfold useAll bumps
 rw [List.flatMap_append,List.foldl_append,List.flatMap_cons,List.flatMap_nil,List.append_nil]
theorem useAll_length (V:VolR) (fs:List Nat):(useAll V fs).length=256:=by unfold useAll;rw [bumps_length];exact onesTo_length 6 (by omega)
theorem onesTo_most (k:Nat):AtMost 1 (onesTo k):=fun n=>by
 unfold onesTo
 rw [List.getD_eq_getElem?_getD]
 by_cases h:n<k
 · rw [List.getElem?_append_left (by simpa using h),List.getElem?_replicate,if_pos h];exact Nat.le_refl _
 · rw [List.getElem?_append_right (by simpa using h),List.getElem?_replicate]
   split <;> simp
theorem below_turned {w W W':World} {row:Option Nat} (h:Below w.heap.size w W) (hg:W.grownBy W' row) (hr: ∀ r,row=some r→w.heap.size≤r):Below w.heap.size w W':=
 ⟨hg.os.trans h.os,hg.tape.trans h.tape,hg.output.trans h.output,Nat.le_trans h.size hg.size,fun i hi=>by
   rw [hg.block i (Nat.lt_of_lt_of_le hi h.size) (fun e=>by have:=hr i e.symm;omega)];exact h.block i hi⟩
theorem ownFrom_keepVY {X Y:Nat→Prop} {v:Nat} {R:VolR→VolR→Prop} (hR: ∀ a,R a a) (hRt: ∀ a b c,R a b→R b c→R a c) {β:Type} {W0:World} {B':Nat} (hB:W0.heap.size≤B'):OwnFrom B' (fun (_:β) W=>KeepV X Y v R W0 W):=
 fun _ A B row hs hg hr=>⟨Nat.le_trans hs.1 hg.size,fun k o ho hc hy=>by
     have h1:=hs.2.1 k o ho hc hy
     rw [hg.block k (blk_lt h1) (fun e=>by have:=(hr k e.symm).1;have:=blk_lt ho;omega)]
     exact h1,
   ((hs.weak (Y':=fun _=>False) (fun _ h=>False.elim h)).trans hRt (KeepV.turned hR hg (fun r e=>(hr r e).2))).2.2⟩
def valsM {Pc:Nat→Prop} (pre:List (UM Pc)):List Nat:=pre.map fun y=>y.1
theorem valsM_snoc {Pc:Nat→Prop} (pre:List (UM Pc)) (x:UM Pc):valsM (pre++[x])=valsM pre++[x.1]:=by simp [valsM]
theorem heldAll_len {V:VolR} {f:Nat} (h:FirstOK V f):(heldAll V.C f).length≤1057:=by
 have h1:=flatS_len (spots V f h.2)
 have h2:=spots_len V f h.2
 have h3:=told_nums V f h
 have h4:(toldAll V.C f).length=(toldSpots V f h).length:=by rw [← h3];simp [numsS]
 unfold heldAll
 rw [List.length_cons,h4]
 unfold toldSpots
 omega
theorem useAll_most {V:VolR}: ∀ fs:List Nat,(∀ f ∈ fs,FirstOK V f)→AtMost (1+1057*fs.length) (useAll V fs):=by
 intro fs hfs
 have hl:(fs.flatMap (heldAll V.C)).length≤1057*fs.length:=by
   induction fs with
   | nil=>simp
   | cons a r ih=>
     have h1:=ih (fun f hf=>hfs f (List.mem_cons_of_mem _ hf))
     have h2:=heldAll_len (hfs a (List.mem_cons_self ..))
     rw [List.flatMap_cons,List.length_append,List.length_cons]
     omega
 intro n
 have:=bumps_most (fs.flatMap (heldAll V.C)) (onesTo_most 6) n
 unfold useAll
 omega
structure UseAt (w W:World) (v:Nat) (M:List Nat) (R:List Nat:=zI):Prop where
 below:Below w.heap.size w W
 bv:W.heap[w.heap.size]? = some (.cells #[.pointer (some ⟨v,0,none⟩)] 82 (0,0))
 br:W.heap[w.heap.size+1]? = some (.cells (nv R).toArray 161 (0,0))
 bu:W.heap[w.heap.size+1+1]? = some (.cells (nv M).toArray 161 (0,0))
theorem UseAt.later {w W W':World} {v:Nat} {M:List Nat} (h:UseAt w W v M) (hb:Below W.heap.size W W'):UseAt w W' v M:=
 ⟨h.below.trans (hb.mono h.below.size),(hb.block _ (blk_lt h.bv)).trans h.bv,(hb.block _ (blk_lt h.br)).trans h.br,(hb.block _ (blk_lt h.bu)).trans h.bu⟩
theorem UseAt.turned {w W W':World} {v B:Nat} {M:List Nat} {row:Option Nat} (h:UseAt w W v M) (hB:w.heap.size+3≤B) (hg:W.grownBy W' row) (hr: ∀ r,row=some r→B≤r∧ ∃ o:Obj,W.heap[r]? = some o∧o.isCells=false):UseAt w W' v M:=
 ⟨below_turned h.below hg (fun r e=>by have:=(hr r e).1;omega),blk_turn hg hr h.bv (by omega),blk_turn hg hr h.br (by omega),blk_turn hg hr h.bu (by omega)⟩
theorem UseAt.answer {w W:World} {v:Nat} {M:List Nat} (h:UseAt w W v M) (hM:M.length=256):UseAt w (W.setCells (w.heap.size+1) 0 (nv M)) v M M:=by
 have hk:=Kept.onlys W (w.heap.size+1) 0 (nv M)
 refine ⟨?_,hk.blk (by omega) h.bv,all_store h.br (by rw [nv_length,nv_length,zI_length,hM]),hk.blk (by omega) h.bu⟩
 exact ⟨hk.os.trans h.below.os,hk.tape.trans h.below.tape,hk.output.trans h.below.output,Nat.le_trans h.below.size hk.size,fun i hi=>by
     rw [hk.block i (Nat.lt_of_lt_of_le hi h.below.size) (by omega)];exact h.below.block i hi⟩
theorem UseAt.shut {w W:World} {v D:Nat} {M R:List Nat} (h:UseAt w W v M R) (hD:w.heap.size+3≤D):UseAt w (W.putObj D (.deferred none)) v M R:=by
 have hg:=grownBy_putObj' W D (.deferred none)
 have hk:Kept (fun k=>k=D) W (W.putObj D (.deferred none)):=⟨hg.os,hg.tape,hg.output,hg.size,fun k hk hs=>hg.block k hk (fun e=>hs (by injection e))⟩
 refine ⟨?_,hk.blk (by omega) h.bv,hk.blk (by omega) h.br,hk.blk (by omega) h.bu⟩
 exact ⟨hk.os.trans h.below.os,hk.tape.trans h.below.tape,hk.output.trans h.below.output,Nat.le_trans h.below.size hk.size,fun i hi=>by
     rw [hk.block i (Nat.lt_of_lt_of_le hi h.below.size) (by omega)];exact h.below.block i hi⟩
theorem UseAt.put {w W:World} {v:Nat} {M:List Nat} (h:UseAt w W v M) (x:Nat) (n:Nat):UseAt w (W.setCell ⟨w.heap.size+1+1,x,none⟩ (.int .i64 (n:Nat))) v (M.set x n):=by
 have hk:=Kept.only W (w.heap.size+1+1) x (.int .i64 (n:Nat))
 refine ⟨?_,hk.blk (by omega) h.bv,hk.blk (by omega) h.br,?_⟩
 · exact ⟨hk.os.trans h.below.os,hk.tape.trans h.below.tape,hk.output.trans h.below.output,Nat.le_trans h.below.size hk.size,fun i hi=>by
     rw [hk.block i (Nat.lt_of_lt_of_le hi h.below.size) (by omega)];exact h.below.block i hi⟩
 · rw [heap_setCell_same _ _ _ _ _ _ _ h.bu,List.setIfInBounds_toArray]
   unfold nv
   rw [List.map_set]
   rfl
theorem uses_in (w:World) (v:Nat) (Cv Lv:Value) (V:VolR) (h:VolAt w v Cv Lv V) (h5:5<V.C.length) (hC:V.C.length≤256) (hF: ∀ f ∈ firstsOf V,FirstOK V f):
   CallsIn Fence.wide 100 Tryz.prog 99 #[.pointer (some ⟨v,0,none⟩)] w fun e w'=>e= .returned (.agg (nv (usesOf V)).toArray)∧Below w.heap.size w w':=by
 refine callsIn_of_wp_marks Tryz.func99 rfl trivial ?_ rfl
 simp only [Tryz.ntmps99,List.size_toArray,List.length_cons,List.length_nil,Nat.reduceAdd,Nat.reduceSub,Array.replicate_succ,Array.replicate_zero,List.push_toArray,List.append_toArray,List.nil_append,List.cons_append]
 have U0:UseAt w (((w.alloc (.cells #[.pointer (some ⟨v,0,none⟩)] 82)).alloc (.cells (nv zI).toArray 161)).alloc (.cells (nv zI).toArray 161)) v (onesTo 0):=by
   refine ⟨((((Below.refl _ w).alloc (Nat.le_refl _) _).alloc (by simp) _).alloc (by simp;omega) _),?_,?_,?_⟩
   · exact (Below.heap_alloc _ _ _ (by simp;omega)).trans ((Below.heap_alloc _ _ _ (by simp)).trans (heap_alloc_new w _))
   · exact (Below.heap_alloc _ _ _ (by simp)).trans (by have:=heap_alloc_new (w.alloc (.cells #[.pointer (some ⟨v,0,none⟩)] 82)) (.cells (nv zI).toArray 161);rwa [World.size_alloc] at this)
   · have:=heap_alloc_new ((w.alloc (.cells #[.pointer (some ⟨v,0,none⟩)] 82)).alloc (.cells (nv zI).toArray 161)) (.cells (nv zI).toArray 161)
     rwa [World.size_alloc,World.size_alloc] at this
 have U0:=hide U0
 have H:=hide h
 clear h
 gi_wp2
 generalize ((w.alloc (.cells #[.pointer (some ⟨v,0,none⟩)] 82)).alloc (.cells (nv zI).toArray 161)).alloc (.cells (nv zI).toArray 161)=wa at*
 gi_loopw [4,7] (fun _ i wr=> ∃ k:Nat,k≤6∧i= .int .i64 k∧UseAt w wr v (onesTo k)) (fun _ i _=>6 - (intOf i).toNat)
 case atStart=>exact ⟨0,by omega,rfl,uh U0⟩
 case round=>
   obtain ⟨k,hk,rfl,hU⟩:=hrel
   clear U0
   by_cases hlt:k<6
   · have hki:(k:Int)<6:=by omega
     have hki2:(k:Int)<256:=by omega
     have U1:=hide (by have:=hU.put k 1;rwa [onesTo_succ k (by omega)] at this)
     have cu:wr.cell? ⟨w.heap.size+1+1,k,none⟩=some (.int .i64 (((onesTo k).getD k 0:Nat):Int)):=by
       rw [cell_blk hU.bu,List.getElem?_toArray,nv_get _ _ (by rw [onesTo_length k (by omega)];omega)]
     have fu:=frozen_blk hU.bu
     clear hU
     gi_wp2
     go_roundw
     case rel=>exact ⟨k+1,by omega,by go_num,uh U1⟩
     case measure=>simp [intOf];omega
   · have hk6:k=6:=by omega
     subst hk6
     have cv0:wr.cell? ⟨w.heap.size,0,none⟩=some (.pointer (some ⟨v,0,none⟩)):=(cell_blk hU.bv 0).trans rfl
     have Hm:=hide (firsts_make wr v)
     have hbr:=blk_lt hU.bu
     have U1:=hide hU
     clear hU
     gi_wp2_with fail
     refine ⟨trivial,(callsIn_wide.2 (uh Hm)).mono ?_⟩
     rintro e W3 ⟨rfl,hW3⟩
     have hs3:wr.heap.size+1≤W3.heap.size:=by rw [hW3];simp
     have hb3:Below wr.heap.size wr W3:=by rw [hW3];exact (Below.refl _ _).alloc (Nat.le_refl _) _
     have hbx:W3.heap[wr.heap.size]? = some (.cells #[.pointer (some ⟨v,0,none⟩)] 82 (0,0)):=by rw [hW3];exact heap_alloc_new _ _
     have U3:=(uh U1).later hb3
     have hV3:=(uh H).below U3.below
     have hFA:=firsts_all (Pc:=FirstOK V) 99 (by omega) (fun k=>k=w.heap.size+1+1) v wr.heap.size (W3.heap.size+2) V Cv Lv W3 hV3 hbx (by omega) (fun hf=>by have:=((uh H).below (uh U1).below).foot_lt _ hf;omega) (fun k hk=>by rw [hk];omega) h5 hF
     have U3:=hide U3
     clear U1 hV3 hbx hb3 hW3 Hm cv0
     gi_wp2_with fail
     refine range_all (by omega) (gf:=173) (lb:= #[.pointer (some ⟨wr.heap.size,0,none⟩)]) rfl (enters_of Tryz.func173 (by kernel_rfl) rfl) hFA
       (fun A B C h k=>KeepV.trans (R:=SameNum) (fun _ _ _ a b=>a.trans b) h k) (fun W o o' hl hc=>KeepV.turn SameNum.refl W _ o o' hl hc (by omega)) (Below.refl _ _) (fun _=>rfl)
       (fun pre W'=>UseAt w W' v (useAll V (valsM pre)))
       (fun _ _ _ _ hs hg hr=>UseAt.turned hs (by omega) hg hr)
       (uh U3)
       (fun x a' _=>a'={ tmps:= #[.pointer (some ⟨v,0,none⟩),.pointer (some ⟨w.heap.size,0,none⟩),.pointer (some ⟨w.heap.size+1,0,none⟩),.pointer (some ⟨w.heap.size+1+1,0,none⟩),u4,.int .i64 ((x.1:Nat):Int),undef,.int .i64 ((6:Nat):Int),.bool false,u9,u10,u11,u12,.pointer (some ⟨v,0,none⟩),.func (.func 173) #[] #[.pointer (some ⟨wr.heap.size,0,none⟩)],.int .i64 ((x.1:Nat):Int),undef,undef,undef,undef,undef,undef,undef,undef,undef,undef],defers:=[] })
       (fun _ _ _ _ _ _ hs _ _=>hs)
       ?assign ?body ?done
     case assign=>
       rintro l pre x W' K hi hK
       gi_wp2
       exact hK _ _ (KeepsFrom.refl _ _) (KeepV.below SameNum.refl (Below.refl _ _)) hi rfl
     case done=>
       rintro D ys W' hD hS hU hK
       have hS':valsM ys=firstsOf V:=hS
       rw [hS'] at hU
       have l1:=blk_has hU.bu (n:=256) (by rw [nv_length,useAll_length])
       have l2:=blk_cells hU.bu (n:=256) (by rw [nv_length,useAll_length])
       have ht:=there_blk hU.br 0 256 (by simp [nv_length,zI_length])
       have hml:=useAll_length V (firstsOf V)
       have U5:=hide ((hU.answer hml).shut (D:=D) (by omega))
       have hK5:(W'.setCells (w.heap.size+1) 0 (nv (useAll V (firstsOf V)))).heap[D]? = some (.deferred (some [])):=(Kept.onlys W' (w.heap.size+1) 0 (nv (useAll V (firstsOf V)))).blk (by omega) hK
       have hR:Hid (usesOf V=useAll V (firstsOf V)):=rfl
       clear hU hK hS hS' hFA U3
       generalize useAll V (firstsOf V)=M at*
       gi_wp2
       refine ⟨by simp,.inl ⟨_,_,rfl,run_takeDeferred hK5,?_⟩⟩
       have n3:=blk_has (uh U5).br (n:=256) (by rw [nv_length,hml])
       have n4:=blk_cells (uh U5).br (n:=256) (by rw [nv_length,hml])
       refine ⟨_,results_cell rfl ⟨w.heap.size+1,0,none⟩ rfl (v:= .agg (nv M).toArray) (by rw [loadVar_use,run_loadUse n3,n4]),?_,(uh U5).below⟩
       rw [uh hR]
     case body=>
       rintro l pre x a' W hl ⟨r,hr⟩ hU rfl hlen
       obtain ⟨x,hx⟩:=x
       have cv0:W.cell? ⟨w.heap.size,0,none⟩=some (.pointer (some ⟨v,0,none⟩)):=(cell_blk hU.bv 0).trans rfl
       have Hm:=hide (held_make W v x)
       have U1:=hide hU
       have hbr2:=blk_lt hU.bu
       clear hU hFA
       dsimp only
       gi_wp2_with fail
       refine ⟨trivial,(CallsIn.inRound l (callsIn_wide.2 (uh Hm))).mono ?_⟩
       rintro e wc ⟨rfl,hwc⟩
       have hs5:W.heap.size+2≤wc.heap.size:=by rw [hwc];simp
       have hb5:Below W.heap.size W wc:=by rw [hwc];exact ((Below.refl _ _).alloc (Nat.le_refl _) _).alloc (by simp) _
       have hb1:wc.heap[W.heap.size]? = some (.cells #[.pointer (some ⟨v,0,none⟩)] 82 (0,0)):=by rw [hwc];exact (Below.heap_alloc _ _ _ (by simp)).trans (heap_alloc_new _ _)
       have hb2:wc.heap[W.heap.size+1]? = some (.cells #[.int .i64 (x:Nat)] 3 (0,0)):=by rw [hwc];have:=heap_alloc_new (W.alloc (.cells #[.pointer (some ⟨v,0,none⟩)] 82)) (.cells #[.int .i64 (x:Nat)] 3);rwa [World.size_alloc] at this
       have U5:=(uh U1).later hb5
       have hV5:=(uh H).below U5.below
       have hVW:=(uh H).below (uh U1).below
       have hr5:wc.heap[l]? = some (.loop r):=(hb5.block _ (blk_lt hr)).trans hr
       have hHA:=held_all 97 (by omega) (fun k=>k=w.heap.size+1+1) v W.heap.size (W.heap.size+1) x (wc.heap.size+1) V Cv Lv wc hV5 hC hb1 hb2 (by omega) (by omega) (fun hf=>by have:=hVW.foot_lt _ hf;omega) (fun hf=>by have:=hVW.foot_lt _ hf;omega) (fun k hk=>by rw [hk];omega) hx
       have hKF5:KeepsFrom W3.heap.size W wc:=⟨hb5.size,fun k o _ hk _=>(hb5.block k (blk_lt hk)).trans hk⟩
       have hK5:KeepV (fun k=>k=w.heap.size+1+1) (fun k=>W3.heap.size+2≤k) v SameNum W wc:=KeepV.below SameNum.refl hb5
       have hmost:=useAll_most (V:=V) (valsM pre) (fun f hf=>by obtain ⟨y,_,rfl⟩:=List.mem_map.1 hf;exact y.2)
       have hpl:(valsM pre).length≤4:=by have:(valsM pre).length=pre.length:=List.length_map _;omega
       have hsn:useAll V (valsM (pre++[⟨x,hx⟩]))=bumps (useAll V (valsM pre)) (heldAll V.C x):=by rw [valsM_snoc,useAll_snoc]
       have hml:=useAll_length V (valsM pre)
       have U5:=hide U5
       clear U1 hV5 hb1 hb2 hwc Hm cv0 hr hVW
       generalize useAll V (valsM pre)=M at*
       gi_wp2_with fail
       refine range_inA (l₀:=l) (r₀:=r) hr5 (by omega) (gf:=166) (lb:= #[.pointer (some ⟨W.heap.size+1,0,none⟩),.pointer (some ⟨W.heap.size,0,none⟩)]) rfl (enters_of Tryz.func166 (by kernel_rfl) rfl) hHA
         (fun A B C h k=>KeepV.trans (R:=EqV) (fun _ _ _ a b=>Eq.trans a b) h k) (fun W o o' hl hc=>KeepV.turn (R:=EqV) (fun _=>rfl) W _ o o' hl hc (by omega)) (Below.refl _ _) (fun _=>rfl)
         (fun ip W'=>UseAt w W' v (bumps M (valsU ip))∧KeepsFrom W3.heap.size W W'∧KeepV (fun k=>k=w.heap.size+1+1) (fun k=>W3.heap.size+2≤k) v SameNum W W')
         (fun s A B row hs hg hr=>⟨UseAt.turned hs.1 (by omega) hg hr,ownFrom_keepsFrom (β:=Unit) hb5.size () A B row hs.2.1 hg hr,ownFrom_keepVY (R:=SameNum) SameNum.refl (fun _ _ _ a b=>a.trans b) (β:=Unit) hb5.size () A B row hs.2.2 hg hr⟩)
         ⟨uh U5,hKF5,hK5⟩
         (fun y a' _=>a'={ tmps:= #[.pointer (some ⟨v,0,none⟩),.pointer (some ⟨w.heap.size,0,none⟩),.pointer (some ⟨w.heap.size+1,0,none⟩),.pointer (some ⟨w.heap.size+1+1,0,none⟩),u4,.int .i64 ((x:Nat):Int),.int .i64 ((y.1:Nat):Int),.int .i64 ((6:Nat):Int),.bool false,u9,u10,u11,u12,.pointer (some ⟨v,0,none⟩),.func (.func 173) #[] #[.pointer (some ⟨wr.heap.size,0,none⟩)],.int .i64 ((x:Nat):Int),.pointer (some ⟨v,0,none⟩),.int .i64 ((x:Nat):Int),.func (.func 166) #[] #[.pointer (some ⟨W.heap.size+1,0,none⟩),.pointer (some ⟨W.heap.size,0,none⟩)],.int .i64 ((y.1:Nat):Int),undef,undef,undef,undef,undef,undef],defers:=[] })
         (fun _ _ _ _ _ _ hs _ _=>hs) ?assign2 ?body2 ?done2
       case assign2=>
         rintro l2 ip y W' K hi hK
         gi_wp2
         exact hK _ _ (KeepsFrom.refl _ _) (KeepV.below (R:=EqV) (fun _=>rfl) (Below.refl _ _)) hi rfl
       case done2=>
         rintro ip W' hS ⟨g1,g2,g3⟩
         have hS':valsU ip=heldAll V.C x:=hS
         rw [hS'] at g1
         have G0:=hide g1
         rw [← hsn] at g1
         have G1:=hide g1
         have G2:=hide g2
         have G3:=hide g3
         clear g1 g2 g3
         gi_wp2
         repeat (first | exact uh G0 | exact uh G1 | exact uh G2 | exact uh G3 | refine ⟨?_,?_⟩)
       case body2=>
         rintro l2 ip ⟨y,hy⟩ a' W' hl2 _ ⟨g1,g2,g3⟩ rfl hip
         have hbm:=bumps_most (valsU ip) hmost y
         have hil:(valsU ip).length=ip.length:=List.length_map _
         have hsb:bumps M (valsU (ip++[⟨y,hy⟩]))=bump (bumps M (valsU ip)) y:=by rw [valsU_snoc,bumps_snoc]
         have hbl:=bumps_length M (valsU ip)
         have hyi:(y:Int)<256:=by omega
         have hV':=(uh H).below g1.below
         generalize bumps M (valsU ip)=N at*
         have c1:W'.cell? ⟨w.heap.size+1+1,y,none⟩=some (.int .i64 ((N.getD y 0:Nat):Int)):=by
           rw [cell_blk g1.bu,List.getElem?_toArray,nv_get _ _ (by omega)]
         have f1:=frozen_blk g1.bu
         have hNi:((N.getD y 0:Nat):Int)≤10000:=by omega
         have U6:=g1.put y (N.getD y 0+1)
         rw [show N.set y (N.getD y 0+1)=bump N y from rfl,← hsb,show ((N.getD y 0+1:Nat):Int)=((N.getD y 0:Nat):Int)+1 by omega] at U6
         have hown: ∀ k,k=w.heap.size+1+1→k=w.heap.size+1+1∧ ¬ foot v Cv Lv k∧ ∃ o,W'.heap[k]? = some o∧o.isCells=true:=fun k e=>by
           subst e
           exact ⟨rfl,fun hf=>by have:=(uh H).foot_lt _ hf;omega,_,g1.bu,rfl⟩
         have K3:KeepV (fun k=>k=w.heap.size+1+1) (fun k=>wc.heap.size+1≤k) v EqV W' (W'.setCell ⟨w.heap.size+1+1,y,none⟩ (.int .i64 (((N.getD y 0:Nat):Int)+1))):=KeepV.own hV' (Kept.only _ _ _ _) hown rfl
         have K4:KeepV (fun k=>k=w.heap.size+1+1) (fun k=>W3.heap.size+2≤k) v SameNum W' (W'.setCell ⟨w.heap.size+1+1,y,none⟩ (.int .i64 (((N.getD y 0:Nat):Int)+1))):=KeepV.own hV' (Kept.only _ _ _ _) hown (SameNum.refl _)
         have K5:=hide (g3.trans (fun _ _ _ a b=>a.trans b) K4)
         have hf:=hide ((KeepsOthers.setCell W' ⟨w.heap.size+1+1,y,none⟩ (.int .i64 (((N.getD y 0:Nat):Int)+1))).from wc.heap.size)
         have hf2:=hide (g2.trans ((KeepsOthers.setCell W' ⟨w.heap.size+1+1,y,none⟩ (.int .i64 (((N.getD y 0:Nat):Int)+1))).from W3.heap.size))
         have U6:=hide U6
         have K3:=hide K3
         clear g1 g2 g3 K4 hown hsb hV' hbm hmost hHA
         generalize N.getD y 0=q at*
         gi_wp2
         repeat (first | exact uh hf | exact uh K3 | exact uh U6 | exact uh hf2 | exact uh K5 | refine ⟨?_,?_⟩)
end Go.Proofs.YtknjjjenklfeoaaGreatDoor
namespace Go.Proofs.YtknjjjenklfeoaaGreatDoor
open Go.RowKit Go.Shelf
attribute [local go_sem ↓] loadVar_use storeVar_use zeroValue_use
attribute [local go_sem] run_loadUse run_storeUse run_storeUse_new run_zeroUse zI_length
attribute [local go_sem] Oper.semAt_some
def rawBy (ns:List Nat):List Nat:=ns.filter (· != 0)
def rawAll (C:List Clus) (f:Nat):List Nat:=(rawBy (numsOf (cl C f))).flatMap fun s=>s :: rawBy (numsOf (cl C (s%32768)))
theorem spots_rawTo {Pc:Nat→Prop} (t:Nat) (T:List Nat) (hT: ∀ i,OKN Pc (T.getD i 0)) (hl:T.length=32): ∀ k hk,(spotsTo t T hT k hk).map (fun s=>s.number)=rawBy (T.take k)
 | 0,_=>rfl
 | k+1,hk=>by
   have ih:=spots_rawTo t T hT hl k (by omega)
   have hlt:k<T.length:=by omega
   have hg:T.getD k 0=T[k]:=by rw [List.getD_eq_getElem?_getD,List.getElem?_eq_getElem hlt];rfl
   have ht:rawBy (T.take (k+1))=rawBy (T.take k)++(if T.getD k 0=0 then [] else [T.getD k 0]):=by
     rw [List.take_succ_eq_append_getElem hlt,hg]
     unfold rawBy
     rw [List.filter_append]
     congr 1
     by_cases h:T[k]=0
     · simp [h]
     · simp [h]
   rw [ht]
   by_cases h0:T.getD k 0=0
   · rw [spotsTo_zero t T hT k hk h0,ih,if_pos h0,List.append_nil]
   · rw [spotsTo_some t T hT k hk h0,List.map_append,ih,if_neg h0]
     rfl
theorem spots_raw {Pc:Nat→Prop} (V:VolR) (t:Nat) (hT:NumsOK Pc V.C t):(spots V t hT).map (fun s=>s.number)=rawBy (numsOf (cl V.C t)):=by
 have:=spots_rawTo t (numsOf (cl V.C t)) hT (numsOf_length _) 32 (Nat.le_refl _)
 rw [List.take_of_length_le (by rw [numsOf_length];exact Nat.le_refl _)] at this
 exact this
def rawS {V:VolR} (ss:List (SpotR (InR V))):List Nat:=ss.map fun s=>s.number
theorem rawS_snoc {V:VolR} (ss:List (SpotR (InR V))) (s:SpotR (InR V)):rawS (ss++[s])=rawS ss++[s.number]:=by simp [rawS]
theorem flatS_raw {V:VolR}: ∀ ss:List (SpotR (TabOK V)),rawS (flatS ss)=(ss.map fun s=>s.number).flatMap fun s=>s :: rawBy (numsOf (cl V.C (s%32768)))
 | []=>rfl
 | s :: ss=>by
   have h1:flatS (s :: ss)=(downS s :: spots V (s.number%32768) s.hc.2)++flatS ss:=by simp [flatS]
   have h2:=flatS_raw ss
   have h3:=spots_raw V (s.number%32768) s.hc.2
   unfold rawS at h2 ⊢
   rw [h1,List.map_append,h2,List.map_cons,List.map_cons,List.flatMap_cons,h3]
   rfl
theorem told_raw (V:VolR) (first:Nat) (h:FirstOK V first):rawS (toldSpots V first h)=rawAll V.C first:=by
 unfold toldSpots rawAll
 rw [flatS_raw,spots_raw]
def lackB (M:List Nat) (n:Nat):Bool:=decide (M.getD (n%32768) 0=1) && !decide (32768≤n)
def lacks (M:List Nat) (ns:List Nat):Nat:=(ns.filter (lackB M)).length
theorem lacks_snoc (M ns:List Nat) (n:Nat):lacks M (ns++[n])=lacks M ns+(if lackB M n then 1 else 0):=by
 unfold lacks
 rw [List.filter_append,List.length_append]
 cases h:lackB M n <;> simp [h]
theorem lacks_app (M a b:List Nat):lacks M (a++b)=lacks M a+lacks M b:=by simp [lacks]
theorem lacks_le (M ns:List Nat):lacks M ns≤ns.length:=List.length_filter_le _ _
def lackAll (V:VolR) (M:List Nat) (fs:List Nat):Nat:=lacks M (fs.flatMap (rawAll V.C))
theorem lackAll_snoc (V:VolR) (M fs:List Nat) (f:Nat):lackAll V M (fs++[f])=lackAll V M fs+lacks M (rawAll V.C f):=by
 unfold lackAll
 rw [List.flatMap_append,lacks_app,List.flatMap_cons,List.flatMap_nil,List.append_nil]
theorem rawAll_len {V:VolR} {f:Nat} (h:FirstOK V f):(rawAll V.C f).length≤1056:=by
 have h1:=flatS_len (spots V f h.2)
 have h2:=spots_len V f h.2
 have h3:=told_raw V f h
 have h4:(rawAll V.C f).length=(toldSpots V f h).length:=by rw [← h3];simp [rawS]
 rw [h4]
 unfold toldSpots
 omega
theorem lackAll_le {V:VolR} (M:List Nat): ∀ fs:List Nat,(∀ f ∈ fs,FirstOK V f)→lackAll V M fs≤1056*fs.length:=by
 intro fs hfs
 have hl:(fs.flatMap (rawAll V.C)).length≤1056*fs.length:=by
   induction fs with
   | nil=>simp
   | cons a r ih=>
     have h1:=ih (fun f hf=>hfs f (List.mem_cons_of_mem _ hf))
     have h2:=rawAll_len (hfs a (List.mem_cons_self ..))
     rw [List.flatMap_cons,List.length_append,List.length_cons]
     omega
 have:=lacks_le M (fs.flatMap (rawAll V.C))
 unfold lackAll
 omega
structure LackAt (w W:World) (v:Nat) (M:List Nat) (c:Nat):Prop where
 below:Below w.heap.size w W
 bv:W.heap[w.heap.size]? = some (.cells #[.pointer (some ⟨v,0,none⟩)] 82 (0,0))
 bu:W.heap[w.heap.size+1]? = some (.cells (nv M).toArray 161 (0,0))
 bc:W.heap[w.heap.size+1+1]? = some (.cells #[.int .i64 (c:Nat)] 3 (0,0))
theorem LackAt.later {w W W':World} {v c:Nat} {M:List Nat} (h:LackAt w W v M c) (hb:Below W.heap.size W W'):LackAt w W' v M c:=
 ⟨h.below.trans (hb.mono h.below.size),(hb.block _ (blk_lt h.bv)).trans h.bv,(hb.block _ (blk_lt h.bu)).trans h.bu,(hb.block _ (blk_lt h.bc)).trans h.bc⟩
theorem LackAt.turned {w W W':World} {v B c:Nat} {M:List Nat} {row:Option Nat} (h:LackAt w W v M c) (hB:w.heap.size+3≤B) (hg:W.grownBy W' row) (hr: ∀ r,row=some r→B≤r∧ ∃ o:Obj,W.heap[r]? = some o∧o.isCells=false):LackAt w W' v M c:=
 ⟨below_turned h.below hg (fun r e=>by have:=(hr r e).1;omega),blk_turn hg hr h.bv (by omega),blk_turn hg hr h.bu (by omega),blk_turn hg hr h.bc (by omega)⟩
theorem LackAt.put {w W:World} {v c:Nat} {M:List Nat} (h:LackAt w W v M c) (n:Nat):LackAt w (W.setCell ⟨w.heap.size+1+1,0,none⟩ (.int .i64 (n:Nat))) v M n:=by
 have hk:=Kept.only W (w.heap.size+1+1) 0 (.int .i64 (n:Nat))
 refine ⟨?_,hk.blk (by omega) h.bv,hk.blk (by omega) h.bu,?_⟩
 · exact ⟨hk.os.trans h.below.os,hk.tape.trans h.below.tape,hk.output.trans h.below.output,Nat.le_trans h.below.size hk.size,fun i hi=>by
     rw [hk.block i (Nat.lt_of_lt_of_le hi h.below.size) (by omega)];exact h.below.block i hi⟩
 · rw [heap_setCell_same _ _ _ _ _ _ _ h.bc]
   rfl
theorem below_shut {w W:World} {D:Nat} (h:Below w.heap.size w W) (hD:w.heap.size≤D):Below w.heap.size w (W.putObj D (.deferred none)):=by
 have hg:=grownBy_putObj' W D (.deferred none)
 exact below_turned h hg (fun r e=>by injection e with e;omega)
theorem unmarked_in (w:World) (v:Nat) (Cv Lv:Value) (V:VolR) (h:VolAt w v Cv Lv V) (h5:5<V.C.length) (hC:V.C.length≤256) (hF: ∀ f ∈ firstsOf V,FirstOK V f) (M:List Nat) (hM:M.length=256):
   CallsIn Fence.wide 100 Tryz.prog 100 #[.pointer (some ⟨v,0,none⟩),.agg (nv M).toArray] w fun e w'=>e= .returned (.int .i64 ((lackAll V M (firstsOf V):Nat):Int))∧Below w.heap.size w w':=by
 refine callsIn_of_wp_marks Tryz.func100 rfl trivial ?_ rfl
 simp only [Tryz.ntmps100,List.size_toArray,List.length_cons,List.length_nil,Nat.reduceAdd,Nat.reduceSub,Array.replicate_succ,Array.replicate_zero,List.push_toArray,List.append_toArray,List.nil_append,List.cons_append]
 have U0:LackAt w (((w.alloc (.cells #[.pointer (some ⟨v,0,none⟩)] 82)).alloc (.cells (nv M).toArray 161)).alloc (.cells #[.int .i64 0] 3)) v M 0:=by
   refine ⟨((((Below.refl _ w).alloc (Nat.le_refl _) _).alloc (by simp) _).alloc (by simp;omega) _),?_,?_,?_⟩
   · exact (Below.heap_alloc _ _ _ (by simp;omega)).trans ((Below.heap_alloc _ _ _ (by simp)).trans (heap_alloc_new w _))
   · exact (Below.heap_alloc _ _ _ (by simp)).trans (by have:=heap_alloc_new (w.alloc (.cells #[.pointer (some ⟨v,0,none⟩)] 82)) (.cells (nv M).toArray 161);rwa [World.size_alloc] at this)
   · have:=heap_alloc_new ((w.alloc (.cells #[.pointer (some ⟨v,0,none⟩)] 82)).alloc (.cells (nv M).toArray 161)) (.cells #[.int .i64 0] 3)
     rwa [World.size_alloc,World.size_alloc] at this
 have U0:=hide U0
 have H:=hide h
 have Hm0:=hide (fun W=>firsts_make W v)
 clear h
 gi_wp2_with fail
 generalize ((w.alloc (.cells #[.pointer (some ⟨v,0,none⟩)] 82)).alloc (.cells (nv M).toArray 161)).alloc (.cells #[.int .i64 0] 3)=wr at*
 have hbr:=blk_lt (uh U0).bc
 refine ⟨trivial,(callsIn_wide.2 (uh Hm0 wr)).mono ?_⟩
 rintro e W3 ⟨rfl,hW3⟩
 have hs3:wr.heap.size+1≤W3.heap.size:=by rw [hW3];simp
 have hb3:Below wr.heap.size wr W3:=by rw [hW3];exact (Below.refl _ _).alloc (Nat.le_refl _) _
 have hbx:W3.heap[wr.heap.size]? = some (.cells #[.pointer (some ⟨v,0,none⟩)] 82 (0,0)):=by rw [hW3];exact heap_alloc_new _ _
 have U3:=(uh U0).later hb3
 have hV3:=(uh H).below U3.below
 have hFA:=firsts_all (Pc:=FirstOK V) 99 (by omega) (fun k=>k=w.heap.size+1+1) v wr.heap.size (W3.heap.size+2) V Cv Lv W3 hV3 hbx (by omega) (fun hf=>by have:=((uh H).below (uh U0).below).foot_lt _ hf;omega) (fun k hk=>by rw [hk];omega) h5 hF
 have U3:=hide U3
 clear U0 hV3 hbx hb3 hW3 Hm0
 gi_wp2_with fail
 refine range_all (by omega) (gf:=173) (lb:= #[.pointer (some ⟨wr.heap.size,0,none⟩)]) rfl (enters_of Tryz.func173 (by kernel_rfl) rfl) hFA
   (fun A B C h k=>KeepV.trans (R:=SameNum) (fun _ _ _ a b=>a.trans b) h k) (fun W o o' hl hc=>KeepV.turn SameNum.refl W _ o o' hl hc (by omega)) (Below.refl _ _) (fun _=>rfl)
   (fun pre W'=>LackAt w W' v M (lackAll V M (valsM pre)))
   (fun _ _ _ _ hs hg hr=>LackAt.turned hs (by omega) hg hr)
   (uh U3)
   (fun x a' _=>a'={ tmps:= #[.pointer (some ⟨v,0,none⟩),.agg (nv M).toArray,.pointer (some ⟨w.heap.size,0,none⟩),.pointer (some ⟨w.heap.size+1,0,none⟩),.int .i64 0,.pointer (some ⟨w.heap.size+1+1,0,none⟩),.int .i64 ((x.1:Nat):Int),undef,.pointer (some ⟨v,0,none⟩),.func (.func 173) #[] #[.pointer (some ⟨wr.heap.size,0,none⟩)],.int .i64 ((x.1:Nat):Int),undef,undef,undef,undef,undef,undef,undef,undef,undef,undef,undef,undef,undef,undef,undef,undef,undef,undef,undef],defers:=[] })
   (fun _ _ _ _ _ _ hs _ _=>hs)
   ?assign ?body ?done
 case assign=>
   rintro l pre x W' K hi hK
   gi_wp2
   exact hK _ _ (KeepsFrom.refl _ _) (KeepV.below SameNum.refl (Below.refl _ _)) hi rfl
 case done=>
   rintro D ys W' hD hS hU hK
   have hS':valsM ys=firstsOf V:=hS
   rw [hS'] at hU
   have c1:W'.cell? ⟨w.heap.size+1+1,0,none⟩=some (.int .i64 ((lackAll V M (firstsOf V):Nat):Int)):=(cell_blk hU.bc 0).trans rfl
   have U5:=hide (below_shut (D:=D) hU.below (by omega))
   clear hU hS hS' hFA U3
   generalize hq:lackAll V M (firstsOf V)=q at c1
   have Hq:=hide hq
   clear hq
   gi_wp2
   refine ⟨by simp,.inl ⟨_,_,rfl,run_takeDeferred hK,?_⟩⟩
   refine ⟨_,results_tmp rfl _ _ _,?_,uh U5⟩
   rw [uh Hq]
   rfl
 case body=>
   rintro l pre x a' W hl ⟨r,hr⟩ hU rfl hlen
   obtain ⟨x,hx⟩:=x
   have cv0:W.cell? ⟨w.heap.size,0,none⟩=some (.pointer (some ⟨v,0,none⟩)):=(cell_blk hU.bv 0).trans rfl
   have Hm:=hide (told_make W v x)
   have U1:=hide hU
   have hbr2:=blk_lt hU.bc
   clear hU hFA
   dsimp only
   gi_wp2_with fail
   refine ⟨trivial,(CallsIn.inRound l (callsIn_wide.2 (uh Hm))).mono ?_⟩
   rintro e wc ⟨rfl,hwc⟩
   have hs5:W.heap.size+2≤wc.heap.size:=by rw [hwc];simp
   have hb5:Below W.heap.size W wc:=by rw [hwc];exact ((Below.refl _ _).alloc (Nat.le_refl _) _).alloc (by simp) _
   have hb1:wc.heap[W.heap.size]? = some (.cells #[.pointer (some ⟨v,0,none⟩)] 82 (0,0)):=by rw [hwc];exact (Below.heap_alloc _ _ _ (by simp)).trans (heap_alloc_new _ _)
   have hb2:wc.heap[W.heap.size+1]? = some (.cells #[.int .i64 (x:Nat)] 3 (0,0)):=by rw [hwc];have:=heap_alloc_new (W.alloc (.cells #[.pointer (some ⟨v,0,none⟩)] 82)) (.cells #[.int .i64 (x:Nat)] 3);rwa [World.size_alloc] at this
   have U5:=(uh U1).later hb5
   have hV5:=(uh H).below U5.below
   have hVW:=(uh H).below (uh U1).below
   have hr5:wc.heap[l]? = some (.loop r):=(hb5.block _ (blk_lt hr)).trans hr
   have hHA:=(told_any 97 (by omega) (fun k=>k=w.heap.size+1+1) v W.heap.size (W.heap.size+1) x (wc.heap.size+1) V Cv Lv wc hV5 hb1 hb2 (by omega) (by omega) (fun hf=>by have:=hVW.foot_lt _ hf;omega) (fun hf=>by have:=hVW.foot_lt _ hf;omega) (fun k hk=>by rw [hk];omega) hx).all
   have hKF5:KeepsFrom W3.heap.size W wc:=⟨hb5.size,fun k o _ hk _=>(hb5.block k (blk_lt hk)).trans hk⟩
   have hK5:KeepV (fun k=>k=w.heap.size+1+1) (fun k=>W3.heap.size+2≤k) v SameNum W wc:=KeepV.below SameNum.refl hb5
   have hmost:=lackAll_le (V:=V) M (valsM pre) (fun f hf=>by obtain ⟨y,_,rfl⟩:=List.mem_map.1 hf;exact y.2)
   have hpl:(valsM pre).length≤4:=by have:(valsM pre).length=pre.length:=List.length_map _;omega
   have hsn:lackAll V M (valsM (pre++[⟨x,hx⟩]))=lackAll V M (valsM pre)+lacks M (rawAll V.C x):=by rw [valsM_snoc,lackAll_snoc]
   have U5:=hide U5
   clear U1 hV5 hb1 hb2 hwc Hm cv0 hr hVW
   generalize lackAll V M (valsM pre)=c0 at*
   gi_wp2_with fail
   refine range_inA (l₀:=l) (r₀:=r) hr5 (by omega) (gf:=174) (lb:= #[.pointer (some ⟨W.heap.size,0,none⟩),.pointer (some ⟨W.heap.size+1,0,none⟩)]) rfl (enters_of Tryz.func174 (by kernel_rfl) rfl) hHA
     (fun A B C h k=>KeepV.trans (R:=EqV) (fun _ _ _ a b=>Eq.trans a b) h k) (fun W o o' hl hc=>KeepV.turn (R:=EqV) (fun _=>rfl) W _ o o' hl hc (by omega)) (Below.refl _ _) (fun _=>rfl)
     (fun ip W'=>LackAt w W' v M (c0+lacks M (rawS ip))∧KeepsFrom W3.heap.size W W'∧KeepV (fun k=>k=w.heap.size+1+1) (fun k=>W3.heap.size+2≤k) v SameNum W W')
     (fun s A B row hs hg hr=>⟨LackAt.turned hs.1 (by omega) hg hr,ownFrom_keepsFrom (β:=Unit) hb5.size () A B row hs.2.1 hg hr,ownFrom_keepVY (R:=SameNum) SameNum.refl (fun _ _ _ a b=>a.trans b) (β:=Unit) hb5.size () A B row hs.2.2 hg hr⟩)
     ⟨uh U5,hKF5,hK5⟩
     (fun y a' W'=> ∃ bx,W'.heap[bx]? = some (.cells #[.int .i64 ((y.table:Nat):Int),.int .i64 ((y.index:Nat):Int),.int .u16 ((y.number:Nat):Int)] 219 (0,0))∧a'={ tmps:= #[.pointer (some ⟨v,0,none⟩),.agg (nv M).toArray,.pointer (some ⟨w.heap.size,0,none⟩),.pointer (some ⟨w.heap.size+1,0,none⟩),.int .i64 0,.pointer (some ⟨w.heap.size+1+1,0,none⟩),.int .i64 ((x:Nat):Int),.pointer (some ⟨bx,0,none⟩),.pointer (some ⟨v,0,none⟩),.func (.func 173) #[] #[.pointer (some ⟨wr.heap.size,0,none⟩)],.int .i64 ((x:Nat):Int),.pointer (some ⟨v,0,none⟩),.int .i64 ((x:Nat):Int),.func (.func 174) #[] #[.pointer (some ⟨W.heap.size,0,none⟩),.pointer (some ⟨W.heap.size+1,0,none⟩)],spotVal y,undef,undef,undef,undef,undef,undef,undef,undef,undef,undef,undef,undef,undef,undef,undef],defers:=[] })
     (fun y a'' _ A' B' row hs hg hr=>by
       obtain ⟨bx2,h2,h3⟩:=hs
       refine ⟨bx2,?_,h3⟩
       rw [hg.block bx2 (blk_lt h2) (fun e=>by
         obtain ⟨_,o,ho,hc⟩:=hr bx2 e.symm
         rw [h2] at ho
         injection ho with ho
         subst ho
         cases hc)]
       exact h2) ?assign2 ?body2 ?done2
   case assign2=>
     rintro l2 ip y W' K ⟨g1,g2,g3⟩ hK
     have hb:Below W'.heap.size W' (W'.alloc (.cells #[.int .i64 ((y.table:Nat):Int),.int .i64 ((y.index:Nat):Int),.int .u16 ((y.number:Nat):Int)] 219)):=(Below.refl _ _).alloc (Nat.le_refl _) _
     have G1:=hide (g1.later hb)
     have G2:=hide (g2.trans ((KeepsOthers.alloc W' (.cells #[.int .i64 ((y.table:Nat):Int),.int .i64 ((y.index:Nat):Int),.int .u16 ((y.number:Nat):Int)] 219)).from _))
     have G3:=hide (g3.trans (fun _ _ _ a b=>a.trans b) (KeepV.below SameNum.refl hb))
     clear g1 g2 g3
     unfold spotVal
     gi_wp2
     exact hK _ _ ((KeepsOthers.alloc _ _).from _) (KeepV.below (R:=EqV) (fun _=>rfl) hb) ⟨uh G1,uh G2,uh G3⟩ ⟨_,heap_alloc_new _ _,rfl⟩
   case done2=>
     rintro ip W' hS ⟨g1,g2,g3⟩
     have hS':rawS ip=rawAll V.C x:=by rw [hS];exact told_raw V x hx
     rw [hS'] at g1
     have G0:=hide g1
     rw [← hsn] at g1
     have G1:=hide g1
     have G2:=hide g2
     have G3:=hide g3
     clear g1 g2 g3
     gi_wp2
     repeat (first | exact uh G0 | exact uh G1 | exact uh G2 | exact uh G3 | refine ⟨?_,?_⟩)
   case body2=>
     rintro l2 ip y a' W' hl2 _ ⟨g1,g2,g3⟩ ⟨bx,hbx,rfl⟩ hip
     have hil:(rawS ip).length=ip.length:=List.length_map _
     have hll:=lacks_le M (rawS ip)
     have hsb:lacks M (rawS (ip++[y]))=lacks M (rawS ip)+(if lackB M y.number then 1 else 0):=by rw [rawS_snoc,lacks_snoc]
     have hV':=(uh H).below g1.below
     have hn:=y.hn
     have hc:=y.hc.2
     have hci:((y.number%32768:Nat):Int)<256:=by omega
     have c1:W'.cell? ⟨bx,2,none⟩=some (.int .u16 ((y.number:Nat):Int)):=(cell_blk hbx 2).trans rfl
     have c2:W'.cell? ⟨w.heap.size+1,y.number%32768,none⟩=some (.int .i64 ((M.getD (y.number%32768) 0:Nat):Int)):=by
       rw [cell_blk g1.bu,List.getElem?_toArray,nv_get _ _ (by omega)]
     have Hcl:=hide (fun W=>cluster_of y.number y.hn W)
     have Hmk:=hide (fun W=>marked_of y.number y.hn W)
     have hlb:lackB M y.number=(decide (M.getD (y.number%32768) 0=1) && !decide (32768≤y.number)):=rfl
     generalize lacks M (rawS ip)=q at*
     have c3:W'.cell? ⟨w.heap.size+1+1,0,none⟩=some (.int .i64 ((c0+q:Nat):Int)):=(cell_blk g1.bc 0).trans rfl
     have f3:=frozen_blk g1.bc
     have hqi:((c0+q:Nat):Int)≤100000:=by omega
     have hown: ∀ k,k=w.heap.size+1+1→k=w.heap.size+1+1∧ ¬ foot v Cv Lv k∧ ∃ o,W'.heap[k]? = some o∧o.isCells=true:=fun k e=>by
       subst e
       exact ⟨rfl,fun hf=>by have:=(uh H).foot_lt _ hf;omega,_,g1.bc,rfl⟩
     generalize M.getD (y.number%32768) 0=m at*
     generalize y.number%32768=cc at*
     generalize lackB M y.number=bb at*
     generalize spotVal y=sv at*
     generalize y.number=nn at*
     by_cases hm1:m=1
     · by_cases hk:32768≤nn
       · have hbb:bb=false:=by rw [hlb];simp [hm1,hk]
         rw [hbb,if_neg (by decide),Nat.add_zero] at hsb
         rw [← hsb] at g1
         have dm:(((m:Nat):Int) == 1)=true:=by rw [hm1];rfl
         have dk:decide (32768≤nn)=true:=decide_eq_true hk
         rw [dk] at Hmk
         have G0:=hide g1
         rw [hsb] at g1
         have G1:=hide g1
         have G2:=hide g2
         have G3:=hide g3
         clear g1 g2 g3 hown hlb hmost hHA c3 f3
         gi_wp2_with fail
         refine ⟨trivial,(CallsIn.inRound l2 (callsIn_wide.2 (uh Hcl _))).mono ?_⟩
         rintro e w5 ⟨rfl,rfl⟩
         gi_wp2_with fail
         refine ⟨trivial,(CallsIn.inRound l2 (callsIn_wide.2 (uh Hmk _))).mono ?_⟩
         rintro e w5 ⟨rfl,rfl⟩
         gi_wp2
         repeat (first | exact uh G0 | exact uh G1 | exact uh G2 | exact uh G3 | exact KeepsFrom.refl _ _ | exact KeepV.below (R:=EqV) (fun _=>rfl) (Below.refl _ _) | refine ⟨?_,?_⟩)
       · have hbb:bb=true:=by rw [hlb];simp [hm1,hk]
         rw [hbb,if_pos rfl] at hsb
         have dm:(((m:Nat):Int) == 1)=true:=by rw [hm1];rfl
         have dk:decide (32768≤nn)=false:=decide_eq_false hk
         rw [dk] at Hmk
         have U6:=g1.put (c0+q+1)
         rw [show ((c0+q+1:Nat):Int)=((c0+q:Nat):Int)+1 by omega] at U6
         have G0:=hide U6
         rw [Nat.add_assoc c0 q 1,← hsb] at U6
         have G1:=hide U6
         have K3:KeepV (fun k=>k=w.heap.size+1+1) (fun k=>wc.heap.size+1≤k) v EqV W' (W'.setCell ⟨w.heap.size+1+1,0,none⟩ (.int .i64 (((c0+q:Nat):Int)+1))):=KeepV.own hV' (Kept.only _ _ _ _) hown rfl
         have K4:KeepV (fun k=>k=w.heap.size+1+1) (fun k=>W3.heap.size+2≤k) v SameNum W' (W'.setCell ⟨w.heap.size+1+1,0,none⟩ (.int .i64 (((c0+q:Nat):Int)+1))):=KeepV.own hV' (Kept.only _ _ _ _) hown (SameNum.refl _)
         have K5:=hide (g3.trans (fun _ _ _ a b=>a.trans b) K4)
         have hf:=hide ((KeepsOthers.setCell W' ⟨w.heap.size+1+1,0,none⟩ (.int .i64 (((c0+q:Nat):Int)+1))).from wc.heap.size)
         have hf2:=hide (g2.trans ((KeepsOthers.setCell W' ⟨w.heap.size+1+1,0,none⟩ (.int .i64 (((c0+q:Nat):Int)+1))).from W3.heap.size))
         have K3:=hide K3
         have Hsb:=hide hsb
         clear g1 g2 g3 hown hlb hmost hHA K4 U6 hsb hsn
         generalize c0+q=cq at*
         gi_wp2_with fail
         refine ⟨trivial,(CallsIn.inRound l2 (callsIn_wide.2 (uh Hcl _))).mono ?_⟩
         rintro e w5 ⟨rfl,rfl⟩
         gi_wp2_with fail
         refine ⟨trivial,(CallsIn.inRound l2 (callsIn_wide.2 (uh Hmk _))).mono ?_⟩
         rintro e w5 ⟨rfl,rfl⟩
         gi_wp2
         repeat (first | exact uh G0 | exact uh G1 | exact uh hf | exact uh hf2 | exact uh K3 | exact uh K5 | refine ⟨?_,?_⟩)
     · have hbb:bb=false:=by rw [hlb];simp [hm1]
       rw [hbb,if_neg (by decide),Nat.add_zero] at hsb
       rw [← hsb] at g1
       have dm:(((m:Nat):Int) == 1)=false:=by rw [beq_eq_false_iff_ne];omega
       have G0:=hide g1
       rw [hsb] at g1
       have G1:=hide g1
       have G2:=hide g2
       have G3:=hide g3
       clear g1 g2 g3 hown hlb hmost hHA c3 f3
       gi_wp2_with fail
       refine ⟨trivial,(CallsIn.inRound l2 (callsIn_wide.2 (uh Hcl _))).mono ?_⟩
       rintro e w5 ⟨rfl,rfl⟩
       gi_wp2
       refine ⟨trivial,?_⟩
       gi_wp2
       repeat (first | exact uh G0 | exact uh G1 | exact uh G2 | exact uh G3 | exact KeepsFrom.refl _ _ | exact KeepV.below (R:=EqV) (fun _=>rfl) (Below.refl _ _) | refine ⟨?_,?_⟩)
end Go.Proofs.YtknjjjenklfeoaaGreatDoor
