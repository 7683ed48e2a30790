import Derived.Test.YtknjjjenklfeoaaGreatDoorT07
import Derived.RangeFuncNested
import Derived.RangeFuncBound
import Derived.RangeFuncCalls
import Derived.RangeFuncLeaves
import Derived.Shelf.Abstract
import Derived.Shelf.RegionOpen
import Derived.WalkKit
import Derived.OwnWalkIn
import Derived.TacticsInMore
import Derived.LoopNIn
import Derived.LoopIn
set_option maxHeartbeats 8000000
set_option maxRecDepth 100000
namespace Go.Proofs.YtknjjjenklfeoaaGreatDoor
open Go.RowKit Go.Shelf
attribute [local go_sem ↓] loadVar_clus storeVar_clus zeroValue_clus loadVar_tab storeVar_tab zeroValue_tab loadVar_cnt storeVar_cnt zeroValue_cnt loadVar_head storeVar_head zeroValue_head build_head buildSlice_clus loadVar_wr storeVar_wr zeroValue_wr build_wr buildSlice_wr equalIn_clus loadVar_place storeVar_place zeroValue_place build_place
attribute [local go_sem] run_loadClus run_storeClus run_zeroClus run_storeClus_new run_loadClus_new zc_length run_loadTab run_storeTab run_zeroTab run_storeTab_new run_loadTab_new zt_length run_loadCnt run_storeCnt run_zeroCnt run_storeCnt_new run_loadCnt_new zk_length run_loadHead run_storeHead run_zeroHead run_storeHead_new run_bHead HasAt_drew cellsAt_drew HasAt_drewN cellsAt_drewN run_bsClus run_loadWr run_zeroWr run_storeWr run_storeWr_new run_bWr0 run_bsWr run_loadPlace run_storePlace run_zeroPlace run_storePlace_new run_bPlace
attribute [local go_sem] field_head1 field_head0 Oper.semAt_some
theorem numbers_make (w:World) (v table:Nat):Calls Tryz.prog 172 #[.pointer (some ⟨v,0,none⟩),.int .i64 (table:Nat)] w fun e w'=>
   e= .returned (.func (.func 182) #[] #[.pointer (some ⟨w.heap.size,0,none⟩),.pointer (some ⟨w.heap.size+1,0,none⟩)])∧w'=(w.alloc (.cells #[.pointer (some ⟨v,0,none⟩)] 82)).alloc (.cells #[.int .i64 (table:Nat)] 3):=by
 go_enter Tryz.func172,Tryz.ntmps172
 go_wp2
 go_ret
 exact ⟨rfl,rfl⟩
theorem tables_make (w:World) (v table:Nat):Calls Tryz.prog 171 #[.pointer (some ⟨v,0,none⟩),.int .i64 (table:Nat)] w fun e w'=>
   e= .returned (.func (.func 181) #[] #[.pointer (some ⟨w.heap.size+1,0,none⟩),.pointer (some ⟨w.heap.size,0,none⟩)])∧w'=(w.alloc (.cells #[.pointer (some ⟨v,0,none⟩)] 82)).alloc (.cells #[.int .i64 (table:Nat)] 3):=by
 go_enter Tryz.func171,Tryz.ntmps171
 go_wp2
 go_ret
 exact ⟨rfl,rfl⟩
theorem firsts_make (w:World) (v:Nat):Calls Tryz.prog 150 #[.pointer (some ⟨v,0,none⟩)] w fun e w'=>
   e= .returned (.func (.func 173) #[] #[.pointer (some ⟨w.heap.size,0,none⟩)])∧w'=w.alloc (.cells #[.pointer (some ⟨v,0,none⟩)] 82):=by
 go_enter Tryz.func150,Tryz.ntmps150
 go_wp2
 go_ret
 exact ⟨rfl,rfl⟩
theorem clusters_make (w:World) (a:Option Addr) (n cap:Nat):Calls Tryz.prog 165 #[.slice a n cap] w fun e w'=>
   e= .returned (.func (.func 179) #[] #[.pointer (some ⟨w.heap.size,0,none⟩)])∧w'=w.alloc (.cells #[.slice a n cap] 260):=by
 go_enter Tryz.func165,Tryz.ntmps165
 go_wp2
 go_ret
 exact ⟨rfl,rfl⟩
def NumsOK (Pc:Nat→Prop) (C:List Clus) (t:Nat):Prop:= ∀ i,OKN Pc ((numsOf (cl C t)).getD i 0)
def spots {Pc:Nat→Prop} (V:VolR) (t:Nat) (hT:NumsOK Pc V.C t):List (SpotR Pc):=spotsTo t (numsOf (cl V.C t)) hT 32 (Nat.le_refl _)
theorem yield_mono {F:Fence} {m:Nat} {P:Program} {l:Nat} {args:Array Value} {W:World} {R R':Ending→World→Prop} (h:YieldAt F m P l args W R) (hr: ∀ e w,R e w→R' e w):YieldAt F m P l args W R':=by
 obtain ⟨fn,tmps,assign,body,hy,hR⟩:=h
 exact ⟨fn,tmps,assign,body,hy,hR.mono hr⟩
theorem numbers_stops {Pc:Nat→Prop} (n:Nat) (hn:3≤n) (X Y:Nat→Prop) (R:VolR→VolR→Prop) (v bv bt table:Nat) (V:VolR) (Cv Lv:Value) (w:World) (hV:VolAt w v Cv Lv V)
   (hbv:w.heap[bv]? = some (.cells #[.pointer (some ⟨v,0,none⟩)] 82 (0,0))) (hbt:w.heap[bt]? = some (.cells #[.int .i64 (table:Nat)] 3 (0,0))) (hX: ¬ X bt) (hf: ¬ foot v Cv Lv bt) (ht:table<V.C.length)
   (hT:NumsOK Pc V.C table):
   SeqStopsK Fence.wide n Tryz.prog 182 #[.pointer (some ⟨bv,0,none⟩),.pointer (some ⟨bt,0,none⟩)] (fun s:SpotR Pc=> #[spotVal s]) (KeepV X Y v R) (fun ys=>ys=spots V table hT) (fun pre=>pre <+: spots V table hT) 32 w:=
 fun l J Jx W hW hJ _ hY h0=>
   numbers1_in n hn l bv bt v table V J Jx (Beside X v bt (.cells #[.int .i64 (table:Nat)] 3 (0,0)) (fun _=>True)) hT
     (fun pre x W1 hJ1 hl=>yield_mono (hY pre x W1 hJ1 hl) (by
       rintro e W' (⟨a,b,c⟩ | h)
       · exact Or.inl ⟨a,b,fun hp=>hp.keep (fun _ _ _ _=>trivial) c⟩
       · exact Or.inr h))
     (fun W1 hp=>(cell_blk hp.box 0).trans rfl) (fun _ _ hp hb=>hp.below hb) W hJ
     ⟨⟨Cv,Lv,V,hV.below hW,trivial,hf⟩,(hW.block bt (blk_lt hbt)).trans hbt,rfl,hX⟩ ((cell_blk ((hW.block bv (blk_lt hbv)).trans hbv) 0).trans rfl) Cv Lv (hV.below hW) ht h0
abbrev U256:={ n:Nat // n<256 }
def toldBy (ns:List Nat):List Nat:=(ns.filter (· != 0)).map (· % 32768)
theorem clusters1_in (n:Nat) (hn:3≤n) (l bx bs cap:Nat) (ns:List Nat) (hns: ∀ m ∈ ns,m<65536∧m%32768<256) (hl:ns.length≤100) (J Jx:List U256→World→Prop) (P:World→Prop)
   (hY: ∀ pre x W,J pre W→pre.length<ns.length→YieldAt Fence.wide (n - 1) Tryz.prog l #[.int .i64 ((x.1:Nat):Int)] W fun e W'=>
     (e= .returned (.bool true)∧J (pre++[x]) W'∧(P W→P W'))∨(e= .returned (.bool false)∧Jx (pre++[x]) W'))
   (hPc: ∀ W,P W→W.heap[bs]? = some (.cells (tv ns).toArray 167 (0,0)))
   (W:World) (hP:P W) (hbx:W.cell? ⟨bx,0,none⟩=some (.slice (some ⟨bs,0,none⟩) ns.length cap)) (h0:J [] W):
   CallsIn Fence.wide n Tryz.prog 179 #[.func (.yield l) #[] #[],.pointer (some ⟨bx,0,none⟩)] W fun e W'=>(∃ v,e= .returned v)∧
     ((∃ ys:List U256,ys.map (·.1)=toldBy ns∧J ys W')∨(∃ pre:List U256,Jx pre W')):=by
 refine callsIn_of_wp Tryz.func179 rfl trivial ?_ rfl
 simp only [Tryz.ntmps179,List.size_toArray,List.length_cons,List.length_nil,Nat.reduceAdd,Nat.reduceSub,Array.replicate_succ,Array.replicate_zero,List.push_toArray,List.append_toArray,List.nil_append,List.cons_append]
 gi_wp2
 gi_loopw [4,7] (fun _ i wr=> ∃ (k:Nat) (ys:List U256),k≤ns.length∧i= .int .i64 k∧P wr∧ys.map (·.1)=toldBy (ns.take k)∧ys.length≤k∧J ys wr) (fun _ i _=>ns.length - (intOf i).toNat)
 case atStart=>exact ⟨0,[],by omega,rfl,hP,rfl,by simp,h0⟩
 case round=>
   obtain ⟨k,ys,hk,rfl,hPk,hys,hyl,hJk⟩:=hrel
   have hb:=hPc wr hPk
   by_cases hlt:k<ns.length
   · have hki:(k:Int)<(ns.length:Int):=by omega
     have hm:=hns _ (List.getElem_mem hlt)
     have c1:wr.cell? ⟨bs,k,none⟩=some (.int .u16 ((ns[k]:Nat):Int)):=by
       rw [cell_blk hb,List.getElem?_toArray,tv_get _ _ hlt,List.getD_eq_getElem?_getD,List.getElem?_eq_getElem hlt];rfl
     have htk:toldBy (ns.take (k+1))=toldBy (ns.take k)++(if ns[k]=0 then [] else [ns[k]%32768]):=by
       rw [List.take_succ_eq_append_getElem hlt,toldBy,List.filter_append,List.map_append]
       unfold toldBy
       congr 1
       by_cases h:ns[k]=0
       · simp [h]
       · simp [h]
     generalize ns[k]=nn at*
     by_cases h0:nn=0
     · rw [if_pos h0,List.append_nil] at htk
       have Ht:=hide htk
       subst h0
       clear htk
       gi_wp2
       refine ⟨trivial,?_⟩
       gi_wp2
       refine ⟨fun _ h=>(by cases h),?_⟩
       gi_wp2
       go_roundw
       case rel=>exact ⟨k+1,ys,by omega,by go_num,hPk,by rw [uh Ht];exact hys,by omega,hJk⟩
       case measure=>simp [intOf];omega
     · rw [if_neg h0] at htk
       have Ht:=hide htk
       clear htk
       have d0:(((nn:Nat):Int) != 0)=true:=by rw [bne_iff_ne];omega
       have Hc:=hide (cluster_of nn hm.1 wr)
       have hm1:=hm.1
       have hm2:=hm.2
       clear hm
       generalize nn%32768=cc at*
       obtain ⟨fn,tmps,assign,body,hy,hR⟩:=hY ys ⟨cc,hm2⟩ wr hJk (by omega)
       gi_wp2
       refine ⟨trivial,fun _=>by omega,(callsIn_wide.2 (uh Hc)).mono ?_⟩
       rintro e w1 ⟨rfl,rfl⟩
       gi_wp2
       refine ⟨fun _=>by omega,hR.mono ?_⟩
       rintro e W3 (⟨rfl,hJ3,hP3⟩ | ⟨rfl,hJx3⟩)
       · have HP3:=hide (hP3 hPk)
         clear hP3 c1 hPk hb
         gi_wp2
         go_roundw
         case rel=>exact ⟨k+1,ys++[⟨cc,hm2⟩],by omega,by go_num,uh HP3,by rw [uh Ht,List.map_append,hys];rfl,by simp;omega,hJ3⟩
         case measure=>simp [intOf];omega
       · gi_wp2
         refine bodyPost_ret (results_none rfl _ _ _) rfl ?_
         exact ⟨⟨_,rfl⟩,.inr ⟨_,hJx3⟩⟩
   · have hk32:k=ns.length:=by omega
     subst hk32
     rw [List.take_length] at hys
     gi_wp2
     go_end0
     exact ⟨⟨_,rfl⟩,.inl ⟨ys,hys,hJk⟩⟩
theorem clusters_stops (n:Nat) (hn:3≤n) (X Y:Nat→Prop) (R:VolR→VolR→Prop) (v bx bs cap:Nat) (ns:List Nat) (hns: ∀ m ∈ ns,m<65536∧m%32768<256) (hl:ns.length≤100) (V:VolR) (Cv Lv:Value) (w:World) (hV:VolAt w v Cv Lv V)
   (hbx:w.heap[bx]? = some (.cells #[.slice (some ⟨bs,0,none⟩) ns.length cap] 260 (0,0))) (hbs:w.heap[bs]? = some (.cells (tv ns).toArray 167 (0,0))) (hX: ¬ X bs) (hf: ¬ foot v Cv Lv bs):
   SeqStopsK Fence.wide n Tryz.prog 179 #[.pointer (some ⟨bx,0,none⟩)] (fun x:U256=> #[Value.int .i64 ((x.1:Nat):Int)]) (KeepV X Y v R) (fun ys=>ys.map (·.1)=toldBy ns) (fun _=>True) ns.length w:=
 fun l J Jx W hW _ _ hY h0=>
   (clusters1_in n hn l bx bs cap ns hns hl J Jx (Beside X v bs (.cells (tv ns).toArray 167 (0,0)) (fun _=>True))
     (fun pre x W1 hJ1 hl=>yield_mono (hY pre x W1 hJ1 hl) (by
       rintro e W' (⟨a,b,c⟩ | h)
       · exact Or.inl ⟨a,b,fun hp=>hp.keep (fun _ _ _ _=>trivial) c⟩
       · exact Or.inr h))
     (fun W1 hp=>hp.box) W
     ⟨⟨Cv,Lv,V,hV.below hW,trivial,hf⟩,(hW.block bs (blk_lt hbs)).trans hbs,rfl,hX⟩ ((cell_blk ((hW.block bx (blk_lt hbx)).trans hbx) 0).trans rfl) h0).mono (by
     rintro e W' ⟨h1,h2 | ⟨pre,h3⟩⟩
     · exact ⟨h1,Or.inl h2⟩
     · exact ⟨h1,Or.inr ⟨pre,trivial,h3⟩⟩)
def SeqAll {α:Type} (n gf:Nat) (lb:Array Value) (encs:α→Array Value) (Kp:World→World→Prop) (S:List α→Prop) (N B:Nat) (w:World):Prop:=
 ∀ (l:Nat) (J:List α→World→Prop) (W:World),Below w.heap.size w W→B≤W.heap.size→OwnFrom W.heap.size J→
   (∀ pre x W1,J pre W1→pre.length<N→YieldAt Fence.wide (n - 1) Tryz.prog l (encs x) W1 fun e W'=>e= .returned (.bool true)∧J (pre++[x]) W'∧Kp W1 W')→
   J [] W→CallsIn Fence.wide n Tryz.prog gf (#[.func (.yield l) #[] #[]]++lb) W fun e W'=>(∃ v,e= .returned v)∧ ∃ xs,S xs∧J xs W'
theorem ownFrom_up {β:Type} {B C:Nat} {I:β→World→Prop} (h:OwnFrom B I) (hc:B≤C):OwnFrom C I:=fun s W W' row hs hg hr=>h s W W' row hs hg (fun r e=>⟨Nat.le_trans hc (hr r e).1,(hr r e).2⟩)
theorem blk_turn {W W':World} {row:Option Nat} {B k:Nat} {o:Obj} (hg:W.grownBy W' row) (hr: ∀ r,row=some r→B≤r∧ ∃ o:Obj,W.heap[r]? = some o∧o.isCells=false) (hk:W.heap[k]? = some o) (hlt:k<B):W'.heap[k]? = some o:=by
 rw [hg.block k (blk_lt hk) (fun e=>by have:=(hr k e.symm).1;omega)];exact hk
section
variable {α:Type} {g:Operand} {ps:Array Tmp} {assign body:Code} {Q:Exit→Act→World→Prop} {a:Act} {w:World} {n:Nat}
def recOf (fn:FuncId) (a:Act) (ps:Array Tmp) (assign body:Code) (d:Nat) (st:LoopState):Loop:={ state:=st,pending:=none,fn:=fn,tmps:=a.tmps,params:=ps,assign:=assign,body:=body,defers:=d }
structure Booked (fn:FuncId) (a:Act) (ps:Array Tmp) (assign body:Code) (d:Nat) (st:LoopState) (W:World):Prop where
 rcd:W.heap[d+1]? = some (.loop (recOf fn a ps assign body d st))
 def':W.heap[d]? = some (.deferred (some []))
theorem Booked.keep {fn:FuncId} {d:Nat} {st:LoopState} {W W':World} (h:Booked fn a ps assign body d st W) (hk:KeepsFrom d W W'):Booked fn a ps assign body d st W':=
 ⟨hk.same _ _ (by omega) h.rcd rfl,hk.same _ _ (Nat.le_refl _) h.def' rfl⟩
theorem Booked.turn {fn:FuncId} {d:Nat} {st st':LoopState} {W:World} (h:Booked fn a ps assign body d st W):Booked fn a ps assign body d st' (W.putObj (d+1) (.loop (recOf fn a ps assign body d st'))):=
 ⟨World.putObj_heap_same (blk_lt h.rcd),(World.putObj_heap_other (by omega)).trans h.def'⟩
theorem range_all (h1:1≤n) {gf:Nat} {lb:Array Value} (hg:a.eval g= .func (.func gf) #[] lb) (eg: ∀ args w,(callFunc gf args).run Tryz.prog w= .ok (.enter gf args) w)
   {encs:α→Array Value} {Kp:World→World→Prop} {S:List α→Prop} {N:Nat} {w0:World} (hseq:SeqAll (n - 1) gf lb encs Kp S N (w.heap.size+2) w0)
   (hKt: ∀ A B C:World,Kp A B→Kp B C→Kp A C) (hKb: ∀ (W:World) (o o':Obj),W.heap[w.heap.size+1]? = some o→o.isCells=false→Kp W (W.putObj (w.heap.size+1) o')) (hb0:Below w0.heap.size w0 w) (hps: ∀ x,(encs x).size=ps.size)
   (I:List α→World→Prop) (hI:OwnFrom w.heap.size I) (h0:I [] w) (Ax:α→Act→World→Prop) (hAx: ∀ x a',OwnFrom w.heap.size (fun (_:Unit) W=>Ax x a' W))
   (hassign: ∀ (l:Nat) (pre:List α) (x:α) (W:World) (K:Act→World→Prop),I pre W→(∀ a' W',KeepsFrom w.heap.size W W'→Kp W W'→I pre W'→Ax x a' W'→K a' W')→
     assign.wpIn (Fence.wide.inRound l) (n - 1 - 1) Tryz.prog (Exit.then K (fun _ _ _=>False)) { tmps:=(ps.zip (encs x)).foldl (fun t (p,v)=>t.setIfInBounds p v) a.tmps,defers:=[] } W)
   (hbody: ∀ (l:Nat) (pre:List α) (x:α) (a':Act) (W:World),w.heap.size≤l→(∃ r,W.heap[l]? = some (.loop r))→I pre W→Ax x a' W→pre.length<N→body.wpIn (Fence.wide.inRound l) (n - 1 - 1) Tryz.prog (fun e _ W'=>e= .normal∧KeepsFrom w.heap.size W W'∧Kp W W'∧I (pre++[x]) W') a' W)
   (hdone: ∀ (D:Nat) (xs:List α) (W:World),w.heap.size≤D→S xs→I xs W→W.heap[D]? = some (.deferred (some []))→Q .normal { a with defers:={ target:= .collected D,args:= #[] } :: a.defers } W):
   (Code.rangeFunc g ps assign body).wpIn Fence.wide n Tryz.prog Q a w:=by
 refine wpIn_rangeFunc fun fn hfn=> ?_
 let d:=w.heap.size
 let W1:=(w.alloc (.deferred (some []))).alloc (.loop (recOf fn a ps assign body d .ready))
 have hB1:Booked fn a ps assign body d .ready W1:=
   ⟨by have:=heap_alloc_new (w.alloc (.deferred (some []))) (.loop (recOf fn a ps assign body d .ready));rwa [World.size_alloc] at this,(Below.heap_alloc _ _ _ (by simp [d])).trans (heap_alloc_new w _)⟩
 have hI1:I [] W1:=hI.alloc _ (hI.alloc _ h0)
 have hsz:W1.heap.size=d+2:=by simp [W1,d]
 have hw1:Below w0.heap.size w0 W1:=hb0.trans ((((Below.refl _ w).alloc (Nat.le_refl _) _).alloc (by simp) _).mono hb0.size)
 refine ⟨d+1,[{ target:= .collected d,args:= #[] }],W1,{ target:= .fn (.func gf) lb,args:= #[.func (.yield (d+1)) #[] #[]] },W1,gf,#[.func (.yield (d+1)) #[] #[]]++lb,W1,
   run_enterLoop_outer _ _ _ _ _,?_,fun _ _=>trivial,?_,fun _=>h1,?_⟩
 · simp only [resolve,hg];simp [go_sem]
 · simp [invoke,go_sem,eg]
 have hJ:OwnFrom W1.heap.size (fun (pre:List α) W=>I pre W∧Booked fn a ps assign body d .ready W):=fun s A B row hs hg' hr=>
   ⟨hI s A B row hs.1 hg' (fun r e=>⟨by have:=(hr r e).1;omega,(hr r e).2⟩),blk_turn hg' hr hs.2.rcd (by omega),blk_turn hg' hr hs.2.def' (by omega)⟩
 refine (hseq (d+1) (fun pre W=>I pre W∧Booked fn a ps assign body d .ready W) W1 hw1 (by omega) hJ ?_ ⟨hI1,hB1⟩).mono ?_
 · rintro pre x W ⟨hi,hb⟩ hlen
   refine ⟨fn,_,assign,body,run_yield hb.rcd (hps x),roundIn_of_wpIn hfn (hassign (d+1) pre x W _ hi fun a' Wa hkf hkp hia hax=> ?_)⟩
   have hba:=hb.keep hkf
   refine ⟨_,run_beginRound hba.rcd rfl,?_⟩
   have hbb:Booked fn a ps assign body d .busy (Wa.putObj (d+1) (.loop (recOf fn a ps assign body d .busy))):=hba.turn
   have hkb:Kp Wa (Wa.putObj (d+1) (.loop (recOf fn a ps assign body d .busy))):=hKb _ _ _ hba.rcd rfl
   refine wpIn_mono (hbody (d+1) pre x a' _ (by omega) ⟨_,hbb.rcd⟩ (hI.putObj _ hia (by omega) hba.rcd rfl) ((hAx x a').putObj (s:=()) _ hax (by omega) hba.rcd rfl) hlen) ?_
   rintro e a3 W3 ⟨rfl,hkf3,hkp3,hi3⟩
   have hb3:=hbb.keep hkf3
   have hb4:Booked fn a ps assign body d .ready (W3.putObj (d+1) (.loop (recOf fn a ps assign body d .ready))):=hb3.turn
   exact ⟨_,_,run_endRound none hb3.rcd,rfl,⟨hI.putObj _ hi3 (by omega) hb3.rcd rfl,hb4⟩,hKt _ _ _ hkp (hKt _ _ _ hkb (hKt _ _ _ hkp3 (hKb _ _ _ hb3.rcd rfl)))⟩
 · rintro e W2 ⟨⟨v,rfl⟩,xs,hS,hi,hb⟩
   exact ⟨none,_,run_endLoop hb.rcd (by simp [recOf]),hdone d xs _ (Nat.le_refl _) hS (hI.putObj _ hi (by omega) hb.rcd rfl) ((World.putObj_heap_other (by omega)).trans hb.def')⟩
end
structure SameNum (V1 V2:VolR):Prop where
 len:V2.C.length=V1.C.length
 low: ∀ t,t<6→cl V2.C t=cl V1.C t
 zero: ∀ t i,i<32→(num (cl V2.C t) (2*i)=0↔num (cl V1.C t) (2*i)=0)
 same: ∀ t i,i<32→num (cl V2.C t) (2*i)%32768=num (cl V1.C t) (2*i)%32768
theorem SameNum.refl (V:VolR):SameNum V V:=⟨rfl,fun _ _=>rfl,fun _ _ _=>Iff.rfl,fun _ _ _=>rfl⟩
theorem SameNum.trans {A B C:VolR} (h:SameNum A B) (k:SameNum B C):SameNum A C:=
 ⟨k.len.trans h.len,fun t ht=>(k.low t ht).trans (h.low t ht),fun t i hi=>(k.zero t i hi).trans (h.zero t i hi),fun t i hi=>(k.same t i hi).trans (h.same t i hi)⟩
theorem toldBy_cons (n:Nat) (ns:List Nat):toldBy (n :: ns)=(if n=0 then [] else [n%32768])++toldBy ns:=by
 unfold toldBy
 by_cases h:n=0
 · simp [h]
 · simp [h]
theorem toldBy_congr: ∀ {A B:List Nat},A.length=B.length→(∀ i,i<A.length→(A.getD i 0=0↔B.getD i 0=0)∧A.getD i 0%32768=B.getD i 0%32768)→toldBy A=toldBy B
 | [],[],_,_=>rfl
 | [],_ :: _,h,_=>by simp at h
 | _ :: _,[],h,_=>by simp at h
 | a :: r,b :: q,h,hs=>by
   rw [toldBy_cons,toldBy_cons]
   have h1:=hs 0 (by simp)
   simp only [List.getD_cons_zero] at h1
   have h2:=toldBy_congr (A:=r) (B:=q) (by simpa using h) (fun i hi=>by have:=hs (i+1) (by simp;omega);simpa using this)
   rw [h2]
   congr 1
   by_cases h0:a=0
   · rw [if_pos h0,if_pos (h1.1.1 h0)]
   · rw [if_neg h0,if_neg (fun e=>h0 (h1.1.2 e)),h1.2]
theorem SameNum.told {A B:VolR} (h:SameNum A B) (t:Nat):toldBy (numsOf (cl B.C t))=toldBy (numsOf (cl A.C t)):=by
 refine toldBy_congr (by rw [numsOf_length,numsOf_length]) (fun i hi=> ?_)
 rw [numsOf_length] at hi
 rw [numsOf_get _ _ hi,numsOf_get _ _ hi]
 exact ⟨h.zero t i hi,h.same t i hi⟩
theorem SameNum.ok {A B:VolR} (h:SameNum A B) {Pc:Nat→Prop} {t:Nat} (hT:NumsOK Pc A.C t):NumsOK Pc B.C t:=by
 intro i
 by_cases hi:i<32
 · have h1:=(hT i).2
   rw [numsOf_get _ _ hi] at h1 ⊢
   exact ⟨num_lt _ _,fun h0=>by rw [h.same t i hi];exact h1 (fun e=>h0 ((h.zero t i hi).2 e))⟩
 · rw [List.getD_eq_getElem?_getD,List.getElem?_eq_none (by rw [numsOf_length];omega)]
   exact ⟨by decide,fun e=>absurd rfl e⟩
theorem spots_told {Pc:Nat→Prop} (t:Nat) (T:List Nat) (hT: ∀ i,OKN Pc (T.getD i 0)) (hl:T.length=32): ∀ k hk,(spotsTo t T hT k hk).map (fun s=>s.number%32768)=toldBy (T.take k)
 | 0,_=>rfl
 | k+1,hk=>by
   have ih:=spots_told t T hT hl k (by omega)
   have hlt:k<T.length:=by omega
   have hg:T.getD k 0=T[k]:=by rw [List.getD_eq_getElem?_getD,List.getElem?_eq_getElem hlt];rfl
   have ht:toldBy (T.take (k+1))=toldBy (T.take k)++(if T.getD k 0=0 then [] else [T.getD k 0%32768]):=by
     rw [List.take_succ_eq_append_getElem hlt,hg]
     unfold toldBy
     rw [List.filter_append,List.map_append]
     congr 1
     by_cases h:T[k]=0
     · simp [h]
     · simp [h]
   rw [ht]
   by_cases h0:T.getD k 0=0
   · rw [spotsTo_zero t T hT k hk h0,ih,if_pos h0,List.append_nil]
   · rw [spotsTo_some t T hT k hk h0,List.map_append,ih,if_neg h0];rfl
def tabsOf (V:VolR) (first:Nat):List Nat:=first :: toldBy (numsOf (cl V.C first))
structure Besides (X:Nat→Prop) (v:Nat) (bs:List (Nat × Obj)) (P:VolR→Prop) (W:World):Prop where
 vol: ∃ C1 L1 V1,VolAt W v C1 L1 V1∧P V1∧ ∀ x ∈ bs,¬ foot v C1 L1 x.1
 box: ∀ x ∈ bs,W.heap[x.1]? = some x.2
 cells: ∀ x ∈ bs,x.2.isCells=true
 free: ∀ x ∈ bs,¬ X x.1
section
variable {X Y:Nat→Prop} {v:Nat} {R:VolR→VolR→Prop} {bs:List (Nat × Obj)} {P:VolR→Prop}
theorem Besides.keep (hP: ∀ a b,P a→R a b→P b) {A B:World} (h:Besides X v bs P A) (k:KeepV X Y v R A B):Besides X v bs P B:=by
 obtain ⟨C1,L1,V1,hV,hp,hf⟩:=h.vol
 obtain ⟨C2,L2,V2,hV2,r,o2,f2⟩:=k.2.2 C1 L1 V1 hV
 exact ⟨⟨C2,L2,V2,hV2,hP _ _ hp r,fun x hx hf2=>hf x hx (f2 x.1 (blk_lt (h.box x hx)) hf2)⟩,fun x hx=>o2 x.1 x.2 (h.box x hx) (h.cells x hx) (h.free x hx) (hf x hx),h.cells,h.free⟩
theorem Besides.below {A B:World} (h:Besides X v bs P A) (k:Below A.heap.size A B):Besides X v bs P B:=by
 obtain ⟨C1,L1,V1,hV,hp,hf⟩:=h.vol
 exact ⟨⟨C1,L1,V1,hV.below k,hp,hf⟩,fun x hx=>(k.block x.1 (blk_lt (h.box x hx))).trans (h.box x hx),h.cells,h.free⟩
theorem Besides.lay {A:World} (h:Besides X v bs P A) (o:Obj) (ho:o.isCells=true) (hx: ¬ X A.heap.size):Besides X v ((A.heap.size,o) :: bs) P (A.alloc o):=by
 have h2:=h.below ((Below.refl _ A).alloc (Nat.le_refl _) o)
 obtain ⟨C1,L1,V1,hV,hp,hf⟩:=h.vol
 refine ⟨⟨C1,L1,V1,hV.alloc o,hp,fun x hx=> ?_⟩,fun x hx=> ?_,fun x hx=> ?_,fun x hx=> ?_⟩
 · rcases List.mem_cons.1 hx with rfl | hx
   · intro hf';have:=hV.foot_lt _ hf';simp at this
   · exact hf x hx
 · rcases List.mem_cons.1 hx with rfl | hx
   · exact heap_alloc_new A o
   · exact h2.box x hx
 · rcases List.mem_cons.1 hx with rfl | hx
   · exact ho
   · exact h.cells x hx
 · rcases List.mem_cons.1 hx with rfl | hx
   · assumption
   · exact h.free x hx
theorem Besides.sub {cs:List (Nat × Obj)} {W:World} (h:Besides X v bs P W) (hs: ∀ x ∈ cs,x ∈ bs):Besides X v cs P W:=by
 obtain ⟨C1,L1,V1,hV,hp,hf⟩:=h.vol
 exact ⟨⟨C1,L1,V1,hV,hp,fun x hx=>hf x (hs x hx)⟩,fun x hx=>h.box x (hs x hx),fun x hx=>h.cells x (hs x hx),fun x hx=>h.free x (hs x hx)⟩
theorem Besides.b0 {W:World} {b:Nat} {o:Obj} (h:Besides X v ((b,o) :: bs) P W):W.heap[b]? = some o:=h.box (b,o) (by simp)
theorem Besides.b1 {W:World} {a b:Nat} {p o:Obj} (h:Besides X v ((a,p) :: (b,o) :: bs) P W):W.heap[b]? = some o:=h.box (b,o) (by simp)
theorem Besides.b2 {W:World} {a b c:Nat} {p q o:Obj} (h:Besides X v ((a,p) :: (c,q) :: (b,o) :: bs) P W):W.heap[b]? = some o:=h.box (b,o) (by simp)
theorem Besides.turned {W W':World} {row:Option Nat} (h:Besides X v bs P W) (hg:W.grownBy W' row) (hr: ∀ r,row=some r→ ∃ o:Obj,W.heap[r]? = some o∧o.isCells=false):Besides X v bs P W':=by
 obtain ⟨C1,L1,V1,hV,hp,hf⟩:=h.vol
 have hk:Kept (fun k=>row=some k) W W':=⟨hg.os,hg.tape,hg.output,hg.size,fun k hk hs=>hg.block k hk (fun e=>hs e.symm)⟩
 have hn: ∀ k q,W.heap[k]? = some q→q.isCells=true→ ¬ (row=some k):=by
   intro k q hq hc e
   obtain ⟨q',hq',hc'⟩:=hr k e
   rw [hq] at hq'
   injection hq' with hq'
   subst hq'
   rw [hc] at hc'
   cases hc'
 refine ⟨⟨C1,L1,V1,hV.kept hk (fun k hf'=> ?_),hp,hf⟩,fun x hx=>hk.blk (hn _ _ (h.box x hx) (h.cells x hx)) (h.box x hx),h.cells,h.free⟩
 obtain ⟨q,hq,hqc⟩:=hV.cells hf'
 exact hn k q hq hqc
end
abbrev UM (Pc:Nat→Prop):={ m:Nat // Pc m }
theorem room_any {F:Fence} (hd:F.depth=none) (k:Nat):F.room k:=fun d h=>by rw [hd] at h;cases h
theorem yield_deep {m m':Nat} {l:Nat} {args:Array Value} {W:World} {R:Ending→World→Prop} (h:YieldAt Fence.wide m Tryz.prog l args W R):YieldAt Fence.wide m' Tryz.prog l args W R:=by
 obtain ⟨fn,tmps,assign,body,hy,hf,hR⟩:=h
 exact ⟨fn,tmps,assign,body,hy,hf,fun c cs _=>hR c cs (room_any rfl _)⟩
theorem tables_all {Pc:Nat→Prop} (n:Nat) (hn:10≤n) (X:Nat→Prop) (v bv bt first B:Nat) (V:VolR) (Cv Lv:Value) (w:World) (hV:VolAt w v Cv Lv V)
   (hbv:w.heap[bv]? = some (.cells #[.pointer (some ⟨v,0,none⟩)] 82 (0,0))) (hbt:w.heap[bt]? = some (.cells #[.int .i64 (first:Nat)] 3 (0,0))) (hXt: ¬ X bt) (hXv: ¬ X bv) (hft: ¬ foot v Cv Lv bt) (hfv: ¬ foot v Cv Lv bv)
   (hXB: ∀ k,X k→k<w.heap.size) (hfl:first<V.C.length) (hf:Pc first) (hT:NumsOK Pc V.C first):
   SeqAll n 181 #[.pointer (some ⟨bt,0,none⟩),.pointer (some ⟨bv,0,none⟩)] (fun x:UM Pc=> #[Value.int .i64 ((x.1:Nat):Int)]) (KeepV X (fun k=>B≤k) v SameNum) (fun ys=>ys.map (·.1)=tabsOf V first) 33 B w:=by
 intro l J W hW hBW hJ hY h0
 have hXW: ¬ X W.heap.size:=fun hx=>by have:=hXB _ hx;have:=hW.size;omega
 have B0:Besides X v [(bt,.cells #[.int .i64 (first:Nat)] 3 (0,0)),(bv,.cells #[.pointer (some ⟨v,0,none⟩)] 82 (0,0))] (SameNum V) W:=by
   refine ⟨⟨Cv,Lv,V,hV.below hW,SameNum.refl V,?_⟩,?_,?_,?_⟩
   · intro x hx
     simp only [List.mem_cons,List.not_mem_nil,or_false] at hx
     rcases hx with rfl | rfl
     · exact hft
     · exact hfv
   · intro x hx
     simp only [List.mem_cons,List.not_mem_nil,or_false] at hx
     rcases hx with rfl | rfl
     · exact (hW.block _ (blk_lt hbt)).trans hbt
     · exact (hW.block _ (blk_lt hbv)).trans hbv
   · intro x hx
     simp only [List.mem_cons,List.not_mem_nil,or_false] at hx
     rcases hx with rfl | rfl <;> rfl
   · intro x hx
     simp only [List.mem_cons,List.not_mem_nil,or_false] at hx
     rcases hx with rfl | rfl
     · exact hXt
     · exact hXv
 have B1:=B0.lay (.cells #[.func (.yield l) #[] #[]] 165) rfl hXW
 have hJ1:J [] (W.alloc (.cells #[.func (.yield l) #[] #[]] 165)):=hJ.alloc _ h0
 have c1:(W.alloc (.cells #[.func (.yield l) #[] #[]] 165)).cell? ⟨bt,0,none⟩=some (.int .i64 (first:Nat)):=(cell_blk B1.b1 0).trans rfl
 obtain ⟨fn,tmps,assign,body,hy,hR⟩:=hY [] ⟨first,hf⟩ _ hJ1 (by simp)
 have hVl: ∀ V1,SameNum V V1→V1.C.length=V.C.length:=fun _ h=>h.len
 refine callsIn_of_wp_marks Tryz.func181 rfl trivial ?_ rfl
 simp only [Tryz.ntmps181,List.size_toArray,List.length_cons,List.length_nil,Nat.reduceAdd,Nat.reduceSub,Array.replicate_succ,Array.replicate_zero,List.push_toArray,List.append_toArray,List.nil_append,List.cons_append]
 have B1:=hide B1
 clear B0 hbt hbv h0
 gi_wp2_with fail
 refine ⟨fun _=>by omega,hR.mono ?_⟩
 rintro e W3 ⟨rfl,hJ3,hK3⟩
 have B3:=(uh B1).keep (fun _ _ a b=>SameNum.trans a b) hK3
 obtain ⟨C3,L3,V3,hV3,hS3,hf3⟩:=B3.vol
 have c3:W3.cell? ⟨bt,0,none⟩=some (.int .i64 (first:Nat)):=(cell_blk B3.b1 0).trans rfl
 have d3:W3.cell? ⟨bv,0,none⟩=some (.pointer (some ⟨v,0,none⟩)):=(cell_blk B3.b2 0).trans rfl
 have hs3:W.heap.size+1≤W3.heap.size:=by have:=hK3.1;simp at this;omega
 have hXW3: ∀ k,W3.heap.size≤k→ ¬ X k:=fun k hk hx=>by have:=hXB _ hx;have:=hW.size;omega
 have Hn:=hide (numbers_make W3 v first)
 have hn4:=(B3.lay (.cells #[.pointer (some ⟨v,0,none⟩)] 82) rfl (hXW3 _ (Nat.le_refl _))).lay (.cells #[.int .i64 (first:Nat)] 3) rfl (hXW3 _ (by simp))
 simp only [World.size_alloc] at hn4
 have hb4:=hide hn4
 have B4:=hide (hn4.sub (cs:=[(W.heap.size,.cells #[.func (.yield l) #[] #[]] 165 (0,0))]) (by simp))
 have hJ4:=hide ((ownFrom_up hJ (C:=W.heap.size) (Nat.le_refl _)).alloc (.cells #[.int .i64 (first:Nat)] 3) (hJ.alloc (.cells #[.pointer (some ⟨v,0,none⟩)] 82) hJ3))
 have HV3:=hide hV3
 have HB3:=hide B3
 clear hn4 B3 hV3 hJ3 hJ1 B1 hR hy
 gi_wp2_with fail
 refine ⟨trivial,fun _=>by omega,(callsIn_wide.2 (uh Hn)).mono ?_⟩
 rintro e W4 ⟨rfl,rfl⟩
 gi_wp2_with fail
 generalize hW4:(W3.alloc (.cells #[.pointer (some ⟨v,0,none⟩)] 82)).alloc (.cells #[.int .i64 (first:Nat)] 3)=W4 at*
 have hV4:VolAt W4 v C3 L3 V3:=by rw [← hW4];exact ((uh HV3).alloc _).alloc _
 have hs4:W4.heap.size=W3.heap.size+2:=by rw [← hW4];simp
 have hfn: ¬ foot v C3 L3 (W3.heap.size+1):=fun hf=>by have:=(uh HV3).foot_lt _ hf;omega
 have hNS:=numbers_stops (Pc:=Pc) (n - 1) (by omega) X (fun _=>False) SameNum v W3.heap.size (W3.heap.size+1) first V3 C3 L3 W4 hV4 (uh hb4).b1 (uh hb4).b0 (hXW3 _ (by omega)) hfn (by rw [hS3.len];exact hfl) (hS3.ok hT)
 have htold:(spots V3 first (hS3.ok (Pc:=Pc) hT)).map (fun s=>s.number%32768)=toldBy (numsOf (cl V.C first)):=by
   rw [← hS3.told first]
   have:=spots_told first (numsOf (cl V3.C first)) (hS3.ok (Pc:=Pc) hT) (numsOf_length _) 32 (Nat.le_refl _)
   rw [List.take_of_length_le (by rw [numsOf_length];exact Nat.le_refl _)] at this
   exact this
 clear hb4 hW4 HV3 HB3 hf3 c3 d3 c1 hV4 hfn
 refine wpIn_rangeFunc_ownH rfl (by omega) (gf:=182) (lb:= #[.pointer (some ⟨W3.heap.size,0,none⟩),.pointer (some ⟨W3.heap.size+1,0,none⟩)]) rfl trivial (enters_of Tryz.func182 (by kernel_rfl) rfl) hNS (fun h k=>KeepV.trans (R:=SameNum) (fun _ _ _ a b=>a.trans b) h k) (fun W l o o' _ hl hc _=>KeepV.turn SameNum.refl W l o o' hl hc id) (Below.refl _ _) (fun _=>rfl)
   (fun pre W'=>J (⟨first,hf⟩ :: pre.map (fun s=>⟨s.number%32768,s.hc⟩)) W'∧Besides X v [(W.heap.size,.cells #[.func (.yield l) #[] #[]] 165 (0,0))] (SameNum V) W')
   (fun _ _ _=>False)
   (fun _ _ _ _ hs hg hr=>⟨hJ _ _ _ _ hs.1 hg (fun r e=>⟨by have:=(hr r e).1;omega,(hr r e).2⟩),hs.2.turned hg (fun r e=>(hr r e).2)⟩)
   (fun _ _ _ _ _ hs _ _=>hs)
   ⟨uh hJ4,uh B4⟩
   (fun x a' W'=> ∃ bx,W'.heap[bx]? = some (.cells #[.int .i64 ((x.table:Nat):Int),.int .i64 ((x.index:Nat):Int),.int .u16 ((x.number:Nat):Int)] 219 (0,0))∧a'={ tmps:= #[.func (.yield l) #[] #[],.pointer (some ⟨bt,0,none⟩),.pointer (some ⟨bv,0,none⟩),.pointer (some ⟨W.heap.size,0,none⟩),.pointer (some ⟨bx,0,none⟩),.func (.yield l) #[] #[],.int .i64 (first:Nat),.bool true,.bool false,.pointer (some ⟨v,0,none⟩),.int .i64 (first:Nat),.func (.func 182) #[] #[.pointer (some ⟨W3.heap.size,0,none⟩),.pointer (some ⟨W3.heap.size+1,0,none⟩)],spotVal x,undef,undef,undef,undef,undef,undef],defers:=[] })
   (fun x a' _ A' B' row hs hg hr=>by
     obtain ⟨bx,h2,h3⟩:=hs
     refine ⟨bx,?_,h3⟩
     rw [hg.block bx (blk_lt h2) (fun e=>by
       obtain ⟨_,o,ho,hc⟩:=hr bx e.symm
       rw [h2] at ho
       injection ho with ho
       subst ho
       cases hc)]
     exact h2)
   ?assign ?body ?done ?stop
 case assign=>
   rintro l2 pre x W' K ⟨hJx,hBx⟩ hK
   unfold spotVal
   gi_wp2
   exact hK _ _ ((KeepsOthers.alloc _ _).from _) (KeepV.below SameNum.refl ((Below.refl _ _).alloc (Nat.le_refl _) _)) ⟨hJ.alloc _ hJx,hBx.below ((Below.refl _ _).alloc (Nat.le_refl _) _)⟩ ⟨_,heap_alloc_new _ _,rfl⟩
 case body=>
   rintro l2 pre x a' W' hl2 ⟨r,hr⟩ ⟨hJx,hBx⟩ ⟨bx,hbx,rfl⟩ hlen
   have c1:W'.cell? ⟨W.heap.size,0,none⟩=some (.func (.yield l) #[] #[]):=(cell_blk hBx.b0 0).trans rfl
   have c2:W'.cell? ⟨bx,2,none⟩=some (.int .u16 ((x.number:Nat):Int)):=(cell_blk hbx 2).trans rfl
   have Hc:Hid (∀ W,_):=fun W=>cluster_of x.number x.hn W
   have hJd:J (⟨first,hf⟩ :: pre.map (fun s=>⟨s.number%32768,s.hc⟩)) W'.drew:=hJ _ W' W'.drew none hJx ⟨rfl,rfl,rfl,Nat.le_refl _,fun _ _ _=>rfl⟩ (fun r e=>by cases e)
   have hap:(⟨first,hf⟩ :: pre.map (fun s:SpotR Pc=>(⟨s.number%32768,s.hc⟩:UM Pc)))++[⟨x.number%32768,x.hc⟩]=⟨first,hf⟩ :: (pre++[x]).map (fun s=>⟨s.number%32768,s.hc⟩):=by simp
   have hY':=hY _ ⟨x.number%32768,x.hc⟩ W'.drew hJd (by simp;omega)
   rw [hap] at hY'
   obtain ⟨fn2,tmps2,assign2,body2,hy2,hR2⟩:=yield_deep (m':=n - 1 - 1 - 1) hY'
   have Hx:=x.hn
   have hB2:=hide (hBx.below (B:=W'.drew) ⟨rfl,rfl,rfl,Nat.le_refl _,fun _ _=>rfl⟩)
   dsimp only at hy2
   clear hJd hY' hJx hBx hap hbx
   generalize x.number%32768=cc at*
   generalize x.number=nn at*
   generalize spotVal x=sv at*
   gi_wp2
   gi_region_with (first
     | (refine ⟨trivial,fun _=>by omega,(CallsIn.inRound l2 (callsIn_wide.2 (uh Hc _))).mono ?_⟩
        rintro e w3 ⟨rfl,rfl⟩)
     | (refine ⟨fun _=>by omega,RoundIn.mono hR2 ?_⟩
        rintro e w3 ⟨rfl,hJ5,hK5⟩))
   all_goals
     have B5:=(uh hB2).keep (fun _ _ a b=>SameNum.trans a b) hK5
     have hKF:KeepsFrom W4.heap.size W' w3:=⟨hK5.1,fun k o hB hk ho=>hK5.2.1 k o hk ho (by omega)⟩
     have hK6:KeepV X (fun _=>False) v SameNum W' w3:=KeepV.trans (R:=SameNum) (fun _ _ _ a b=>SameNum.trans a b) (KeepV.below SameNum.refl (B:=W'.drew) ⟨rfl,rfl,rfl,Nat.le_refl _,fun _ _=>rfl⟩) (hK5.weak (Y':=fun _=>False) (fun _ h=>False.elim h))
     gi_wp2
     exact ⟨hKF,hK6,hJ5,B5⟩
 case done=>
   rintro D ys W' hD hS ⟨hJx,_⟩ hK
   gi_wp2
   refine ⟨by simp,.inl ⟨_,_,rfl,run_takeDeferred hK,?_⟩⟩
   refine ⟨_,results_none rfl _ _ _,⟨_,rfl⟩,_,?_,hJ.putObj _ hJx (by omega) hK rfl⟩
   rw [List.map_cons,List.map_map,hS,tabsOf,← htold]
   rfl
 case stop=>
   rintro D c pre W' _ _ h _
   exact h.elim
theorem byteAt_set (c:List UInt8) (i:Nat) (b:UInt8) (j:Nat) (hi:i<c.length):byteAt (c.set i b) j=if i=j then b.toNat else byteAt c j:=by
 unfold byteAt
 rw [List.getD_eq_getElem?_getD,List.getElem?_set]
 by_cases h:i=j
 · rw [if_pos h,if_pos h,if_pos hi];rfl
 · rw [if_neg h,if_neg h,List.getD_eq_getElem?_getD]
theorem toNat_ofNat (n:Nat) (h:n<256):(UInt8.ofNat n).toNat=n:=by rw [UInt8.toNat_ofNat'];omega
theorem num_put_same (c:Clus) (k n:Nat) (hk:k+1<c.length) (hn:n<65536):num (putNum c k n) k=n:=by
 unfold num putNum
 have e1:k+1<(c.set k (UInt8.ofNat (n / 256))).length:=by rw [List.length_set];exact hk
 have e2:k<c.length:=by omega
 rw [byteAt_set _ _ _ _ e1,byteAt_set _ _ _ _ e1,byteAt_set _ _ _ _ e2,if_neg (by omega),if_pos rfl,if_pos rfl,toNat_ofNat _ (by omega),toNat_ofNat _ (by omega)]
 omega
theorem num_put_other (c:Clus) (k n j:Nat) (hk:k+1<c.length) (hj:j+1<k∨k+1<j):num (putNum c k n) j=num c j:=by
 unfold num putNum
 have e1:k+1<(c.set k (UInt8.ofNat (n / 256))).length:=by rw [List.length_set];exact hk
 have e2:k<c.length:=by omega
 rw [byteAt_set _ _ _ _ e1,byteAt_set _ _ _ _ e1,byteAt_set _ _ _ _ e2,byteAt_set _ _ _ _ e2,if_neg (by omega),if_neg (by omega),if_neg (by omega),if_neg (by omega)]
theorem num_bytesTo (T:List Nat) (hT: ∀ i,T.getD i 0<65536): ∀ k,k≤32→ ∀ i,i<k→num (bytesTo T k) (2*i)=T.getD i 0
 | 0,_,i,hi=>by omega
 | k+1,hk,i,hi=>by
   rw [bytesTo]
   by_cases h:i=k
   · subst h
     exact num_put_same _ _ _ (by rw [bytesTo_length];omega) (hT i)
   · rw [num_put_other _ _ _ _ (by rw [bytesTo_length];omega) (by omega)]
     exact num_bytesTo T hT k (by omega) i (by omega)
theorem num_bytesOf (T:List Nat) (hT: ∀ i,T.getD i 0<65536) (i:Nat) (hi:i<32):num (bytesOf T) (2*i)=T.getD i 0:=num_bytesTo T hT 32 (Nat.le_refl _) i hi
def chgT (ch:Nat→Nat) (T:List Nat):List Nat:=T.map fun n=>if n=0 then 0 else ch n
theorem chgT_length (ch:Nat→Nat) (T:List Nat):(chgT ch T).length=T.length:=by simp [chgT]
theorem chgT_get (ch:Nat→Nat) (T:List Nat) (i:Nat):(chgT ch T).getD i 0=if T.getD i 0=0 then 0 else ch (T.getD i 0):=by
 unfold chgT
 rw [List.getD_eq_getElem?_getD,List.getD_eq_getElem?_getD,List.getElem?_map]
 cases h:T[i]? with
 | none=>simp
 | some x=>simp
def renumTab (ch:Nat→Nat) (V:VolR) (t:Nat):VolR:=putV V t (bytesOf (chgT ch (numsOf (cl V.C t))))
def renumV (ch:Nat→Nat) (V:VolR) (ts:List Nat):VolR:=ts.foldl (renumTab ch) V
theorem renumV_snoc (ch:Nat→Nat) (V:VolR) (ts:List Nat) (t:Nat):renumV ch V (ts++[t])=renumTab ch (renumV ch V ts) t:=by simp [renumV]
def Marks (ch:Nat→Nat):Prop:= ∀ n,n<65536→n≠0→6≤n%32768→ch n<65536∧ch n%32768=n%32768
theorem cl_set (C:List Clus) (k:Nat) (c:Clus) (hk:k<C.length) (t:Nat):cl (C.set k c) t=if k=t then c else cl C t:=by
 unfold cl
 rw [List.getD_eq_getElem?_getD,List.getElem?_set]
 by_cases h:k=t
 · rw [if_pos h,if_pos h,if_pos hk];rfl
 · rw [if_neg h,if_neg h,List.getD_eq_getElem?_getD]
theorem putV_cl (V:VolR) (n:Nat) (d:Clus) (hn:n<V.C.length) (t:Nat):cl (putV V n d).C t=if n=t then d else cl V.C t:=by
 unfold putV
 split
 · rename_i h
   by_cases e:n=t
   · subst e;rw [if_pos rfl];exact h.2
   · rw [if_neg e]
 · have:growTo V.C (n+1)=V.C:=by unfold growTo;rw [show n+1 - V.C.length=0 by omega];simp
   show cl ((growTo V.C (n+1)).set n d) t=_
   rw [this]
   exact cl_set V.C n d hn t
theorem chgT_lt {ch:Nat→Nat} (hch:Marks ch) {Pc:Nat→Prop} (h6: ∀ c,Pc c→6≤c) {T:List Nat} (hT: ∀ i,OKN Pc (T.getD i 0)): ∀ i,(chgT ch T).getD i 0<65536:=by
 intro i
 rw [chgT_get]
 split
 · decide
 · rename_i h
   exact (hch _ (hT i).1 h (h6 _ ((hT i).2 h))).1
theorem renumTab_same {ch:Nat→Nat} (hch:Marks ch) {V:VolR} {t:Nat} (h6:6≤t) (ht:t<V.C.length) {Pc:Nat→Prop} (hP6: ∀ c,Pc c→6≤c) (hT:NumsOK Pc V.C t):SameNum V (renumTab ch V t):=by
 have hlt:=chgT_lt hch hP6 hT
 refine ⟨by unfold renumTab;rw [putV_lenC];omega,fun k hk=> ?_,fun k i hi=> ?_,fun k i hi=> ?_⟩
 · unfold renumTab;rw [putV_cl V t _ ht,if_neg (by omega)]
 · unfold renumTab
   rw [putV_cl V t _ ht]
   by_cases e:t=k
   · subst e
     rw [if_pos rfl,num_bytesOf _ hlt i hi,chgT_get,numsOf_get _ _ hi]
     split
     · rename_i h;simp [h]
     · rename_i h
       have h1:=hT i
       rw [numsOf_get _ _ hi] at h1
       have h2:=hch _ h1.1 h (hP6 _ (h1.2 h))
       refine ⟨fun e=> ?_,fun e=>absurd e h⟩
       rw [e] at h2
       have:=hP6 _ (h1.2 h)
       omega
   · rw [if_neg e]
 · unfold renumTab
   rw [putV_cl V t _ ht]
   by_cases e:t=k
   · subst e
     rw [if_pos rfl,num_bytesOf _ hlt i hi,chgT_get,numsOf_get _ _ hi]
     split
     · rename_i h;rw [h]
     · rename_i h
       have h1:=hT i
       rw [numsOf_get _ _ hi] at h1
       exact (hch _ h1.1 h (hP6 _ (h1.2 h))).2
   · rw [if_neg e]
theorem renumTab_lenL (ch:Nat→Nat) (V:VolR) (t:Nat):(renumTab ch V t).L.length≤V.L.length+2:=putV_lenL _ _ _
def applySpots {Pc:Nat→Prop} (ch:Nat→Nat) (T:List Nat) (ss:List (SpotR Pc)):List Nat:=ss.foldl (fun T s=>T.set s.index (ch s.number)) T
theorem applySpots_snoc {Pc:Nat→Prop} (ch:Nat→Nat) (T:List Nat) (ss:List (SpotR Pc)) (s:SpotR Pc):applySpots ch T (ss++[s])=(applySpots ch T ss).set s.index (ch s.number):=by simp [applySpots]
theorem applySpots_length {Pc:Nat→Prop} (ch:Nat→Nat) (T:List Nat) (ss:List (SpotR Pc)):(applySpots ch T ss).length=T.length:=by
 unfold applySpots
 induction ss generalizing T with
 | nil=>rfl
 | cons a r ih=>simp only [List.foldl_cons];rw [ih];simp
theorem getD_set (T:List Nat) (k n i:Nat) (hk:k<T.length):(T.set k n).getD i 0=if k=i then n else T.getD i 0:=by
 rw [List.getD_eq_getElem?_getD,List.getElem?_set]
 by_cases h:k=i
 · rw [if_pos h,if_pos h,if_pos hk];rfl
 · rw [if_neg h,if_neg h,List.getD_eq_getElem?_getD]
theorem applySpots_get {Pc:Nat→Prop} (ch:Nat→Nat) (t:Nat) (T:List Nat) (hT: ∀ i,OKN Pc (T.getD i 0)) (hl:T.length=32): ∀ k hk i,(applySpots ch T (spotsTo t T hT k hk)).getD i 0=if i<k then (chgT ch T).getD i 0 else T.getD i 0
 | 0,_,i=>by simp [spotsTo,applySpots]
 | k+1,hk,i=>by
   have ih:=applySpots_get ch t T hT hl k (by omega)
   by_cases h0:T.getD k 0=0
   · rw [spotsTo_zero t T hT k hk h0,ih i]
     by_cases e:i=k
     · subst e;rw [if_neg (by omega),if_pos (by omega),chgT_get,if_pos h0,h0]
     · by_cases h:i<k
       · rw [if_pos h,if_pos (by omega)]
       · rw [if_neg h,if_neg (by omega)]
   · rw [spotsTo_some t T hT k hk h0,applySpots_snoc,getD_set _ _ _ _ (by rw [applySpots_length];dsimp only;omega),ih i]
     dsimp only
     by_cases e:k=i
     · subst e;rw [if_pos rfl,if_pos (by omega),chgT_get,if_neg h0]
     · rw [if_neg e]
       by_cases h:i<k
       · rw [if_pos h,if_pos (by omega)]
       · rw [if_neg h,if_neg (by omega)]
theorem list_ext_getD {A B:List Nat} (h:A.length=B.length) (hg: ∀ i,i<A.length→A.getD i 0=B.getD i 0):A=B:=by
 refine List.ext_getElem h fun i h1 h2=> ?_
 have:=hg i h1
 rwa [List.getD_eq_getElem?_getD,List.getD_eq_getElem?_getD,List.getElem?_eq_getElem h1,List.getElem?_eq_getElem h2] at this
theorem applySpots_all {Pc:Nat→Prop} (ch:Nat→Nat) (t:Nat) (T:List Nat) (hT: ∀ i,OKN Pc (T.getD i 0)) (hl:T.length=32):applySpots ch T (spotsTo t T hT 32 (Nat.le_refl _))=chgT ch T:=by
 refine list_ext_getD (by rw [applySpots_length,chgT_length]) fun i hi=> ?_
 rw [applySpots_length,hl] at hi
 rw [applySpots_get ch t T hT hl,if_pos hi]
end Go.Proofs.YtknjjjenklfeoaaGreatDoor
