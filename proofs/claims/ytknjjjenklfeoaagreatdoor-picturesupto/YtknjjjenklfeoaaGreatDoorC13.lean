import Derived.Test.YtknjjjenklfeoaaGreatDoorC12
import Derived.RangeFuncNested
import Derived.RangeFuncBound
import Derived.RangeFuncCalls
import Derived.RangeFuncLeaves
import Derived.Shelf.Abstract
import Derived.Shelf.RegionOpen
import Derived.WalkKit
import Derived.OwnWalkIn
import Derived.TacticsInMore
import Derived.LoopNIn
import Derived.LoopIn
set_option maxHeartbeats 8000000
set_option maxRecDepth 100000
namespace Go.Proofs.YtknjjjenklfeoaaGreatDoor
open Go.RowKit Go.Shelf
attribute [local go_sem ↓] loadVar_clus storeVar_clus zeroValue_clus loadVar_tab storeVar_tab zeroValue_tab loadVar_cnt storeVar_cnt zeroValue_cnt loadVar_head storeVar_head zeroValue_head build_head buildSlice_clus loadVar_wr storeVar_wr zeroValue_wr build_wr buildSlice_wr equalIn_clus loadVar_place storeVar_place zeroValue_place build_place
attribute [local go_sem] run_loadClus run_storeClus run_zeroClus run_storeClus_new run_loadClus_new zc_length run_loadTab run_storeTab run_zeroTab run_storeTab_new run_loadTab_new zt_length run_loadCnt run_storeCnt run_zeroCnt run_storeCnt_new run_loadCnt_new zk_length run_loadHead run_storeHead run_zeroHead run_storeHead_new run_bHead HasAt_drew cellsAt_drew HasAt_drewN cellsAt_drewN run_bsClus run_loadWr run_zeroWr run_storeWr run_storeWr_new run_bWr0 run_bsWr run_loadPlace run_storePlace run_zeroPlace run_storePlace_new run_bPlace
attribute [local go_sem] field_head1 field_head0 Oper.semAt_some
theorem cv_inj {a b:List UInt8} (h:cv a=cv b):a=b:=by
 unfold cv at h
 refine List.map_inj_right (fun x y hxy=> ?_) |>.1 h
 injection hxy with _ h2
 exact UInt8.toNat_inj.1 (by omega)
theorem flatC_inj: ∀ {A B:List Clus},(∀ c ∈ A,c.length=64)→(∀ c ∈ B,c.length=64)→flatC A=flatC B→A=B
 | [],[],_,_,_=>rfl
 | [],b :: r,_,hB,h=>by
   have h1:=hB b (by simp)
   have:=congrArg List.length h
   simp [flatC,cv_length,h1] at this
   omega
 | a :: r,[],hA,_,h=>by
   have h1:=hA a (by simp)
   have:=congrArg List.length h
   simp [flatC,cv_length,h1] at this
 | a :: r,b :: q,hA,hB,h=>by
   have h1:=hA a (by simp)
   have h2:=hB b (by simp)
   simp only [flatC,List.flatMap_cons] at h
   have h3:=List.append_inj h (by rw [cv_length,cv_length,h1,h2])
   rw [cv_inj h3.1,flatC_inj (fun c hc=>hA c (by simp [hc])) (fun c hc=>hB c (by simp [hc])) h3.2]
theorem flatW_inj: ∀ {A B:List WrR},(∀ c ∈ A,c.data.length=64)→(∀ c ∈ B,c.data.length=64)→flatW A=flatW B→A=B
 | [],[],_,_,_=>rfl
 | [],b :: r,_,_,h=>by
   have:=congrArg List.length h
   simp [flatW,wrCells] at this
 | a :: r,[],_,_,h=>by
   have:=congrArg List.length h
   simp [flatW,wrCells] at this
 | a :: r,b :: q,hA,hB,h=>by
   have h1:=hA a (by simp)
   have h2:=hB b (by simp)
   simp only [flatW,List.flatMap_cons] at h
   have h3:=List.append_inj h (by rw [wrCells_length h1,wrCells_length h2])
   have h4:=h3.1
   simp only [wrCells,List.cons.injEq] at h4
   have h5:a=b:=by
     obtain ⟨ac,ad⟩:=a
     obtain ⟨bc,bd⟩:=b
     have e1:=h4.1
     injection e1 with _ e1
     have e2:=cv_inj h4.2
     dsimp only at e1 e2
     rw [e1,e2]
   rw [h5,flatW_inj (fun c hc=>hA c (by simp [hc])) (fun c hc=>hB c (by simp [hc])) h3.2]
theorem row_unique {w:World} {b1 b2:Nat} {e:TypeId} {size:Nat} {v:Value} {n1 n2:Nat} {xs ys:List Value} (h1:w.ownsRow b1 e size v n1 xs) (h2:w.ownsRow b2 e size v n2 ys):n1=n2∧xs=ys:=by
 obtain ⟨a1,c1,e1⟩:=row_form h1
 obtain ⟨a2,c2,e2⟩:=row_form h2
 rw [e1] at e2
 injection e2 with e3 e4 e5
 subst e4
 refine ⟨rfl,?_⟩
 rcases h1.2 with ⟨f1,f2⟩ | ⟨g,cap,cur,rfl,_,hh,_,_,_,ht⟩
 · have:=h1.1;have h22:=h2.1
   rw [f2,Nat.zero_mul] at this h22
   rw [List.length_eq_zero_iff.1 this,List.length_eq_zero_iff.1 h22]
 · rcases h2.2 with ⟨f1,f2⟩ | ⟨g',cap',cur',e',_,hh',_,_,_,ht'⟩
   · cases f1
   · injection e' with x1 _ _
     injection x1 with x1
     injection x1 with x1 _ _
     subst x1
     rw [hh] at hh'
     simp only [Option.some.injEq,Obj.cells.injEq] at hh'
     rw [← ht,← ht',hh'.1]
theorem VolAt.unique {w:World} {v:Nat} {C1 L1 C2 L2:Value} {V1 V2:VolR} (h:VolAt w v C1 L1 V1) (k:VolAt w v C2 L2 V2):C1=C2∧L1=L2∧V1=V2:=by
 have hb:=h.blk
 rw [k.blk] at hb
 simp only [volCells,Option.some.injEq,Obj.cells.injEq,Array.mk.injEq,List.cons.injEq,Value.bool.injEq,and_true] at hb
 obtain ⟨e1,e2,e3⟩:=hb
 subst e1
 subst e2
 have a1:=flatC_inj h.lenC k.lenC (row_unique h.rowC k.rowC).2
 have a2:=flatW_inj h.lenL k.lenL (row_unique h.rowL k.rowL).2
 obtain ⟨c,l,o,s⟩:=V1
 obtain ⟨c',l',o',s'⟩:=V2
 dsimp only at a1 a2 e3
 obtain ⟨e3,e4⟩:=e3
 subst a1
 subst a2
 subst e3
 subst e4
 exact ⟨rfl,rfl,rfl⟩
def KeepV (X Y:Nat→Prop) (v:Nat) (R:VolR→VolR→Prop) (A B:World):Prop:=
 A.heap.size≤B.heap.size∧(∀ k o,A.heap[k]? = some o→o.isCells=false→Y k→B.heap[k]? = some o)∧ ∀ C1 L1 V1,VolAt A v C1 L1 V1→ ∃ C2 L2 V2,VolAt B v C2 L2 V2∧R V1 V2∧
   (∀ k o,A.heap[k]? = some o→o.isCells=true→ ¬ X k→ ¬ foot v C1 L1 k→B.heap[k]? = some o)∧(∀ k,k<A.heap.size→foot v C2 L2 k→foot v C1 L1 k)
theorem VolAt.cells {w:World} {v:Nat} {C1 L1:Value} {V1:VolR} (hV:VolAt w v C1 L1 V1) {k:Nat} (hf:foot v C1 L1 k): ∃ o,w.heap[k]? = some o∧o.isCells=true:=by
 rcases hf with rfl | e | e
 · exact ⟨_,hV.blk,rfl⟩
 · rcases hV.rowC.2 with ⟨rfl,_⟩ | ⟨g',cap,cur,rfl,_,hh,_⟩
   · cases e
   · simp only [Value.ownBlock,Option.some.injEq] at e;subst e;exact ⟨_,hh,rfl⟩
 · rcases hV.rowL.2 with ⟨rfl,_⟩ | ⟨g',cap,cur,rfl,_,hh,_⟩
   · cases e
   · simp only [Value.ownBlock,Option.some.injEq] at e;subst e;exact ⟨_,hh,rfl⟩
theorem VolAt.notCells {w:World} {v:Nat} {C1 L1:Value} {V1:VolR} (hV:VolAt w v C1 L1 V1) {k:Nat} {o:Obj} (ho:w.heap[k]? = some o) (hc:o.isCells=false): ¬ foot v C1 L1 k:=by
 intro hf
 obtain ⟨q,hq,hqc⟩:=hV.cells hf
 rw [ho] at hq
 injection hq with hq
 subst hq
 rw [hc] at hqc
 cases hqc
section
variable {X Y:Nat→Prop} {v:Nat} {R:VolR→VolR→Prop}
theorem KeepV.trans (hR: ∀ a b c,R a b→R b c→R a c) {A B C:World} (h:KeepV X Y v R A B) (k:KeepV X Y v R B C):KeepV X Y v R A C:=by
 refine ⟨Nat.le_trans h.1 k.1,fun i o hi hc hy=>k.2.1 i o (h.2.1 i o hi hc hy) hc hy,fun C1 L1 V1 hV=> ?_⟩
 obtain ⟨C2,L2,V2,hV2,r2,o2,f2⟩:=h.2.2 C1 L1 V1 hV
 obtain ⟨C3,L3,V3,hV3,r3,o3,f3⟩:=k.2.2 C2 L2 V2 hV2
 exact ⟨C3,L3,V3,hV3,hR _ _ _ r2 r3,fun i o hi hc hx hf=>o3 i o (o2 i o hi hc hx hf) hc hx (fun hf2=>hf (f2 i (blk_lt hi) hf2)),fun i hi hf=>f2 i hi (f3 i (Nat.lt_of_lt_of_le hi h.1) hf)⟩
theorem KeepV.turn (hR: ∀ a,R a a) (W:World) (l:Nat) (o o':Obj) (hl:W.heap[l]? = some o) (ho:o.isCells=false) (hy: ¬ Y l):KeepV X Y v R W (W.putObj l o'):=by
 have hg:=grownBy_putObj' W l o'
 have hk:Kept (fun k=>k=l) W (W.putObj l o'):=⟨hg.os,hg.tape,hg.output,hg.size,fun k hk hs=>hg.block k hk (fun e=>hs (by injection e))⟩
 refine ⟨hk.size,fun k q hq _ hyk=>hk.blk (by rintro rfl;exact hy hyk) hq,fun C1 L1 V1 hV=> ?_⟩
 have hn: ∀ k q,W.heap[k]? = some q→q.isCells=true→ ¬ (k=l):=by
   rintro k q hq hc rfl
   rw [hl] at hq
   injection hq with hq
   subst hq
   rw [ho] at hc
   cases hc
 have hf: ∀ k,foot v C1 L1 k→ ¬ (k=l):=by
   intro k hf
   obtain ⟨q,hq,hqc⟩:=hV.cells hf
   exact hn k q hq hqc
 exact ⟨C1,L1,V1,hV.kept hk hf,hR _,fun k q hq hc _ _=>hk.blk (hn k q hq hc) hq,fun _ _ hf=>hf⟩
theorem KeepV.of {A B:World} {C1 L1 C2 L2:Value} {V1 V2:VolR} (h:VolAt A v C1 L1 V1) (hB:VolAt B v C2 L2 V2) (hs:A.heap.size≤B.heap.size) (r:R V1 V2)
   (y: ∀ k o,A.heap[k]? = some o→o.isCells=false→Y k→B.heap[k]? = some o)
   (o: ∀ k o,A.heap[k]? = some o→o.isCells=true→ ¬ X k→ ¬ foot v C1 L1 k→B.heap[k]? = some o) (f: ∀ k,k<A.heap.size→foot v C2 L2 k→foot v C1 L1 k):KeepV X Y v R A B:=by
 refine ⟨hs,y,fun C1' L1' V1' hV=> ?_⟩
 obtain ⟨rfl,rfl,rfl⟩:=h.unique hV
 exact ⟨C2,L2,V2,hB,r,o,f⟩
theorem KeepV.step {A B:World} {C1 L1 C2 L2:Value} {V1 V2:VolR} (h:VolAt A v C1 L1 V1) (hs:VStep A B v C1 L1 C2 L2 V2) (r:R V1 V2):KeepV X Y v R A B:=
 KeepV.of h hs.at' hs.kept.size r (fun _ _ ho hc _=>hs.kept.blk (h.notCells ho hc) ho) (fun _ _ ho _ _ hf=>hs.kept.blk hf ho) (fun k hk hf=>(hs.new k hf).elim id (by omega))
theorem KeepV.own {A B:World} {C1 L1:Value} {V1:VolR} (h:VolAt A v C1 L1 V1) {S:Nat→Prop} (hk:Kept S A B) (hS: ∀ k,S k→X k∧ ¬ foot v C1 L1 k∧ ∃ o,A.heap[k]? = some o∧o.isCells=true) (r:R V1 V1):KeepV X Y v R A B:=
 KeepV.of h (h.kept hk (fun k hf hs=>(hS k hs).2.1 hf)) hk.size r (fun k o ho hc _=>hk.blk (fun hs=>by
   obtain ⟨q,hq,hqc⟩:=(hS k hs).2.2
   rw [ho] at hq
   injection hq with hq
   subst hq
   rw [hc] at hqc
   cases hqc) ho) (fun k _ ho _ hx _=>hk.blk (fun hs=>hx (hS k hs).1) ho) (fun _ _ hf=>hf)
theorem KeepV.below (hR: ∀ a,R a a) {A B:World} (h:Below A.heap.size A B):KeepV X Y v R A B:=
 ⟨h.size,fun k _ ho _ _=>(h.block k (blk_lt ho)).trans ho,fun C1 L1 V1 hV=>⟨C1,L1,V1,hV.below h,hR _,fun k _ ho _ _ _=>(h.block k (blk_lt ho)).trans ho,fun _ _ hf=>hf⟩⟩
theorem KeepV.weak {Y':Nat→Prop} {A B:World} (h:KeepV X Y v R A B) (hy: ∀ k,Y' k→Y k):KeepV X Y' v R A B:=⟨h.1,fun k o ho hc hy'=>h.2.1 k o ho hc (hy k hy'),h.2.2⟩
structure Beside (X:Nat→Prop) (v b:Nat) (o:Obj) (P:VolR→Prop) (W:World):Prop where
 vol: ∃ C1 L1 V1,VolAt W v C1 L1 V1∧P V1∧ ¬ foot v C1 L1 b
 box:W.heap[b]? = some o
 cells:o.isCells=true
 free: ¬ X b
theorem Beside.keep {b:Nat} {o:Obj} {P:VolR→Prop} (hP: ∀ a b,P a→R a b→P b) {A B:World} (h:Beside X v b o P A) (k:KeepV X Y v R A B):Beside X v b o P B:=by
 obtain ⟨C1,L1,V1,hV,hp,hf⟩:=h.vol
 obtain ⟨C2,L2,V2,hV2,r,o2,f2⟩:=k.2.2 C1 L1 V1 hV
 exact ⟨⟨C2,L2,V2,hV2,hP _ _ hp r,fun hf2=>hf (f2 b (blk_lt h.box) hf2)⟩,o2 b o h.box h.cells h.free hf,h.cells,h.free⟩
theorem Beside.below {b:Nat} {o:Obj} {P:VolR→Prop} {A B:World} (h:Beside X v b o P A) (k:Below A.heap.size A B):Beside X v b o P B:=by
 obtain ⟨C1,L1,V1,hV,hp,hf⟩:=h.vol
 exact ⟨⟨C1,L1,V1,hV.below k,hp,hf⟩,(k.block b (blk_lt h.box)).trans h.box,h.cells,h.free⟩
theorem Beside.turned {b:Nat} {o:Obj} {P:VolR→Prop} {W W':World} {row:Option Nat} (h:Beside X v b o P W) (hg:W.grownBy W' row) (hr: ∀ r,row=some r→ ∃ o:Obj,W.heap[r]? = some o∧o.isCells=false):Beside X v b o P W':=by
 obtain ⟨C1,L1,V1,hV,hp,hf⟩:=h.vol
 have hk:Kept (fun k=>row=some k) W W':=⟨hg.os,hg.tape,hg.output,hg.size,fun k hk hs=>hg.block k hk (fun e=>hs e.symm)⟩
 have hn: ∀ k q,W.heap[k]? = some q→q.isCells=true→ ¬ (row=some k):=by
   intro k q hq hc e
   obtain ⟨q',hq',hc'⟩:=hr k e
   rw [hq] at hq'
   injection hq' with hq'
   subst hq'
   rw [hc] at hc'
   cases hc'
 refine ⟨⟨C1,L1,V1,hV.kept hk (fun k hf'=> ?_),hp,hf⟩,hk.blk (hn b o h.box h.cells) h.box,h.cells,h.free⟩
 obtain ⟨q,hq,hqc⟩:=hV.cells hf'
 exact hn k q hq hqc
end
theorem numbers_make (w:World) (v table:Nat):Calls Tryz.prog 172 #[.pointer (some ⟨v,0,none⟩),.int .i64 (table:Nat)] w fun e w'=>
   e= .returned (.func (.func 182) #[] #[.pointer (some ⟨w.heap.size,0,none⟩),.pointer (some ⟨w.heap.size+1,0,none⟩)])∧w'=(w.alloc (.cells #[.pointer (some ⟨v,0,none⟩)] 82)).alloc (.cells #[.int .i64 (table:Nat)] 3):=by
 go_enter Tryz.func172,Tryz.ntmps172
 go_wp2
 go_ret
 exact ⟨rfl,rfl⟩
theorem tables_make (w:World) (v table:Nat):Calls Tryz.prog 171 #[.pointer (some ⟨v,0,none⟩),.int .i64 (table:Nat)] w fun e w'=>
   e= .returned (.func (.func 181) #[] #[.pointer (some ⟨w.heap.size+1,0,none⟩),.pointer (some ⟨w.heap.size,0,none⟩)])∧w'=(w.alloc (.cells #[.pointer (some ⟨v,0,none⟩)] 82)).alloc (.cells #[.int .i64 (table:Nat)] 3):=by
 go_enter Tryz.func171,Tryz.ntmps171
 go_wp2
 go_ret
 exact ⟨rfl,rfl⟩
theorem firsts_make (w:World) (v:Nat):Calls Tryz.prog 150 #[.pointer (some ⟨v,0,none⟩)] w fun e w'=>
   e= .returned (.func (.func 173) #[] #[.pointer (some ⟨w.heap.size,0,none⟩)])∧w'=w.alloc (.cells #[.pointer (some ⟨v,0,none⟩)] 82):=by
 go_enter Tryz.func150,Tryz.ntmps150
 go_wp2
 go_ret
 exact ⟨rfl,rfl⟩
theorem clusters_make (w:World) (a:Option Addr) (n cap:Nat):Calls Tryz.prog 165 #[.slice a n cap] w fun e w'=>
   e= .returned (.func (.func 179) #[] #[.pointer (some ⟨w.heap.size,0,none⟩)])∧w'=w.alloc (.cells #[.slice a n cap] 260):=by
 go_enter Tryz.func165,Tryz.ntmps165
 go_wp2
 go_ret
 exact ⟨rfl,rfl⟩
def NumsOK (Pc:Nat→Prop) (C:List Clus) (t:Nat):Prop:= ∀ i,OKN Pc ((numsOf (cl C t)).getD i 0)
def spots {Pc:Nat→Prop} (V:VolR) (t:Nat) (hT:NumsOK Pc V.C t):List (SpotR Pc):=spotsTo t (numsOf (cl V.C t)) hT 32 (Nat.le_refl _)
theorem yield_mono {F:Fence} {m:Nat} {P:Program} {l:Nat} {args:Array Value} {W:World} {R R':Ending→World→Prop} (h:YieldAt F m P l args W R) (hr: ∀ e w,R e w→R' e w):YieldAt F m P l args W R':=by
 obtain ⟨fn,tmps,assign,body,hy,hR⟩:=h
 exact ⟨fn,tmps,assign,body,hy,hR.mono hr⟩
theorem numbers_stops {Pc:Nat→Prop} (n:Nat) (hn:3≤n) (X Y:Nat→Prop) (R:VolR→VolR→Prop) (v bv bt table:Nat) (V:VolR) (Cv Lv:Value) (w:World) (hV:VolAt w v Cv Lv V)
   (hbv:w.heap[bv]? = some (.cells #[.pointer (some ⟨v,0,none⟩)] 82 (0,0))) (hbt:w.heap[bt]? = some (.cells #[.int .i64 (table:Nat)] 3 (0,0))) (hX: ¬ X bt) (hf: ¬ foot v Cv Lv bt) (ht:table<V.C.length)
   (hT:NumsOK Pc V.C table):
   SeqStopsK Fence.wide n Tryz.prog 182 #[.pointer (some ⟨bv,0,none⟩),.pointer (some ⟨bt,0,none⟩)] (fun s:SpotR Pc=> #[spotVal s]) (KeepV X Y v R) (fun ys=>ys=spots V table hT) (fun pre=>pre <+: spots V table hT) 32 w:=
 fun l J Jx W hW hJ _ hY h0=>
   numbers1_in n hn l bv bt v table V J Jx (Beside X v bt (.cells #[.int .i64 (table:Nat)] 3 (0,0)) (fun _=>True)) hT
     (fun pre x W1 hJ1 hl=>yield_mono (hY pre x W1 hJ1 hl) (by
       rintro e W' (⟨a,b,c⟩ | h)
       · exact Or.inl ⟨a,b,fun hp=>hp.keep (fun _ _ _ _=>trivial) c⟩
       · exact Or.inr h))
     (fun W1 hp=>(cell_blk hp.box 0).trans rfl) (fun _ _ hp hb=>hp.below hb) W hJ
     ⟨⟨Cv,Lv,V,hV.below hW,trivial,hf⟩,(hW.block bt (blk_lt hbt)).trans hbt,rfl,hX⟩ ((cell_blk ((hW.block bv (blk_lt hbv)).trans hbv) 0).trans rfl) Cv Lv (hV.below hW) ht h0
abbrev U256:={ n:Nat // n<256 }
def toldBy (ns:List Nat):List Nat:=(ns.filter (· != 0)).map (· % 32768)
theorem clusters1_in (n:Nat) (hn:3≤n) (l bx bs cap:Nat) (ns:List Nat) (hns: ∀ m ∈ ns,m<65536∧m%32768<256) (hl:ns.length≤100) (J Jx:List U256→World→Prop) (P:World→Prop)
   (hY: ∀ pre x W,J pre W→pre.length<ns.length→YieldAt Fence.wide (n - 1) Tryz.prog l #[.int .i64 ((x.1:Nat):Int)] W fun e W'=>
     (e= .returned (.bool true)∧J (pre++[x]) W'∧(P W→P W'))∨(e= .returned (.bool false)∧Jx (pre++[x]) W'))
   (hPc: ∀ W,P W→W.heap[bs]? = some (.cells (tv ns).toArray 167 (0,0)))
   (W:World) (hP:P W) (hbx:W.cell? ⟨bx,0,none⟩=some (.slice (some ⟨bs,0,none⟩) ns.length cap)) (h0:J [] W):
   CallsIn Fence.wide n Tryz.prog 179 #[.func (.yield l) #[] #[],.pointer (some ⟨bx,0,none⟩)] W fun e W'=>(∃ v,e= .returned v)∧
     ((∃ ys:List U256,ys.map (·.1)=toldBy ns∧J ys W')∨(∃ pre:List U256,Jx pre W')):=by
 refine callsIn_of_wp Tryz.func179 rfl trivial ?_ rfl
 simp only [Tryz.ntmps179,List.size_toArray,List.length_cons,List.length_nil,Nat.reduceAdd,Nat.reduceSub,Array.replicate_succ,Array.replicate_zero,List.push_toArray,List.append_toArray,List.nil_append,List.cons_append]
 gi_wp2
 gi_loopw [4,7] (fun _ i wr=> ∃ (k:Nat) (ys:List U256),k≤ns.length∧i= .int .i64 k∧P wr∧ys.map (·.1)=toldBy (ns.take k)∧ys.length≤k∧J ys wr) (fun _ i _=>ns.length - (intOf i).toNat)
 case atStart=>exact ⟨0,[],by omega,rfl,hP,rfl,by simp,h0⟩
 case round=>
   obtain ⟨k,ys,hk,rfl,hPk,hys,hyl,hJk⟩:=hrel
   have hb:=hPc wr hPk
   by_cases hlt:k<ns.length
   · have hki:(k:Int)<(ns.length:Int):=by omega
     have hm:=hns _ (List.getElem_mem hlt)
     have c1:wr.cell? ⟨bs,k,none⟩=some (.int .u16 ((ns[k]:Nat):Int)):=by
       rw [cell_blk hb,List.getElem?_toArray,tv_get _ _ hlt,List.getD_eq_getElem?_getD,List.getElem?_eq_getElem hlt];rfl
     have htk:toldBy (ns.take (k+1))=toldBy (ns.take k)++(if ns[k]=0 then [] else [ns[k]%32768]):=by
       rw [List.take_succ_eq_append_getElem hlt,toldBy,List.filter_append,List.map_append]
       unfold toldBy
       congr 1
       by_cases h:ns[k]=0
       · simp [h]
       · simp [h]
     generalize ns[k]=nn at*
     by_cases h0:nn=0
     · rw [if_pos h0,List.append_nil] at htk
       have Ht:=hide htk
       subst h0
       clear htk
       gi_wp2
       refine ⟨trivial,?_⟩
       gi_wp2
       refine ⟨fun _ h=>(by cases h),?_⟩
       gi_wp2
       go_roundw
       case rel=>exact ⟨k+1,ys,by omega,by go_num,hPk,by rw [uh Ht];exact hys,by omega,hJk⟩
       case measure=>simp [intOf];omega
     · rw [if_neg h0] at htk
       have Ht:=hide htk
       clear htk
       have d0:(((nn:Nat):Int) != 0)=true:=by rw [bne_iff_ne];omega
       have Hc:=hide (cluster_of nn hm.1 wr)
       have hm1:=hm.1
       have hm2:=hm.2
       clear hm
       generalize nn%32768=cc at*
       obtain ⟨fn,tmps,assign,body,hy,hR⟩:=hY ys ⟨cc,hm2⟩ wr hJk (by omega)
       gi_wp2
       refine ⟨trivial,fun _=>by omega,(callsIn_wide.2 (uh Hc)).mono ?_⟩
       rintro e w1 ⟨rfl,rfl⟩
       gi_wp2
       refine ⟨fun _=>by omega,hR.mono ?_⟩
       rintro e W3 (⟨rfl,hJ3,hP3⟩ | ⟨rfl,hJx3⟩)
       · have HP3:=hide (hP3 hPk)
         clear hP3 c1 hPk hb
         gi_wp2
         go_roundw
         case rel=>exact ⟨k+1,ys++[⟨cc,hm2⟩],by omega,by go_num,uh HP3,by rw [uh Ht,List.map_append,hys];rfl,by simp;omega,hJ3⟩
         case measure=>simp [intOf];omega
       · gi_wp2
         refine bodyPost_ret (results_none rfl _ _ _) rfl ?_
         exact ⟨⟨_,rfl⟩,.inr ⟨_,hJx3⟩⟩
   · have hk32:k=ns.length:=by omega
     subst hk32
     rw [List.take_length] at hys
     gi_wp2
     go_end0
     exact ⟨⟨_,rfl⟩,.inl ⟨ys,hys,hJk⟩⟩
theorem clusters_stops (n:Nat) (hn:3≤n) (X Y:Nat→Prop) (R:VolR→VolR→Prop) (v bx bs cap:Nat) (ns:List Nat) (hns: ∀ m ∈ ns,m<65536∧m%32768<256) (hl:ns.length≤100) (V:VolR) (Cv Lv:Value) (w:World) (hV:VolAt w v Cv Lv V)
   (hbx:w.heap[bx]? = some (.cells #[.slice (some ⟨bs,0,none⟩) ns.length cap] 260 (0,0))) (hbs:w.heap[bs]? = some (.cells (tv ns).toArray 167 (0,0))) (hX: ¬ X bs) (hf: ¬ foot v Cv Lv bs):
   SeqStopsK Fence.wide n Tryz.prog 179 #[.pointer (some ⟨bx,0,none⟩)] (fun x:U256=> #[Value.int .i64 ((x.1:Nat):Int)]) (KeepV X Y v R) (fun ys=>ys.map (·.1)=toldBy ns) (fun _=>True) ns.length w:=
 fun l J Jx W hW _ _ hY h0=>
   (clusters1_in n hn l bx bs cap ns hns hl J Jx (Beside X v bs (.cells (tv ns).toArray 167 (0,0)) (fun _=>True))
     (fun pre x W1 hJ1 hl=>yield_mono (hY pre x W1 hJ1 hl) (by
       rintro e W' (⟨a,b,c⟩ | h)
       · exact Or.inl ⟨a,b,fun hp=>hp.keep (fun _ _ _ _=>trivial) c⟩
       · exact Or.inr h))
     (fun W1 hp=>hp.box) W
     ⟨⟨Cv,Lv,V,hV.below hW,trivial,hf⟩,(hW.block bs (blk_lt hbs)).trans hbs,rfl,hX⟩ ((cell_blk ((hW.block bx (blk_lt hbx)).trans hbx) 0).trans rfl) h0).mono (by
     rintro e W' ⟨h1,h2 | ⟨pre,h3⟩⟩
     · exact ⟨h1,Or.inl h2⟩
     · exact ⟨h1,Or.inr ⟨pre,trivial,h3⟩⟩)
def SeqAll {α:Type} (n gf:Nat) (lb:Array Value) (encs:α→Array Value) (Kp:World→World→Prop) (S:List α→Prop) (N B:Nat) (w:World):Prop:=
 ∀ (l:Nat) (J:List α→World→Prop) (W:World),Below w.heap.size w W→B≤W.heap.size→OwnFrom W.heap.size J→
   (∀ pre x W1,J pre W1→pre.length<N→YieldAt Fence.wide (n - 1) Tryz.prog l (encs x) W1 fun e W'=>e= .returned (.bool true)∧J (pre++[x]) W'∧Kp W1 W')→
   J [] W→CallsIn Fence.wide n Tryz.prog gf (#[.func (.yield l) #[] #[]]++lb) W fun e W'=>(∃ v,e= .returned v)∧ ∃ xs,S xs∧J xs W'
theorem ownFrom_up {β:Type} {B C:Nat} {I:β→World→Prop} (h:OwnFrom B I) (hc:B≤C):OwnFrom C I:=fun s W W' row hs hg hr=>h s W W' row hs hg (fun r e=>⟨Nat.le_trans hc (hr r e).1,(hr r e).2⟩)
theorem blk_turn {W W':World} {row:Option Nat} {B k:Nat} {o:Obj} (hg:W.grownBy W' row) (hr: ∀ r,row=some r→B≤r∧ ∃ o:Obj,W.heap[r]? = some o∧o.isCells=false) (hk:W.heap[k]? = some o) (hlt:k<B):W'.heap[k]? = some o:=by
 rw [hg.block k (blk_lt hk) (fun e=>by have:=(hr k e.symm).1;omega)];exact hk
section
variable {α:Type} {g:Operand} {ps:Array Tmp} {assign body:Code} {Q:Exit→Act→World→Prop} {a:Act} {w:World} {n:Nat}
def recOf (fn:FuncId) (a:Act) (ps:Array Tmp) (assign body:Code) (d:Nat) (st:LoopState):Loop:={ state:=st,pending:=none,fn:=fn,tmps:=a.tmps,params:=ps,assign:=assign,body:=body,defers:=d }
structure Booked (fn:FuncId) (a:Act) (ps:Array Tmp) (assign body:Code) (d:Nat) (st:LoopState) (W:World):Prop where
 rcd:W.heap[d+1]? = some (.loop (recOf fn a ps assign body d st))
 def':W.heap[d]? = some (.deferred (some []))
theorem Booked.keep {fn:FuncId} {d:Nat} {st:LoopState} {W W':World} (h:Booked fn a ps assign body d st W) (hk:KeepsFrom d W W'):Booked fn a ps assign body d st W':=
 ⟨hk.same _ _ (by omega) h.rcd rfl,hk.same _ _ (Nat.le_refl _) h.def' rfl⟩
theorem Booked.turn {fn:FuncId} {d:Nat} {st st':LoopState} {W:World} (h:Booked fn a ps assign body d st W):Booked fn a ps assign body d st' (W.putObj (d+1) (.loop (recOf fn a ps assign body d st'))):=
 ⟨World.putObj_heap_same (blk_lt h.rcd),(World.putObj_heap_other (by omega)).trans h.def'⟩
theorem range_all (h1:1≤n) {gf:Nat} {lb:Array Value} (hg:a.eval g= .func (.func gf) #[] lb) (eg: ∀ args w,(callFunc gf args).run Tryz.prog w= .ok (.enter gf args) w)
   {encs:α→Array Value} {Kp:World→World→Prop} {S:List α→Prop} {N:Nat} {w0:World} (hseq:SeqAll (n - 1) gf lb encs Kp S N (w.heap.size+2) w0)
   (hKt: ∀ A B C:World,Kp A B→Kp B C→Kp A C) (hKb: ∀ (W:World) (o o':Obj),W.heap[w.heap.size+1]? = some o→o.isCells=false→Kp W (W.putObj (w.heap.size+1) o')) (hb0:Below w0.heap.size w0 w) (hps: ∀ x,(encs x).size=ps.size)
   (I:List α→World→Prop) (hI:OwnFrom w.heap.size I) (h0:I [] w) (Ax:α→Act→World→Prop) (hAx: ∀ x a',OwnFrom w.heap.size (fun (_:Unit) W=>Ax x a' W))
   (hassign: ∀ (l:Nat) (pre:List α) (x:α) (W:World) (K:Act→World→Prop),I pre W→(∀ a' W',KeepsFrom w.heap.size W W'→Kp W W'→I pre W'→Ax x a' W'→K a' W')→
     assign.wpIn (Fence.wide.inRound l) (n - 1 - 1) Tryz.prog (Exit.then K (fun _ _ _=>False)) { tmps:=(ps.zip (encs x)).foldl (fun t (p,v)=>t.setIfInBounds p v) a.tmps,defers:=[] } W)
   (hbody: ∀ (l:Nat) (pre:List α) (x:α) (a':Act) (W:World),w.heap.size≤l→(∃ r,W.heap[l]? = some (.loop r))→I pre W→Ax x a' W→pre.length<N→body.wpIn (Fence.wide.inRound l) (n - 1 - 1) Tryz.prog (fun e _ W'=>e= .normal∧KeepsFrom w.heap.size W W'∧Kp W W'∧I (pre++[x]) W') a' W)
   (hdone: ∀ (D:Nat) (xs:List α) (W:World),w.heap.size≤D→S xs→I xs W→W.heap[D]? = some (.deferred (some []))→Q .normal { a with defers:={ target:= .collected D,args:= #[] } :: a.defers } W):
   (Code.rangeFunc g ps assign body).wpIn Fence.wide n Tryz.prog Q a w:=by
 refine wpIn_rangeFunc fun fn hfn=> ?_
 let d:=w.heap.size
 let W1:=(w.alloc (.deferred (some []))).alloc (.loop (recOf fn a ps assign body d .ready))
 have hB1:Booked fn a ps assign body d .ready W1:=
   ⟨by have:=heap_alloc_new (w.alloc (.deferred (some []))) (.loop (recOf fn a ps assign body d .ready));rwa [World.size_alloc] at this,(Below.heap_alloc _ _ _ (by simp [d])).trans (heap_alloc_new w _)⟩
 have hI1:I [] W1:=hI.alloc _ (hI.alloc _ h0)
 have hsz:W1.heap.size=d+2:=by simp [W1,d]
 have hw1:Below w0.heap.size w0 W1:=hb0.trans ((((Below.refl _ w).alloc (Nat.le_refl _) _).alloc (by simp) _).mono hb0.size)
 refine ⟨d+1,[{ target:= .collected d,args:= #[] }],W1,{ target:= .fn (.func gf) lb,args:= #[.func (.yield (d+1)) #[] #[]] },W1,gf,#[.func (.yield (d+1)) #[] #[]]++lb,W1,
   run_enterLoop_outer _ _ _ _ _,?_,fun _ _=>trivial,?_,fun _=>h1,?_⟩
 · simp only [resolve,hg];simp [go_sem]
 · simp [invoke,go_sem,eg]
 have hJ:OwnFrom W1.heap.size (fun (pre:List α) W=>I pre W∧Booked fn a ps assign body d .ready W):=fun s A B row hs hg' hr=>
   ⟨hI s A B row hs.1 hg' (fun r e=>⟨by have:=(hr r e).1;omega,(hr r e).2⟩),blk_turn hg' hr hs.2.rcd (by omega),blk_turn hg' hr hs.2.def' (by omega)⟩
 refine (hseq (d+1) (fun pre W=>I pre W∧Booked fn a ps assign body d .ready W) W1 hw1 (by omega) hJ ?_ ⟨hI1,hB1⟩).mono ?_
 · rintro pre x W ⟨hi,hb⟩ hlen
   refine ⟨fn,_,assign,body,run_yield hb.rcd (hps x),roundIn_of_wpIn hfn (hassign (d+1) pre x W _ hi fun a' Wa hkf hkp hia hax=> ?_)⟩
   have hba:=hb.keep hkf
   refine ⟨_,run_beginRound hba.rcd rfl,?_⟩
   have hbb:Booked fn a ps assign body d .busy (Wa.putObj (d+1) (.loop (recOf fn a ps assign body d .busy))):=hba.turn
   have hkb:Kp Wa (Wa.putObj (d+1) (.loop (recOf fn a ps assign body d .busy))):=hKb _ _ _ hba.rcd rfl
   refine wpIn_mono (hbody (d+1) pre x a' _ (by omega) ⟨_,hbb.rcd⟩ (hI.putObj _ hia (by omega) hba.rcd rfl) ((hAx x a').putObj (s:=()) _ hax (by omega) hba.rcd rfl) hlen) ?_
   rintro e a3 W3 ⟨rfl,hkf3,hkp3,hi3⟩
   have hb3:=hbb.keep hkf3
   have hb4:Booked fn a ps assign body d .ready (W3.putObj (d+1) (.loop (recOf fn a ps assign body d .ready))):=hb3.turn
   exact ⟨_,_,run_endRound none hb3.rcd,rfl,⟨hI.putObj _ hi3 (by omega) hb3.rcd rfl,hb4⟩,hKt _ _ _ hkp (hKt _ _ _ hkb (hKt _ _ _ hkp3 (hKb _ _ _ hb3.rcd rfl)))⟩
 · rintro e W2 ⟨⟨v,rfl⟩,xs,hS,hi,hb⟩
   exact ⟨none,_,run_endLoop hb.rcd (by simp [recOf]),hdone d xs _ (Nat.le_refl _) hS (hI.putObj _ hi (by omega) hb.rcd rfl) ((World.putObj_heap_other (by omega)).trans hb.def')⟩
end
end Go.Proofs.YtknjjjenklfeoaaGreatDoor
