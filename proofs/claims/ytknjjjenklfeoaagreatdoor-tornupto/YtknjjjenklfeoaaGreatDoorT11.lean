import Derived.Test.YtknjjjenklfeoaaGreatDoorT10
import Derived.RangeFuncNested
import Derived.RangeFuncBound
import Derived.RangeFuncCalls
import Derived.RangeFuncLeaves
import Derived.Shelf.Abstract
import Derived.Shelf.RegionOpen
import Derived.WalkKit
import Derived.OwnWalkIn
import Derived.TacticsInMore
import Derived.LoopNIn
import Derived.LoopIn
import Derived.Test.YtknjjjenklfeoaaGreatDoorT08
set_option maxHeartbeats 8000000
set_option maxRecDepth 100000
namespace Go.Proofs.YtknjjjenklfeoaaGreatDoor
open Go.RowKit Go.Shelf
attribute [local go_sem ↓] loadVar_clus storeVar_clus zeroValue_clus loadVar_tab storeVar_tab zeroValue_tab loadVar_cnt storeVar_cnt zeroValue_cnt loadVar_head storeVar_head zeroValue_head build_head buildSlice_clus loadVar_wr storeVar_wr zeroValue_wr build_wr buildSlice_wr equalIn_clus loadVar_place storeVar_place zeroValue_place build_place loadVar_lst storeVar_lst zeroValue_lst storeVar_ent build_ent
attribute [local go_sem] run_loadClus run_storeClus run_zeroClus run_storeClus_new run_loadClus_new zc_length run_loadTab run_storeTab run_zeroTab run_storeTab_new run_loadTab_new zt_length run_loadCnt run_storeCnt run_zeroCnt run_storeCnt_new run_loadCnt_new zk_length run_loadHead run_storeHead run_zeroHead run_storeHead_new run_bHead HasAt_drew cellsAt_drew HasAt_drewN cellsAt_drewN run_bsClus run_loadWr run_zeroWr run_storeWr run_storeWr_new run_bWr0 run_bsWr run_loadPlace run_storePlace run_zeroPlace run_storePlace_new run_bPlace run_loadLst run_storeLst run_zeroLst run_storeLst_new run_storeEnt run_bEnt
attribute [local go_sem] field_head1 field_head0 Oper.semAt_some
def minus1 (k:List UInt8) (n:Nat):List UInt8:=k.set n (UInt8.ofNat ((byteAt k n+255)%256))
def minus (k:List UInt8) (us:List Nat):List UInt8:=us.foldl minus1 k
theorem minus_snoc (k:List UInt8) (us:List Nat) (u:Nat):minus k (us++[u])=minus1 (minus k us) u:=by simp [minus]
theorem minus_length (k:List UInt8) (us:List Nat):(minus k us).length=k.length:=by
 unfold minus
 induction us generalizing k with
 | nil=>rfl
 | cons a r ih=>simp only [List.foldl_cons];rw [ih];simp [minus1]
def letGoV1 (V:VolR) (us:List Nat):VolR:=flushV (putCnt V (minus (cntsOf V.C) us) 4)
def letGoV (V:VolR) (us:List Nat):VolR:=flushV (markLoneV (letGoV1 V us))
theorem putCnt_lenC' (V:VolR) (k:List UInt8) (h5:5≤V.C.length):(putCnt V k 4).C.length=V.C.length:=by
 simp only [putCnt,putV_lenC];omega
theorem SeqStopsK.all {α:Type} {n gf:Nat} {lb:Array Value} {encs:α→Array Value} {Kp:World→World→Prop} {S Sp:List α→Prop} {N B:Nat} {w:World} (h:SeqStopsK Fence.wide n Tryz.prog gf lb encs Kp S Sp N w):SeqAll n gf lb encs Kp S N B w:=
 fun l J W hW _ hJ hY h0=>(h l J (fun _ _=>False) W hW (fun s A B row hs hg hr=>hJ s A B row hs hg (fun r e=>⟨(hr r e).1,by obtain ⟨_,o,ho,hw⟩:=hr r e;exact ⟨o,ho,Obj.not_cells_of_walk hw⟩⟩)) (fun _ _ _ _ hs _ _=>hs)
   (fun pre x W1 hJ1 hl=>yield_mono (hY pre x W1 hJ1 hl) (fun e W' hx=>Or.inl hx)) h0).mono (by
   rintro e W' ⟨h1,h2 | ⟨pre,_,h3⟩⟩
   · exact ⟨h1,h2⟩
   · exact h3.elim)
def valsU (pre:List U256):List Nat:=pre.map fun y=>y.1
theorem valsU_snoc (pre:List U256) (x:U256):valsU (pre++[x])=valsU pre++[x.1]:=by simp [valsU]
theorem Env.beside {w W:World} {v D:Nat} {o:Obj} {Cv Lv C1 L1:Value} {V:VolR} {bs:List (Nat × Obj)} (h:Env w W v Cv Lv C1 L1 V bs) (hD:W.heap[D]? = some o) (hw:w.heap.size≤D) (ho:o.isCells=false):Env w W v Cv Lv C1 L1 V ((D,o) :: bs):=
 ⟨h.step,fun x hx=>by
   rcases List.mem_cons.1 hx with rfl | hx
   · exact ⟨hD,hw,h.at'.notCells hD ho⟩
   · exact h.objs x hx⟩
def EqV (a b:VolR):Prop:=a=b
theorem letGo_in (w:World) (v:Nat) (Cv Lv:Value) (V:VolR) (h:VolAt w v Cv Lv V) (h5:5<V.C.length) (hC:V.C.length≤256) (hL:V.L.length≤600000000)
   (gf:Nat) (lb:Array Value) (us:List Nat) (N:Nat) (eg: ∀ args w,(callFunc gf args).run Tryz.prog w= .ok (.enter gf args) w)
   (hseq: ∀ (X:Nat→Prop) (B:Nat),(∀ k,X k→w.heap.size≤k∧k<B)→SeqAll 99 gf lb (fun u:U256=> #[Value.int .i64 ((u.1:Nat):Int)]) (KeepV X (fun k=>B≤k) v EqV) (fun ys=>ys.map (·.1)=us) N B w)
   (hF: ∀ f ∈ firstsOf (letGoV1 V us),FirstOK (letGoV1 V us) f):
   CallsIn Fence.wide 100 Tryz.prog 110 #[.pointer (some ⟨v,0,none⟩),.func (.func gf) #[] lb] w fun e w'=>e= .returned (.tuple #[])∧ ∃ C1 L1,VStep w w' v Cv Lv C1 L1 (letGoV V us):=by
 have Hc:=hide (counts_vol w v Cv Lv V h (by omega))
 have hcl:=cntsOf_length V.C h.lenC (by omega)
 have HV:Hid (letGoV1 V us=flushV (putCnt V (minus (cntsOf V.C) us) 4)):=rfl
 have HV2:Hid (letGoV V us=flushV (markLoneV (letGoV1 V us))):=rfl
 have H:=hide h
 clear h
 generalize cntsOf V.C=k at*
 refine callsIn_of_wp_marks Tryz.func110 rfl trivial ?_ rfl
 simp only [Tryz.ntmps110,List.size_toArray,List.length_cons,List.length_nil,Nat.reduceAdd,Nat.reduceSub,Array.replicate_succ,Array.replicate_zero,List.push_toArray,List.append_toArray,List.nil_append,List.cons_append]
 gi_wp2_with fail
 refine ⟨trivial,(callsIn_wide.2 (uh Hc)).mono ?_⟩
 rintro e w1 ⟨rfl,hb1⟩
 have E1:=((Env.start (uh H)).later hb1).lay (.cells (cv k).toArray 123)
 have HB0:Hid (Below w.heap.size w (w1.alloc (.cells (cv k).toArray 123))):=hb1.alloc hb1.size _
 have hw1:=hb1.size
 have E1:=hide E1
 clear Hc hb1
 gi_wp2_with fail
 have hsz:(w1.alloc (.cells (cv k).toArray 123)).heap.size=w1.heap.size+1:=by simp
 generalize w1.alloc (.cells (cv k).toArray 123)=W1 at*
 refine range_all (by omega) (gf:=gf) (lb:=lb) rfl eg (hseq (fun k=>k=w1.heap.size) (W1.heap.size+2) (by rintro k rfl;exact ⟨hw1,by omega⟩))
   (fun A B C h k=>KeepV.trans (R:=EqV) (fun _ _ _ a b=>Eq.trans a b) h k) (fun W o o' hl hc=>KeepV.turn (R:=EqV) (fun _=>rfl) W _ o o' hl hc (by omega)) (uh HB0) (fun _=>rfl)
   (fun pre W=>Env w W v Cv Lv Cv Lv V [(w1.heap.size,.cells (cv (minus k (valsU pre))).toArray 123 (0,0))])
   (fun _ _ _ _ hs hg hr=>Env.turned hs (by omega) (by simp [Obj.isCells]) hg hr)
   (uh E1)
   (fun x a' _=>a'={ tmps:= #[.pointer (some ⟨v,0,none⟩),.func (.func gf) #[] lb,undef,undef,.pointer (some ⟨w1.heap.size,0,none⟩),.int .i64 ((x.1:Nat):Int),.pointer (some ⟨v,0,none⟩),.agg (cv k).toArray,.func (.func gf) #[] lb,.int .i64 ((x.1:Nat):Int),undef,undef,undef,undef,undef,undef,undef,undef,undef,undef,undef,undef,undef,undef,undef,undef,undef,undef],defers:=[] })
   (fun _ _ _ _ _ _ hs _ _=>hs) ?assign ?body ?done
 case assign=>
   rintro l pre x W' K hi hK
   gi_wp2
   exact hK _ _ (KeepsFrom.refl _ _) (KeepV.below (R:=EqV) (fun _=>rfl) (Below.refl _ _)) hi rfl
 case body=>
   rintro l pre ⟨x,hx⟩ a' W hl _ hE rfl hpl
   have hml:(minus k (valsU pre)).length=256:=by rw [minus_length];exact hcl
   have hxi:(x:Int)<256:=by omega
   have hms:minus k (valsU (pre++[⟨x,hx⟩]))=minus1 (minus k (valsU pre)) x:=by rw [valsU_snoc,minus_snoc]
   generalize minus k (valsU pre)=kk at*
   have c1:W.cell? ⟨w1.heap.size,x,none⟩=some (.int .u8 (byteAt kk x:Nat)):=by
     rw [cell_blk hE.o0,List.getElem?_toArray,cv_get _ _ (by omega)]
   have f1:=frozen_blk hE.o0
   have hbl:=byteAt_lt kk x
   have hwr:IntKind.u8.wrap (((byteAt kk x:Nat):Int) - 1)=(((byteAt kk x+255)%256:Nat):Int):=by
     rw [IntKind.wrap_u8];omega
   have E3:=hE.put (by simp) (Kept.only _ w1.heap.size x (.int .u8 (((byteAt kk x+255)%256:Nat):Int))) (heap_setCell_same _ _ _ _ _ _ _ hE.o0)
   have hset:(cv kk).toArray.setIfInBounds x (.int .u8 (((byteAt kk x+255)%256:Nat):Int))=(cv (minus1 kk x)).toArray:=by
     rw [List.setIfInBounds_toArray,minus1,cv_setB kk x _ (Nat.mod_lt _ (by omega))]
   rw [hset,← hms] at E3
   have K3:KeepV (fun k=>k=w1.heap.size) (fun k=>W1.heap.size+2≤k) v EqV W (W.setCell ⟨w1.heap.size,x,none⟩ (.int .u8 (((byteAt kk x+255)%256:Nat):Int))):=
     KeepV.own hE.at' (Kept.only _ _ _ _) (by rintro k rfl;exact ⟨rfl,hE.n0,_,hE.o0,rfl⟩) rfl
   have HE:=hide E3
   have K3:=hide K3
   clear E3 hE hset hms
   generalize byteAt kk x=bb at*
   generalize (bb+255)%256=b2 at*
   clear hsz
   gi_wp2
   first
     | exact ⟨(KeepsOthers.setCell _ _ _).from _,uh K3,uh HE⟩
     | exact ⟨(KeepsOthers.setCell _ _ _).from _,uh HE⟩
 case done=>
   rintro D ys W hD hS hE hK
   have hS':valsU ys=us:=hS
   rw [hS'] at hE
   have hml:(minus k us).length=256:=by rw [minus_length];exact hcl
   have l1:=blk_has hE.o0 (n:=256) (by rw [cv_length,hml])
   have l2:=blk_cells hE.o0 (n:=256) (by rw [cv_length,hml])
   have hDw:w.heap.size≤D:=by omega
   have F1:=hide ((hE.sub (cs:=[]) (by simp)).beside hK hDw rfl)
   have Hp:=hide (putCounts_any W v Cv Lv V hE.at' (minus k us) hml (by omega) (by omega))
   have hlC:=putCnt_lenC' V (minus k us) (by omega)
   have hlL:=putCnt_lenL V (minus k us) 4
   have hlL2:=flushV_lenL (putCnt V (minus k us) 4)
   have hfc:(flushV (putCnt V (minus k us) 4)).C.length=V.C.length:=by rw [flushV_C];exact hlC
   rw [← uh HV] at hlL2 hfc
   have HV1:=HV
   clear hE hK hseq E1
   generalize putCnt V (minus k us) 4=V2 at*
   generalize minus k us=k2 at*
   gi_wp2_with fail
   refine ⟨trivial,(callsIn_wide.2 (uh Hp)).mono ?_⟩
   rintro e W2 ⟨rfl,C2,L2,hS2⟩
   have F2:=hide ((uh F1).does hS2)
   clear hS2 F1 Hp l1 l2
   gi_wp2_with fail
   refine ⟨trivial,(callsIn_wide.2 (flush_any W2 v C2 L2 V2 (uh F2).at' (by omega))).mono ?_⟩
   rintro e W3 ⟨rfl,C3,L3,hS3⟩
   rw [← uh HV1] at hS3
   have F3:=hide ((uh F2).does hS3)
   clear hS3 F2
   have hlm:=loneV_lenL (cntsOf (letGoV1 V us).C) (firstsOf (letGoV1 V us)) (letGoV1 V us)
   have hfl:(firstsOf (letGoV1 V us)).length≤5:=by
     unfold firstsOf picFirsts
     have:=lenOf_le (entsOf (cl (letGoV1 V us).C 5))
     simp only [List.length_cons,List.length_map,List.length_take]
     omega
   have hml2:(markLoneV (letGoV1 V us)).L.length≤700000000:=by unfold markLoneV;omega
   generalize letGoV1 V us=V3 at*
   gi_wp2_with fail
   refine ⟨trivial,(callsIn_wide.2 (callsIn_wide.1 (markLone_in W3 v C3 L3 V3 (uh F3).at' (by omega) (by omega) (by omega) hF))).mono ?_⟩
   rintro e W4 ⟨rfl,C4,L4,hS4⟩
   have F4:=hide ((uh F3).does hS4)
   clear hS4 F3
   gi_wp2_with fail
   refine ⟨trivial,(callsIn_wide.2 (flush_any W4 v C4 L4 (markLoneV V3) (uh F4).at' (by omega))).mono ?_⟩
   rintro e W5 ⟨rfl,C5,L5,hS5⟩
   have F5:=(uh F4).does hS5
   have hK5:=F5.o0
   gi_wp2
   refine ⟨by simp,.inl ⟨_,_,rfl,run_takeDeferred hK5,?_⟩⟩
   have hg:=grownBy_putObj' W5 D (.deferred none)
   have hk:Kept (fun k=>k=D) W5 (W5.putObj D (.deferred none)):=⟨hg.os,hg.tape,hg.output,hg.size,fun k hk hs=>hg.block k hk (fun e=>hs (by injection e))⟩
   refine ⟨_,results_none rfl _ _ _,rfl,C5,L5,?_⟩
   rw [uh HV2]
   exact F5.step.own hk (by rintro k rfl;exact ⟨hDw,F5.n0⟩)
theorem letsGo_any (v:Nat) (V:VolR) (h5:5<V.C.length) (hC:V.C.length≤256) (hL:V.L.length≤600000000) (ns:List Nat) (hns: ∀ m ∈ ns,m<65536∧m%32768<256) (hnl:ns.length≤100) (hF: ∀ f ∈ firstsOf (letGoV1 V (toldBy ns)),FirstOK (letGoV1 V (toldBy ns)) f) (W:World) (C1 L1:Value) (bx bs:Nat)
   (hV:VolAt W v C1 L1 V) (hbx:W.heap[bx]? = some (.cells #[.slice (some ⟨bs,0,none⟩) ns.length ns.length] 260 (0,0))) (hbs:W.heap[bs]? = some (.cells (tv ns).toArray 167 (0,0))) (hf: ¬ foot v C1 L1 bs):
   Calls Tryz.prog 110 #[.pointer (some ⟨v,0,none⟩),.func (.func 179) #[] #[.pointer (some ⟨bx,0,none⟩)]] W fun e w'=>e= .returned (.tuple #[])∧ ∃ C2 L2,VStep W w' v C1 L1 C2 L2 (letGoV V (toldBy ns)):=
 callsIn_wide.1 (letGo_in W v C1 L1 V hV h5 hC hL 179 #[.pointer (some ⟨bx,0,none⟩)] (toldBy ns) ns.length (enters_of Tryz.func179 (by kernel_rfl) rfl)
   (fun X B hX=>SeqStopsK.all (clusters_stops 99 (by omega) X (fun k=>B≤k) EqV v bx bs ns.length ns hns hnl V C1 L1 W hV hbx hbs (fun hx=>by have:=(hX _ hx).1;have:=blk_lt hbs;omega) hf)) hF)
end Go.Proofs.YtknjjjenklfeoaaGreatDoor
namespace Go.Proofs.YtknjjjenklfeoaaGreatDoor
open Go.RowKit Go.Shelf
def SeqAny {α:Type} (n gf:Nat) (lb:Array Value) (encs:α→Array Value) (Kp:World→World→Prop) (S Sp:List α→Prop) (N B:Nat) (w:World):Prop:=
 ∀ (l:Nat) (J Jx:List α→World→Prop) (W:World),Below w.heap.size w W→B≤W.heap.size→OwnFrom W.heap.size J→OwnFrom W.heap.size Jx→
   (∀ pre x W1,J pre W1→pre.length<N→YieldAt Fence.wide (n - 1) Tryz.prog l (encs x) W1 fun e W'=>Kp W1 W'∧((e= .returned (.bool true)∧J (pre++[x]) W')∨(e= .returned (.bool false)∧Jx (pre++[x]) W')))→
   J [] W→CallsIn Fence.wide n Tryz.prog gf (#[.func (.yield l) #[] #[]]++lb) W fun e W'=>(∃ v,e= .returned v)∧((∃ xs,S xs∧J xs W')∨ ∃ pre,Sp pre∧Jx pre W')
theorem SeqAny.all {α:Type} {n gf:Nat} {lb:Array Value} {encs:α→Array Value} {Kp:World→World→Prop} {S Sp:List α→Prop} {N B:Nat} {w:World} (h:SeqAny n gf lb encs Kp S Sp N B w):SeqAll n gf lb encs Kp S N B w:=
 fun l J W hW hB hJ hY h0=>(h l J (fun _ _=>False) W hW hB hJ (fun _ _ _ _ hs _ _=>hs)
   (fun pre x W1 hJ1 hl=>yield_mono (hY pre x W1 hJ1 hl) (fun e W' hx=>⟨hx.2.2,Or.inl ⟨hx.1,hx.2.1⟩⟩)) h0).mono (by
   rintro e W' ⟨h1,h2 | ⟨pre,_,h3⟩⟩
   · exact ⟨h1,h2⟩
   · exact h3.elim)
def anyPost {α:Type} (B:Nat) (Kp:World→World→Prop) (I Ix:List α→World→Prop) (xs:List α) (W:World):Exit→Act→World→Prop
 | .normal,_,W'=>KeepsFrom B W W'∧Kp W W'∧I xs W'
 | .ret,_,W'=>KeepsFrom B W W'∧Kp W W'∧Ix xs W'
 | .exit _,_,_=>False
 | .goto _,_,_=>False
 | .panic _,_,_=>False
 | .outgrown,_,_=>False
section
variable {α:Type} {g:Operand} {ps:Array Tmp} {assign body:Code} {Q:Exit→Act→World→Prop} {a:Act} {w:World} {n:Nat}
def recX (fn:FuncId) (a:Act) (ps:Array Tmp) (assign body:Code) (d:Nat):Loop:={ state:= .done,pending:=some .ret,fn:=fn,tmps:=a.tmps,params:=ps,assign:=assign,body:=body,defers:=d }
structure Ended (fn:FuncId) (a:Act) (ps:Array Tmp) (assign body:Code) (d:Nat) (W:World):Prop where
 rcd:W.heap[d+1]? = some (.loop (recX fn a ps assign body d))
 def':W.heap[d]? = some (.deferred (some []))
theorem range_any (h1:1≤n) {gf:Nat} {lb:Array Value} (hg:a.eval g= .func (.func gf) #[] lb) (eg: ∀ args w,(callFunc gf args).run Tryz.prog w= .ok (.enter gf args) w)
   {encs:α→Array Value} {Kp:World→World→Prop} {S Sp:List α→Prop} {N:Nat} {w0:World} (hseq:SeqAny (n - 1) gf lb encs Kp S Sp N (w.heap.size+2) w0)
   (hKt: ∀ A B C:World,Kp A B→Kp B C→Kp A C) (hKb: ∀ (W:World) (o o':Obj),W.heap[w.heap.size+1]? = some o→o.isCells=false→Kp W (W.putObj (w.heap.size+1) o')) (hb0:Below w0.heap.size w0 w) (hps: ∀ x,(encs x).size=ps.size)
   (I Ix:List α→World→Prop) (hI:OwnFrom w.heap.size I) (hIx:OwnFrom w.heap.size Ix) (h0:I [] w) (Ax:α→Act→World→Prop) (hAx: ∀ x a',OwnFrom w.heap.size (fun (_:Unit) W=>Ax x a' W))
   (hassign: ∀ (l:Nat) (pre:List α) (x:α) (W:World) (K:Act→World→Prop),I pre W→(∀ a' W',KeepsFrom w.heap.size W W'→Kp W W'→I pre W'→Ax x a' W'→K a' W')→
     assign.wpIn (Fence.wide.inRound l) (n - 1 - 1) Tryz.prog (Exit.then K (fun _ _ _=>False)) { tmps:=(ps.zip (encs x)).foldl (fun t (p,v)=>t.setIfInBounds p v) a.tmps,defers:=[] } W)
   (hbody: ∀ (l:Nat) (pre:List α) (x:α) (a':Act) (W:World),w.heap.size≤l→(∃ r,W.heap[l]? = some (.loop r))→I pre W→Ax x a' W→pre.length<N→body.wpIn (Fence.wide.inRound l) (n - 1 - 1) Tryz.prog (anyPost w.heap.size Kp I Ix (pre++[x]) W) a' W)
   (hdone: ∀ (D:Nat) (xs:List α) (W:World),w.heap.size≤D→S xs→I xs W→W.heap[D]? = some (.deferred (some []))→Q .normal { a with defers:={ target:= .collected D,args:= #[] } :: a.defers } W)
   (hstop: ∀ (D:Nat) (pre:List α) (W:World),w.heap.size≤D→Sp pre→Ix pre W→W.heap[D]? = some (.deferred (some []))→Code.ret.wpIn Fence.wide n Tryz.prog Q { a with defers:={ target:= .collected D,args:= #[] } :: a.defers } W):
   (Code.rangeFunc g ps assign body).wpIn Fence.wide n Tryz.prog Q a w:=by
 refine wpIn_rangeFunc fun fn hfn=> ?_
 let d:=w.heap.size
 let W1:=(w.alloc (.deferred (some []))).alloc (.loop (recOf fn a ps assign body d .ready))
 have hB1:Booked fn a ps assign body d .ready W1:=
   ⟨by have:=heap_alloc_new (w.alloc (.deferred (some []))) (.loop (recOf fn a ps assign body d .ready));rwa [World.size_alloc] at this,(Below.heap_alloc _ _ _ (by simp [d])).trans (heap_alloc_new w _)⟩
 have hI1:I [] W1:=hI.alloc _ (hI.alloc _ h0)
 have hsz:W1.heap.size=d+2:=by simp [W1,d]
 have hw1:Below w0.heap.size w0 W1:=hb0.trans ((((Below.refl _ w).alloc (Nat.le_refl _) _).alloc (by simp) _).mono hb0.size)
 refine ⟨d+1,[{ target:= .collected d,args:= #[] }],W1,{ target:= .fn (.func gf) lb,args:= #[.func (.yield (d+1)) #[] #[]] },W1,gf,#[.func (.yield (d+1)) #[] #[]]++lb,W1,
   run_enterLoop_outer _ _ _ _ _,?_,fun _ _=>trivial,?_,fun _=>h1,?_⟩
 · simp only [resolve,hg];simp [go_sem]
 · simp [invoke,go_sem,eg]
 have hJ:OwnFrom W1.heap.size (fun (pre:List α) W=>I pre W∧Booked fn a ps assign body d .ready W):=fun s A B row hs hg' hr=>
   ⟨hI s A B row hs.1 hg' (fun r e=>⟨by have:=(hr r e).1;omega,(hr r e).2⟩),blk_turn hg' hr hs.2.rcd (by omega),blk_turn hg' hr hs.2.def' (by omega)⟩
 have hJx:OwnFrom W1.heap.size (fun (pre:List α) W=>Ix pre W∧Ended fn a ps assign body d W):=fun s A B row hs hg' hr=>
   ⟨hIx s A B row hs.1 hg' (fun r e=>⟨by have:=(hr r e).1;omega,(hr r e).2⟩),blk_turn hg' hr hs.2.rcd (by omega),blk_turn hg' hr hs.2.def' (by omega)⟩
 refine (hseq (d+1) (fun pre W=>I pre W∧Booked fn a ps assign body d .ready W) (fun pre W=>Ix pre W∧Ended fn a ps assign body d W) W1 hw1 (by omega) hJ hJx ?_ ⟨hI1,hB1⟩).mono ?_
 · rintro pre x W ⟨hi,hb⟩ hlen
   refine ⟨fn,_,assign,body,run_yield hb.rcd (hps x),roundIn_of_wpIn hfn (hassign (d+1) pre x W _ hi fun a' Wa hkf hkp hia hax=> ?_)⟩
   have hba:=hb.keep hkf
   refine ⟨_,run_beginRound hba.rcd rfl,?_⟩
   have hbb:Booked fn a ps assign body d .busy (Wa.putObj (d+1) (.loop (recOf fn a ps assign body d .busy))):=hba.turn
   have hkb:Kp Wa (Wa.putObj (d+1) (.loop (recOf fn a ps assign body d .busy))):=hKb _ _ _ hba.rcd rfl
   refine wpIn_mono (hbody (d+1) pre x a' _ (by omega) ⟨_,hbb.rcd⟩ (hI.putObj _ hia (by omega) hba.rcd rfl) ((hAx x a').putObj (s:=()) _ hax (by omega) hba.rcd rfl) hlen) ?_
   rintro e a3 W3 hp
   cases e with
   | normal=>
     obtain ⟨hkf3,hkp3,hi3⟩:=hp
     have hb3:=hbb.keep hkf3
     have hb4:Booked fn a ps assign body d .ready (W3.putObj (d+1) (.loop (recOf fn a ps assign body d .ready))):=hb3.turn
     exact ⟨_,_,run_endRound none hb3.rcd,hKt _ _ _ hkp (hKt _ _ _ hkb (hKt _ _ _ hkp3 (hKb _ _ _ hb3.rcd rfl))),.inl ⟨rfl,hI.putObj _ hi3 (by omega) hb3.rcd rfl,hb4⟩⟩
   | ret=>
     obtain ⟨hkf3,hkp3,hi3⟩:=hp
     have hb3:=hbb.keep hkf3
     have hb4:Ended fn a ps assign body d (W3.putObj (d+1) (.loop (recX fn a ps assign body d))):=⟨World.putObj_heap_same (blk_lt hb3.rcd),(World.putObj_heap_other (by omega)).trans hb3.def'⟩
     exact ⟨_,_,run_endRound (some .ret) hb3.rcd,hKt _ _ _ hkp (hKt _ _ _ hkb (hKt _ _ _ hkp3 (hKb _ _ _ hb3.rcd rfl))),.inr ⟨rfl,hIx.putObj _ hi3 (by omega) hb3.rcd rfl,hb4⟩⟩
   | exit id=>exact hp.elim
   | goto t=>exact hp.elim
   | panic ch=>exact hp.elim
   | outgrown=>exact hp.elim
 · rintro e W2 ⟨⟨v,rfl⟩,(⟨xs,hS,hi,hb⟩ | ⟨pre,hSp,hi,hb⟩)⟩
   · exact ⟨none,_,run_endLoop hb.rcd (by simp [recOf]),hdone d xs _ (Nat.le_refl _) hS (hI.putObj _ hi (by omega) hb.rcd rfl) ((World.putObj_heap_other (by omega)).trans hb.def')⟩
   · exact ⟨some .ret,_,run_endLoop hb.rcd (by simp [recX]),hstop d pre _ (Nat.le_refl _) hSp (hIx.putObj _ hi (by omega) hb.rcd rfl) ((World.putObj_heap_other (by omega)).trans hb.def')⟩
end
end Go.Proofs.YtknjjjenklfeoaaGreatDoor
namespace Go.Proofs.YtknjjjenklfeoaaGreatDoor
def toldAll (C:List Clus) (f:Nat):List Nat:=(toldBy (numsOf (cl C f))).flatMap fun s=>s :: toldBy (numsOf (cl C s))
def heldAll (C:List Clus) (f:Nat):List Nat:=f :: toldAll C f
def plus1 (k:List UInt8) (n:Nat):List UInt8:=k.set n (UInt8.ofNat ((byteAt k n+1)%256))
def plus (k:List UInt8) (us:List Nat):List UInt8:=us.foldl plus1 k
def fitsB:List UInt8→List Nat→Bool
 | _,[]=>true
 | k,u :: us=>decide (byteAt k u<254) && fitsB (plus1 k u) us
theorem plus1_length (k:List UInt8) (n:Nat):(plus1 k n).length=k.length:=by simp [plus1]
theorem plus_length (us:List Nat): ∀ k:List UInt8,(plus k us).length=k.length:=by
 induction us with
 | nil=>intro k;rfl
 | cons u r ih=>intro k;show (plus (plus1 k u) r).length=_;rw [ih,plus1_length]
theorem plus_snoc (k:List UInt8) (us:List Nat) (u:Nat):plus k (us++[u])=plus1 (plus k us) u:=by simp [plus]
theorem fitsB_snoc (us:List Nat) (u:Nat): ∀ k,fitsB k (us++[u])=(fitsB k us && decide (byteAt (plus k us) u<254)):=by
 induction us with
 | nil=>
   intro k
   show (decide (byteAt k u<254) && true)=(true && decide (byteAt k u<254))
   rw [Bool.and_true,Bool.true_and]
 | cons a r ih=>
   intro k
   rw [List.cons_append,fitsB,fitsB,ih,Bool.and_assoc];rfl
theorem fitsB_pre {us pre:List Nat} {k:List UInt8} (h:pre <+: us) (hf:fitsB k pre=false):fitsB k us=false:=by
 obtain ⟨r,rfl⟩:=h
 induction pre generalizing k with
 | nil=>simp [fitsB] at hf
 | cons a p ih=>
   rw [fitsB,Bool.and_eq_false_iff] at hf
   rw [List.cons_append,fitsB,Bool.and_eq_false_iff]
   rcases hf with x | x
   · exact Or.inl x
   · exact Or.inr (ih x)
theorem plus1_get (k:List UInt8) (n m:Nat) (hn:n<k.length) (h1:byteAt k n<255):byteAt (plus1 k n) m=if n=m then byteAt k n+1 else byteAt k m:=by
 unfold plus1
 rw [byteAt_set _ _ _ _ hn,toNat_ofNat _ (by omega)]
 by_cases e:n=m
 · rw [if_pos e,if_pos e];omega
 · rw [if_neg e,if_neg e]
theorem plus_get: ∀ (us:List Nat) (k:List UInt8) (m:Nat),(∀ u ∈ us,u<k.length)→fitsB k us=true→byteAt (plus k us) m=byteAt k m+us.count m
 | [],_,_,_,_=>rfl
 | u :: us,k,m,hl,hf=>by
   rw [fitsB,Bool.and_eq_true,decide_eq_true_iff] at hf
   show byteAt (plus (plus1 k u) us) m=_
   rw [plus_get us (plus1 k u) m (fun x hx=>by rw [plus1_length];exact hl x (by simp [hx])) hf.2,plus1_get k u m (hl u (by simp)) (by omega),List.count_cons]
   by_cases e:u=m
   · subst e;simp;omega
   · rw [if_neg e,if_neg (by simp [e])];omega
theorem fits_iff: ∀ (us:List Nat) (k:List UInt8),(∀ u ∈ us,u<k.length)→(fitsB k us=true↔ ∀ u ∈ us,byteAt k u+us.count u≤254)
 | [],_,_=>by simp [fitsB]
 | u :: us,k,hl=>by
   rw [fitsB,Bool.and_eq_true,decide_eq_true_iff]
   have ih:=fits_iff us (plus1 k u) (fun x hx=>by rw [plus1_length];exact hl x (by simp [hx]))
   constructor
   · rintro ⟨h1,h2⟩ x hx
     rw [List.count_cons]
     by_cases hm:x ∈ us
     · have:=ih.1 h2 x hm
       rw [plus1_get k u x (hl u (by simp)) (by omega)] at this
       by_cases e:u=x
       · subst e;simp at this ⊢;omega
       · rw [if_neg e] at this;rw [if_neg (by simp [e])];omega
     · rcases List.mem_cons.1 hx with e | e
       · subst e;rw [List.count_eq_zero.2 hm];simp;omega
       · exact absurd e hm
   · intro h
     have hu:=h u (by simp)
     rw [List.count_cons] at hu
     simp only [beq_self_eq_true,if_true] at hu
     refine ⟨by omega,ih.2 fun x hx=> ?_⟩
     rw [plus1_get k u x (hl u (by simp)) (by omega)]
     have:=h x (by simp [hx])
     rw [List.count_cons] at this
     by_cases e:u=x
     · subst e;simp at this ⊢;omega
     · rw [if_neg (by simp [e])] at this;rw [if_neg e];omega
end Go.Proofs.YtknjjjenklfeoaaGreatDoor
