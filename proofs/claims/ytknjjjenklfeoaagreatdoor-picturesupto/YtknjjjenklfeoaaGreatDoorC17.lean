import Derived.Test.YtknjjjenklfeoaaGreatDoorC16
import Derived.RangeFuncNested
import Derived.RangeFuncBound
import Derived.RangeFuncCalls
import Derived.RangeFuncLeaves
import Derived.Shelf.Abstract
import Derived.Shelf.RegionOpen
import Derived.WalkKit
import Derived.OwnWalkIn
import Derived.TacticsInMore
import Derived.LoopNIn
import Derived.LoopIn
import Derived.Test.YtknjjjenklfeoaaGreatDoorC12
import Derived.Test.YtknjjjenklfeoaaGreatDoorC13
set_option maxHeartbeats 8000000
set_option maxRecDepth 100000
namespace Go.Proofs.YtknjjjenklfeoaaGreatDoor
open Go.RowKit Go.Shelf
attribute [local go_sem ↓] loadVar_clus storeVar_clus zeroValue_clus loadVar_tab storeVar_tab zeroValue_tab loadVar_cnt storeVar_cnt zeroValue_cnt loadVar_head storeVar_head zeroValue_head build_head buildSlice_clus loadVar_wr storeVar_wr zeroValue_wr build_wr buildSlice_wr equalIn_clus loadVar_place storeVar_place zeroValue_place build_place loadVar_lst storeVar_lst zeroValue_lst storeVar_ent build_ent
attribute [local go_sem] run_loadClus run_storeClus run_zeroClus run_storeClus_new run_loadClus_new zc_length run_loadTab run_storeTab run_zeroTab run_storeTab_new run_loadTab_new zt_length run_loadCnt run_storeCnt run_zeroCnt run_storeCnt_new run_loadCnt_new zk_length run_loadHead run_storeHead run_zeroHead run_storeHead_new run_bHead HasAt_drew cellsAt_drew HasAt_drewN cellsAt_drewN run_bsClus run_loadWr run_zeroWr run_storeWr run_storeWr_new run_bWr0 run_bsWr run_loadPlace run_storePlace run_zeroPlace run_storePlace_new run_bPlace run_loadLst run_storeLst run_zeroLst run_storeLst_new run_storeEnt run_bEnt
attribute [local go_sem] field_head1 field_head0 Oper.semAt_some
def minus1 (k:List UInt8) (n:Nat):List UInt8:=k.set n (UInt8.ofNat ((byteAt k n+255)%256))
def minus (k:List UInt8) (us:List Nat):List UInt8:=us.foldl minus1 k
theorem minus_snoc (k:List UInt8) (us:List Nat) (u:Nat):minus k (us++[u])=minus1 (minus k us) u:=by simp [minus]
theorem minus_length (k:List UInt8) (us:List Nat):(minus k us).length=k.length:=by
 unfold minus
 induction us generalizing k with
 | nil=>rfl
 | cons a r ih=>simp only [List.foldl_cons];rw [ih];simp [minus1]
def letGoV1 (V:VolR) (us:List Nat):VolR:=flushV (putCnt V (minus (cntsOf V.C) us) 4)
def letGoV (V:VolR) (us:List Nat):VolR:=flushV (markLoneV (letGoV1 V us))
theorem putCnt_lenC' (V:VolR) (k:List UInt8) (h5:5≤V.C.length):(putCnt V k 4).C.length=V.C.length:=by
 simp only [putCnt,putV_lenC];omega
theorem SeqStopsK.all {α:Type} {n gf:Nat} {lb:Array Value} {encs:α→Array Value} {Kp:World→World→Prop} {S Sp:List α→Prop} {N B:Nat} {w:World} (h:SeqStopsK Fence.wide n Tryz.prog gf lb encs Kp S Sp N w):SeqAll n gf lb encs Kp S N B w:=
 fun l J W hW _ hJ hY h0=>(h l J (fun _ _=>False) W hW (fun s A B row hs hg hr=>hJ s A B row hs hg (fun r e=>⟨(hr r e).1,by obtain ⟨_,o,ho,hw⟩:=hr r e;exact ⟨o,ho,Obj.not_cells_of_walk hw⟩⟩)) (fun _ _ _ _ hs _ _=>hs)
   (fun pre x W1 hJ1 hl=>yield_mono (hY pre x W1 hJ1 hl) (fun e W' hx=>Or.inl hx)) h0).mono (by
   rintro e W' ⟨h1,h2 | ⟨pre,_,h3⟩⟩
   · exact ⟨h1,h2⟩
   · exact h3.elim)
def valsU (pre:List U256):List Nat:=pre.map fun y=>y.1
theorem valsU_snoc (pre:List U256) (x:U256):valsU (pre++[x])=valsU pre++[x.1]:=by simp [valsU]
theorem Env.beside {w W:World} {v D:Nat} {o:Obj} {Cv Lv C1 L1:Value} {V:VolR} {bs:List (Nat × Obj)} (h:Env w W v Cv Lv C1 L1 V bs) (hD:W.heap[D]? = some o) (hw:w.heap.size≤D) (ho:o.isCells=false):Env w W v Cv Lv C1 L1 V ((D,o) :: bs):=
 ⟨h.step,fun x hx=>by
   rcases List.mem_cons.1 hx with rfl | hx
   · exact ⟨hD,hw,h.at'.notCells hD ho⟩
   · exact h.objs x hx⟩
def EqV (a b:VolR):Prop:=a=b
theorem letGo_in (w:World) (v:Nat) (Cv Lv:Value) (V:VolR) (h:VolAt w v Cv Lv V) (h5:5<V.C.length) (hC:V.C.length≤256) (hL:V.L.length≤600000000)
   (gf:Nat) (lb:Array Value) (us:List Nat) (N:Nat) (eg: ∀ args w,(callFunc gf args).run Tryz.prog w= .ok (.enter gf args) w)
   (hseq: ∀ (X:Nat→Prop) (B:Nat),(∀ k,X k→w.heap.size≤k∧k<B)→SeqAll 99 gf lb (fun u:U256=> #[Value.int .i64 ((u.1:Nat):Int)]) (KeepV X (fun k=>B≤k) v EqV) (fun ys=>ys.map (·.1)=us) N B w)
   (hF: ∀ f ∈ firstsOf (letGoV1 V us),FirstOK (letGoV1 V us) f):
   CallsIn Fence.wide 100 Tryz.prog 110 #[.pointer (some ⟨v,0,none⟩),.func (.func gf) #[] lb] w fun e w'=>e= .returned (.tuple #[])∧ ∃ C1 L1,VStep w w' v Cv Lv C1 L1 (letGoV V us):=by
 have Hc:=hide (counts_vol w v Cv Lv V h (by omega))
 have hcl:=cntsOf_length V.C h.lenC (by omega)
 have HV:Hid (letGoV1 V us=flushV (putCnt V (minus (cntsOf V.C) us) 4)):=rfl
 have HV2:Hid (letGoV V us=flushV (markLoneV (letGoV1 V us))):=rfl
 have H:=hide h
 clear h
 generalize cntsOf V.C=k at*
 refine callsIn_of_wp_marks Tryz.func110 rfl trivial ?_ rfl
 simp only [Tryz.ntmps110,List.size_toArray,List.length_cons,List.length_nil,Nat.reduceAdd,Nat.reduceSub,Array.replicate_succ,Array.replicate_zero,List.push_toArray,List.append_toArray,List.nil_append,List.cons_append]
 gi_wp2_with fail
 refine ⟨trivial,(callsIn_wide.2 (uh Hc)).mono ?_⟩
 rintro e w1 ⟨rfl,hb1⟩
 have E1:=((Env.start (uh H)).later hb1).lay (.cells (cv k).toArray 123)
 have HB0:Hid (Below w.heap.size w (w1.alloc (.cells (cv k).toArray 123))):=hb1.alloc hb1.size _
 have hw1:=hb1.size
 have E1:=hide E1
 clear Hc hb1
 gi_wp2_with fail
 have hsz:(w1.alloc (.cells (cv k).toArray 123)).heap.size=w1.heap.size+1:=by simp
 generalize w1.alloc (.cells (cv k).toArray 123)=W1 at*
 refine range_all (by omega) (gf:=gf) (lb:=lb) rfl eg (hseq (fun k=>k=w1.heap.size) (W1.heap.size+2) (by rintro k rfl;exact ⟨hw1,by omega⟩))
   (fun A B C h k=>KeepV.trans (R:=EqV) (fun _ _ _ a b=>Eq.trans a b) h k) (fun W o o' hl hc=>KeepV.turn (R:=EqV) (fun _=>rfl) W _ o o' hl hc (by omega)) (uh HB0) (fun _=>rfl)
   (fun pre W=>Env w W v Cv Lv Cv Lv V [(w1.heap.size,.cells (cv (minus k (valsU pre))).toArray 123 (0,0))])
   (fun _ _ _ _ hs hg hr=>Env.turned hs (by omega) (by simp [Obj.isCells]) hg hr)
   (uh E1)
   (fun x a' _=>a'={ tmps:= #[.pointer (some ⟨v,0,none⟩),.func (.func gf) #[] lb,undef,undef,.pointer (some ⟨w1.heap.size,0,none⟩),.int .i64 ((x.1:Nat):Int),.pointer (some ⟨v,0,none⟩),.agg (cv k).toArray,.func (.func gf) #[] lb,.int .i64 ((x.1:Nat):Int),undef,undef,undef,undef,undef,undef,undef,undef,undef,undef,undef,undef,undef,undef,undef,undef,undef,undef],defers:=[] })
   (fun _ _ _ _ _ _ hs _ _=>hs) ?assign ?body ?done
 case assign=>
   rintro l pre x W' K hi hK
   gi_wp2
   exact hK _ _ (KeepsFrom.refl _ _) (KeepV.below (R:=EqV) (fun _=>rfl) (Below.refl _ _)) hi rfl
 case body=>
   rintro l pre ⟨x,hx⟩ a' W hl _ hE rfl hpl
   have hml:(minus k (valsU pre)).length=256:=by rw [minus_length];exact hcl
   have hxi:(x:Int)<256:=by omega
   have hms:minus k (valsU (pre++[⟨x,hx⟩]))=minus1 (minus k (valsU pre)) x:=by rw [valsU_snoc,minus_snoc]
   generalize minus k (valsU pre)=kk at*
   have c1:W.cell? ⟨w1.heap.size,x,none⟩=some (.int .u8 (byteAt kk x:Nat)):=by
     rw [cell_blk hE.o0,List.getElem?_toArray,cv_get _ _ (by omega)]
   have f1:=frozen_blk hE.o0
   have hbl:=byteAt_lt kk x
   have hwr:IntKind.u8.wrap (((byteAt kk x:Nat):Int) - 1)=(((byteAt kk x+255)%256:Nat):Int):=by
     rw [IntKind.wrap_u8];omega
   have E3:=hE.put (by simp) (Kept.only _ w1.heap.size x (.int .u8 (((byteAt kk x+255)%256:Nat):Int))) (heap_setCell_same _ _ _ _ _ _ _ hE.o0)
   have hset:(cv kk).toArray.setIfInBounds x (.int .u8 (((byteAt kk x+255)%256:Nat):Int))=(cv (minus1 kk x)).toArray:=by
     rw [List.setIfInBounds_toArray,minus1,cv_setB kk x _ (Nat.mod_lt _ (by omega))]
   rw [hset,← hms] at E3
   have K3:KeepV (fun k=>k=w1.heap.size) (fun k=>W1.heap.size+2≤k) v EqV W (W.setCell ⟨w1.heap.size,x,none⟩ (.int .u8 (((byteAt kk x+255)%256:Nat):Int))):=
     KeepV.own hE.at' (Kept.only _ _ _ _) (by rintro k rfl;exact ⟨rfl,hE.n0,_,hE.o0,rfl⟩) rfl
   have HE:=hide E3
   have K3:=hide K3
   clear E3 hE hset hms
   generalize byteAt kk x=bb at*
   generalize (bb+255)%256=b2 at*
   clear hsz
   gi_wp2
   first
     | exact ⟨(KeepsOthers.setCell _ _ _).from _,uh K3,uh HE⟩
     | exact ⟨(KeepsOthers.setCell _ _ _).from _,uh HE⟩
 case done=>
   rintro D ys W hD hS hE hK
   have hS':valsU ys=us:=hS
   rw [hS'] at hE
   have hml:(minus k us).length=256:=by rw [minus_length];exact hcl
   have l1:=blk_has hE.o0 (n:=256) (by rw [cv_length,hml])
   have l2:=blk_cells hE.o0 (n:=256) (by rw [cv_length,hml])
   have hDw:w.heap.size≤D:=by omega
   have F1:=hide ((hE.sub (cs:=[]) (by simp)).beside hK hDw rfl)
   have Hp:=hide (putCounts_any W v Cv Lv V hE.at' (minus k us) hml (by omega) (by omega))
   have hlC:=putCnt_lenC' V (minus k us) (by omega)
   have hlL:=putCnt_lenL V (minus k us) 4
   have hlL2:=flushV_lenL (putCnt V (minus k us) 4)
   have hfc:(flushV (putCnt V (minus k us) 4)).C.length=V.C.length:=by rw [flushV_C];exact hlC
   rw [← uh HV] at hlL2 hfc
   have HV1:=HV
   clear hE hK hseq E1
   generalize putCnt V (minus k us) 4=V2 at*
   generalize minus k us=k2 at*
   gi_wp2_with fail
   refine ⟨trivial,(callsIn_wide.2 (uh Hp)).mono ?_⟩
   rintro e W2 ⟨rfl,C2,L2,hS2⟩
   have F2:=hide ((uh F1).does hS2)
   clear hS2 F1 Hp l1 l2
   gi_wp2_with fail
   refine ⟨trivial,(callsIn_wide.2 (flush_any W2 v C2 L2 V2 (uh F2).at' (by omega))).mono ?_⟩
   rintro e W3 ⟨rfl,C3,L3,hS3⟩
   rw [← uh HV1] at hS3
   have F3:=hide ((uh F2).does hS3)
   clear hS3 F2
   have hlm:=loneV_lenL (cntsOf (letGoV1 V us).C) (firstsOf (letGoV1 V us)) (letGoV1 V us)
   have hfl:(firstsOf (letGoV1 V us)).length≤5:=by
     unfold firstsOf picFirsts
     have:=lenOf_le (entsOf (cl (letGoV1 V us).C 5))
     simp only [List.length_cons,List.length_map,List.length_take]
     omega
   have hml2:(markLoneV (letGoV1 V us)).L.length≤700000000:=by unfold markLoneV;omega
   generalize letGoV1 V us=V3 at*
   gi_wp2_with fail
   refine ⟨trivial,(callsIn_wide.2 (callsIn_wide.1 (markLone_in W3 v C3 L3 V3 (uh F3).at' (by omega) (by omega) (by omega) hF))).mono ?_⟩
   rintro e W4 ⟨rfl,C4,L4,hS4⟩
   have F4:=hide ((uh F3).does hS4)
   clear hS4 F3
   gi_wp2_with fail
   refine ⟨trivial,(callsIn_wide.2 (flush_any W4 v C4 L4 (markLoneV V3) (uh F4).at' (by omega))).mono ?_⟩
   rintro e W5 ⟨rfl,C5,L5,hS5⟩
   have F5:=(uh F4).does hS5
   have hK5:=F5.o0
   gi_wp2
   refine ⟨by simp,.inl ⟨_,_,rfl,run_takeDeferred hK5,?_⟩⟩
   have hg:=grownBy_putObj' W5 D (.deferred none)
   have hk:Kept (fun k=>k=D) W5 (W5.putObj D (.deferred none)):=⟨hg.os,hg.tape,hg.output,hg.size,fun k hk hs=>hg.block k hk (fun e=>hs (by injection e))⟩
   refine ⟨_,results_none rfl _ _ _,rfl,C5,L5,?_⟩
   rw [uh HV2]
   exact F5.step.own hk (by rintro k rfl;exact ⟨hDw,F5.n0⟩)
theorem letsGo_any (v:Nat) (V:VolR) (h5:5<V.C.length) (hC:V.C.length≤256) (hL:V.L.length≤600000000) (ns:List Nat) (hns: ∀ m ∈ ns,m<65536∧m%32768<256) (hnl:ns.length≤100) (hF: ∀ f ∈ firstsOf (letGoV1 V (toldBy ns)),FirstOK (letGoV1 V (toldBy ns)) f) (W:World) (C1 L1:Value) (bx bs:Nat)
   (hV:VolAt W v C1 L1 V) (hbx:W.heap[bx]? = some (.cells #[.slice (some ⟨bs,0,none⟩) ns.length ns.length] 260 (0,0))) (hbs:W.heap[bs]? = some (.cells (tv ns).toArray 167 (0,0))) (hf: ¬ foot v C1 L1 bs):
   Calls Tryz.prog 110 #[.pointer (some ⟨v,0,none⟩),.func (.func 179) #[] #[.pointer (some ⟨bx,0,none⟩)]] W fun e w'=>e= .returned (.tuple #[])∧ ∃ C2 L2,VStep W w' v C1 L1 C2 L2 (letGoV V (toldBy ns)):=
 callsIn_wide.1 (letGo_in W v C1 L1 V hV h5 hC hL 179 #[.pointer (some ⟨bx,0,none⟩)] (toldBy ns) ns.length (enters_of Tryz.func179 (by kernel_rfl) rfl)
   (fun X B hX=>SeqStopsK.all (clusters_stops 99 (by omega) X (fun k=>B≤k) EqV v bx bs ns.length ns hns hnl V C1 L1 W hV hbx hbs (fun hx=>by have:=(hX _ hx).1;have:=blk_lt hbs;omega) hf)) hF)
end Go.Proofs.YtknjjjenklfeoaaGreatDoor
namespace Go.Proofs.YtknjjjenklfeoaaGreatDoor
open Go.RowKit
attribute [local go_sem ↓] loadVar_clus storeVar_clus zeroValue_clus loadVar_tab storeVar_tab zeroValue_tab loadVar_cnt storeVar_cnt zeroValue_cnt loadVar_head storeVar_head zeroValue_head build_head buildSlice_clus loadVar_wr storeVar_wr zeroValue_wr build_wr buildSlice_wr equalIn_clus loadVar_place storeVar_place zeroValue_place build_place
attribute [local go_sem] run_loadClus run_storeClus run_zeroClus run_storeClus_new run_loadClus_new zc_length run_loadTab run_storeTab run_zeroTab run_storeTab_new run_loadTab_new zt_length run_loadCnt run_storeCnt run_zeroCnt run_storeCnt_new run_loadCnt_new zk_length run_loadHead run_storeHead run_zeroHead run_storeHead_new run_bHead HasAt_drew cellsAt_drew HasAt_drewN cellsAt_drewN run_bsClus run_loadWr run_zeroWr run_storeWr run_storeWr_new run_bWr0 run_bsWr run_loadPlace run_storePlace run_zeroPlace run_storePlace_new run_bPlace
attribute [local go_sem] field_head1 field_head0
def LetsGo (v:Nat) (V V':VolR) (ns:List Nat):Prop:=
 ∀ W C1 L1 bx bs,VolAt W v C1 L1 V→W.heap[bx]? = some (.cells #[.slice (some ⟨bs,0,none⟩) ns.length ns.length] 260 (0,0))→W.heap[bs]? = some (.cells (tv ns).toArray 167 (0,0))→ ¬ foot v C1 L1 bs→
   Calls Tryz.prog 110 #[.pointer (some ⟨v,0,none⟩),.func (.func 179) #[] #[.pointer (some ⟨bx,0,none⟩)]] W fun e w'=>e= .returned (.tuple #[])∧ ∃ C2 L2,VStep W w' v C1 L1 C2 L2 V'
def wnb1 (V:VolR) (data:Clus):VolR:=flushV (putV (claimV V (lowFree (cntsOf V.C) 1)) ((lowFree (cntsOf V.C) 1).getD 0 0) data)
def wnbV (V:VolR) (p:PlaceR) (data:Clus):VolR:=flushV (putNumV (wnb1 V data) (p.second%32768) p.inSecond ((lowFree (cntsOf V.C) 1).getD 0 0+32768))
theorem lowTo_lt (c:List UInt8) (want:Nat): ∀ k,∀ n ∈ lowTo c want k,n<k
 | 0,n,hn=>by simp [lowTo] at hn
 | k+1,n,hn=>by
   rw [lowTo] at hn
   split at hn
   · have:=lowTo_lt c want k n hn;omega
   · split at hn
     · rcases List.mem_append.1 hn with h | h
       · have:=lowTo_lt c want k n h;omega
       · rw [List.mem_singleton.1 h];omega
     · have:=lowTo_lt c want k n hn;omega
theorem lowFree_lt (c:List UInt8) (want:Nat): ∀ n ∈ lowFree c want,n<256:=lowTo_lt c want 256
theorem lastOf_lt {F:List Nat} (hF:0<F.length) (h: ∀ n ∈ F,n<256):lastOf F<256:=by
 unfold lastOf
 rw [List.getD_eq_getElem?_getD,List.getElem?_eq_getElem (by omega)]
 exact h _ (List.getElem_mem _)
theorem claimV_lenC (V:VolR) (F:List Nat) (h5:5≤V.C.length):(claimV V F).C.length=V.C.length:=by
 unfold claimV
 simp only [putCnt,putV_lenC,lengthenV_lenC V F (by omega)]
 omega
theorem claimV_lenL (V:VolR) (F:List Nat):(claimV V F).L.length≤V.L.length+11:=by
 unfold claimV
 have h1:=putCnt_lenL (lengthenV V F) (ones (cntsOf (lengthenV V F).C) F) 4
 have h2:=lengthenV_lenL V F
 omega
theorem ints_get {w:World} {g cap:Nat} {F:List Nat} {base:Nat} (hx:w.ownsRow base 3 1 (.slice (some ⟨g,0,none⟩) F.length cap) F.length (iv F)) (k:Nat) (hk:k<F.length):w.cell? ⟨g,k,none⟩=some (.int .i64 ((F.getD k 0:Nat):Int)):=by
 rw [hx.cellAt k (by omega)]
 unfold iv
 rw [List.getElem?_map,List.getD_eq_getElem?_getD,List.getElem?_eq_getElem hk]
 rfl
theorem row_base {w:World} {b1 b2:Nat} {e:TypeId} {size:Nat} {v:Value} {n:Nat} {xs:List Value} (h:w.ownsRow b1 e size v n xs) (hb:b2≤b1):w.ownsRow b2 e size v n xs:=by
 obtain ⟨h1,h2⟩:=h
 refine ⟨h1,?_⟩
 rcases h2 with h2 | ⟨g,cap,cur,rfl,hg,r⟩
 · exact Or.inl h2
 · exact Or.inr ⟨g,cap,cur,rfl,Nat.le_trans hb hg,r⟩
def bsNum (parts:Array (Nat × Value)):Sem Value:=Instr.buildSlice 260 1 parts
theorem buildSlice_num (parts:Array (Nat × Value)):Instr.buildSlice 260 1 parts=bsNum parts:=rfl
theorem run_bsNum {w:World} {n:Nat}:(bsNum #[(0,.int .u16 (n:Nat))]).run Tryz.prog w= .ok (.slice (some ⟨w.heap.size,0,none⟩) 1 1) (w.alloc (.cells (tv [n]).toArray 167)):=
 run_buildSlice_one w 260 167 1 (.int .u16 0) (.int .u16 (n:Nat)) Tryz.underlying260 (by kernel_rfl) (by omega) (by omega) (by rfl)
attribute [local go_sem ↓] buildSlice_num
attribute [local go_sem] run_bsNum
theorem writeNewBlock_any (w:World) (v:Nat) (Cv Lv:Value) (V V':VolR) (h:VolAt w v Cv Lv V) (h5:5<V.C.length) (hC:V.C.length≤256) (hL:V.L.length≤500000000) (p:PlaceR) (hps:p.second<65536) (hpc:p.second%32768<V.C.length) (hpi:p.inSecond<32) (data:Clus) (hd:data.length=64)
   (hLG:0<(lowFree (cntsOf V.C) 1).length→LetsGo v (wnbV V p data) V' [p.block]):
   Calls Tryz.prog 107 #[.pointer (some ⟨v,0,none⟩),.agg (placeCells p).toArray,.agg (cv data).toArray] w fun e w'=>
     if 0<(lowFree (cntsOf V.C) 1).length then e= .returned (.int .i64 0)∧ ∃ C1 L1,VStep w w' v Cv Lv C1 L1 V' else e= .returned (.int .i64 5)∧Below w.heap.size w w':=by
 have E0:=((Env.start h).lay (.cells (placeCells p).toArray 171)).lay (.cells (cv data).toArray 38)
 simp only [World.size_alloc] at E0
 have Hf:=hide (lowestFree_any _ v Cv Lv V E0.at' (by omega) 1 (by omega))
 have HB:Hid (Below w.heap.size w ((w.alloc (.cells (placeCells p).toArray 171)).alloc (.cells (cv data).toArray 38))):=((Below.refl _ w).alloc (Nat.le_refl _) _).alloc (by simp) _
 have hFlt:=lowFree_lt (cntsOf V.C) 1
 have hFle:=(lowTo_le (cntsOf V.C) 1 256).1
 have H1:Hid (wnb1 V data=flushV (putV (claimV V (lowFree (cntsOf V.C) 1)) ((lowFree (cntsOf V.C) 1).getD 0 0) data)):=rfl
 have H2:Hid (wnbV V p data=flushV (putNumV (wnb1 V data) (p.second%32768) p.inSecond ((lowFree (cntsOf V.C) 1).getD 0 0+32768))):=rfl
 have E0:=hide E0
 change (lowFree (cntsOf V.C) 1).length≤1 at hFle
 generalize lowFree (cntsOf V.C) 1=F at*
 by_cases hF:0<F.length
 · simp only [if_pos hF]
   have hlt:=lastOf_lt hF hFlt
   have hF1:F.length=1:=by omega
   have hLG:=hLG hF
   have hb0:F.getD 0 0<256:=by rw [List.getD_eq_getElem?_getD,List.getElem?_eq_getElem hF];exact hFlt _ (List.getElem_mem _)
   have hcC:=claimV_lenC V F (by omega)
   have hcL:=claimV_lenL V F
   have HC:Hid (∀ W C1 L1 x,VolAt W v C1 L1 V→W.ownsRow 0 3 1 x F.length (iv F)→_):=fun W C1 L1 x hW hx=>claim_any W v C1 L1 V hW F hF (by omega) hlt hFlt x hx (by omega) (by omega) (by omega)
   generalize claimV V F=V1 at*
   generalize hbb:F.getD 0 0=b at*
   have hpC:=putV_lenC V1 b data
   have hpL:=putV_lenL V1 b data
   have HP1:Hid (∀ W C1 L1,VolAt W v C1 L1 V1→_):=fun W C1 L1 hW=>put_any W v C1 L1 V1 hW b (by omega) data hd (by omega) (by omega)
   generalize putV V1 b data=V2 at*
   have hf2:=flushV_lenL V2
   have hf2c:(flushV V2).C.length=V2.C.length:=by rw [flushV_C]
   rw [← uh H1] at hf2 hf2c
   have HF2:Hid (∀ W C1 L1,VolAt W v C1 L1 V2→_):=fun W C1 L1 hW=>flush_any W v C1 L1 V2 hW (by omega)
   rw [← uh H1] at HF2
   generalize wnb1 V data=V3 at*
   have HN:Hid (∀ W C1 L1,VolAt W v C1 L1 V3→_):=fun W C1 L1 hW=>putNumber_vol W v C1 L1 V3 hW (p.second%32768) p.inSecond (b+32768) (by omega) hpi (by omega) (by omega) (by omega)
   have hn4:=putV_lenL V3 (p.second%32768) (bytesOf ((numsOf (cl V3.C (p.second%32768))).set p.inSecond (b+32768)))
   change (putNumV V3 (p.second%32768) p.inSecond (b+32768)).L.length≤_ at hn4
   generalize hV4:putNumV V3 (p.second%32768) p.inSecond (b+32768)=V4 at*
   have HF4:Hid (∀ W C1 L1,VolAt W v C1 L1 V4→_):=fun W C1 L1 hW=>flush_any W v C1 L1 V4 hW (by omega)
   rw [← uh H2] at HF4
   generalize wnbV V p data=V5 at*
   have HO:Hid (∀ W,_):=fun W=>own_of b (by omega) W
   have HCl:Hid (∀ W,_):=fun W=>cluster_of p.second hps W
   have HLG:=hide hLG
   clear hLG h H1 H2 hV4 hFlt hlt
   generalize p.second%32768=c2 at*
   go_enter Tryz.func107,Tryz.ntmps107
   go_wp2_with fail
   refine (uh Hf).mono ?_
   rintro e w1 ⟨x,rfl,hx,hb1⟩
   obtain ⟨g,cap,rfl,_⟩:=row_some hx hF
   have E1:=hide ((uh E0).later hb1)
   have cx:w1.cell? ⟨g,0,none⟩=some (.int .i64 (b:Nat)):=by rw [← hbb];exact ints_get hx 0 hF
   have Hx:=hide (row_base hx (Nat.zero_le _))
   clear hx hb1 Hf E0 HB
   rw [hF1] at HC Hx ⊢
   go_wp2_with fail
   refine (uh HC w1 _ _ _ (uh E1).at' (uh Hx)).mono ?_
   rintro e w2 ⟨rfl,C2,L2,hS2⟩
   have E2:=(uh E1).does hS2
   have l1:=box_has E2.drew.o0 hd
   have l2:=box_cells E2.drew.o0 hd
   have E2:=hide E2
   clear hS2 E1 Hx cx HC
   go_wp2
   go_region_law (go_simp
                  go_at_call 70
                  refine (uh HP1 _ _ _ (uh E2).drew.at').mono ?_
                  rintro e w3 ⟨rfl,C3,L3,hS3⟩
                  have E3:=hide ((uh E2).drew.does hS3)
                  clear hS3)
   go_wp2_with fail
   refine (uh HF2 _ _ _ (uh E3).at').mono ?_
   rintro e w4 ⟨rfl,C4,L4,hS4⟩
   have E4:=(uh E3).does hS4
   have d1:w4.drew.cell? ⟨w.heap.size,3,none⟩=some (.int .u16 (p.second:Nat)):=(cell_blk E4.drew.o1 3).trans rfl
   have d2:w4.drew.cell? ⟨w.heap.size,2,none⟩=some (.int .i64 (p.inSecond:Nat)):=(cell_blk E4.drew.o1 2).trans rfl
   have E4:=hide E4
   clear hS4 E3 E2 HP1 HF2 l1 l2
   go_wp2
   go_region_law (first
     | (go_simp
        go_at_call 108
        refine (uh HCl _).mono ?_
        rintro e w5 ⟨rfl,rfl⟩)
     | (go_simp
        go_at_call 161
        refine (uh HO _).mono ?_
        rintro e w5 ⟨rfl,rfl⟩)
     | (go_simp
        go_at_call 164
        refine (uh HN _ _ _ (uh E4).drew.at').mono ?_
        rintro e w5 ⟨rfl,C5,L5,hS5⟩
        have E5:=hide ((uh E4).drew.does hS5)
        clear hS5))
   all_goals
     clear E4 d1 d2 HN HO HCl
     go_wp2_with fail
     refine (uh HF4 _ _ _ (uh E5).at').mono ?_
     rintro e w6 ⟨rfl,C6,L6,hS6⟩
     have E6:=(uh E5).does hS6
     have d3:w6.cell? ⟨w.heap.size,4,none⟩=some (.int .u16 (p.block:Nat)):=(cell_blk E6.o1 4).trans rfl
     have E7:=E6.lay (.cells (tv [p.block]).toArray 167)
     have Hm:=hide (clusters_make (w6.alloc (.cells (tv [p.block]).toArray 167)) (some ⟨w6.heap.size,0,none⟩) 1 1)
     have E8:=E7.lay (.cells #[.slice (some ⟨w6.heap.size,0,none⟩) 1 1] 260)
     simp only [World.size_alloc] at E8
     have Hg:=hide (uh HLG _ C6 L6 (w6.heap.size+1) w6.heap.size E8.at' E8.o0 E8.o1 (E8.objs (w6.heap.size,.cells (tv [p.block]).toArray 167 (0,0)) (by simp)).2.2)
     have E8:=hide E8
     clear hS6 E6 E7 E5 HF4 HLG
     go_wp2_with fail
     refine (uh Hm).mono ?_
     rintro e w8 ⟨rfl,rfl⟩
     simp only [World.size_alloc]
     go_wp2_with fail
     refine (uh Hg).mono ?_
     rintro e w9 ⟨rfl,C9,L9,hS9⟩
     have E9:=hide ((uh E8).does hS9).step
     go_wp2
     go_ret
     exact ⟨rfl,C9,L9,uh E9⟩
 · simp only [if_neg hF]
   have hF0:F.length=0:=by omega
   go_enter Tryz.func107,Tryz.ntmps107
   go_wp2_with fail
   refine (uh Hf).mono ?_
   rintro e w1 ⟨x,rfl,hx,hb1⟩
   obtain ⟨g,cap,rfl⟩:=row_form hx
   rw [hF0]
   have HB1:=hide ((uh HB).trans (hb1.mono (uh HB).size))
   go_wp2
   go_ret
   exact ⟨rfl,uh HB1⟩
end Go.Proofs.YtknjjjenklfeoaaGreatDoor
