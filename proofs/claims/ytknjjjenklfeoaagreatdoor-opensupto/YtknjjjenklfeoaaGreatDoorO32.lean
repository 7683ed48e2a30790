import Derived.Test.YtknjjjenklfeoaaGreatDoorO31
import Derived.Test.YtknjjjenklfeoaaGreatDoorO25
set_option maxHeartbeats 8000000
set_option maxRecDepth 100000
set_option linter.all false
namespace Go.Proofs.YtknjjjenklfeoaaGreatDoor
section
open Go.RowKit Go.Shelf
attribute [local go_sem ↓] dw fP fZ kS mP mV jJ kJ jY jU lD lH kQ ku kT mQ mW lZ ny jG qc qP qQ qF
attribute [local go_sem] dK fO fV gK gy aV kX mG mM mJ mF gI jK kH jX kZ kW iJ jW lq lC lu kF jc jd lY l7 kG kY mO nI lT mD nH qh qM qO qN qL
attribute [local go_sem] pW pV Oper.semAt_some
def aae (parts:Array (Nat × Value)):Sem Value:=Instr.build 123 parts
theorem VO (parts:Array (Nat × Value)):Instr.build 123 parts=aae parts:=rfl
theorem Yd (w:World):(aae #[]).run Tryz.prog w= .ok (.agg (cv zk).toArray) w:=by
 unfold aae Instr.build;simp only [jY];simp [jX];rfl
attribute [local go_sem ↓] VO
attribute [local go_sem] Yd
theorem ajU {fn:Func} {p q:Tmp} {ty tz:TypeId} (h:fn.results= #[.cell p ty,.cell q tz]) {tmps:Array Value} {P:Program} {w:World} (a b:Addr) {v u:Value} (ht:tmps.getD p undef= .pointer (some a)) (hq:tmps.getD q undef= .pointer (some b)) (hl:(loadVar ty a).run P w= .ok v w) (hm:(loadVar tz b).run P w= .ok u w):
  (results fn tmps).run P w= .ok (.tuple #[v,u]) w:=by
 simp only [results,h];simp [-Array.getD_eq_getD_getElem?,asAddr,ht,hq,hl,hm]
def FP (C:List aj) (f:Nat):List UInt8 × Bool:=if oz (aJ C) (jf C f) then (plus (aJ C) (jf C f),true) else (zk,false)
theorem dU.shut {w W:World} {os:List Obj} {D:Nat} (h:dU w W os) (hD:w.heap.size+os.length≤D):dU w (W.putObj D (.deferred none)) os:=by
 have hg:=grownBy_putObj' W D (.deferred none);have hk:Kept (fun k=>k=D) W (W.putObj D (.deferred none)):=⟨hg.os,hg.tape,hg.output,hg.size,fun k hk hs=>hg.block k hk (fun e=>hs (by injection e))⟩;refine ⟨fun i o ho=>hk.aF ?_ (h.qg i o ho),h.below.grown hg h.below.size (fun k e=>by cases e;omega)⟩
 have:=(FW.1 ho).1
 omega
theorem aip {w:World} {b:Nat} {x:Bool} {t:TypeId} {fr:Nat × Nat} (h:w.heap[b]? = some (.cells #[.bool x] t fr)):(loadVar 4 ⟨b,0,none⟩).run Tryz.prog w= .ok (.bool x) w:=by
 have c:w.cell? ⟨b,0,none⟩=some (.bool x):=(aG h 0).trans rfl;simp [go_sem,c]
theorem akk (w:World) (v:Nat) (Cv Lv:Value) (V:aB) (h:aN w v Cv Lv V) (h5:5<V.C.length) (hC:V.C.length≤256) (first:Nat) (hF:gJ V first):
  CallsIn Fence.wide 100 Tryz.prog 144 #[.pointer (some ⟨v,0,none⟩),.int .i64 (first:Nat)] w fun e w'=>e= .returned (.tuple #[.agg (cv (FP V.C first).1).toArray,.bool (FP V.C first).2])∧aC w w':=by
 have L0:=dU.two w (.cells (cv zk).toArray 123) (.cells #[.bool false] 4);have Hc:=ah (Lr _ v Cv Lv V (h.below L0.below) om);have hcl:=BI V.C h.kE om;have HR:Hid (FP V.C first=if oz (aJ V.C) (jf V.C first) then (plus (aJ V.C) (jf V.C first),true) else (zk,false)):=rfl;have H:=ah h;have L0:=ah L0;have hvl:v<w.heap.size:=h.lt;have hfl: ∀ j,eX v Cv Lv j→j<w.heap.size:=h.qG;clear h;generalize aJ V.C=k at*;refine callsIn_of_wp_marks Tryz.func144 rfl trivial ?_ rfl;simp only [Tryz.ntmps144,iR,iQ,vk,Nat.reduceAdd,Nat.reduceSub,A8,Ba,Bc,Bd,ql,sO]
 gi_wp2_with fail
 refine ⟨trivial,(eY.2 Hc).mono ?_⟩;rintro e w1 ⟨rfl,hb1⟩;have L1:=L0.later hb1;have hw1:w.heap.size+1<w1.heap.size:=aO L1.o1;have L2:=ah (L1.alloc (.cells (cv k).toArray 123));have k2:(w1.alloc (.cells (cv k).toArray 123)).heap[w1.heap.size]? = some (.cells (cv k).toArray 123 (0,0)):=aW _ _;have Ht:=ah (UL (w1.alloc (.cells (cv k).toArray 123)) v first);simp only [jB] at Ht;clear Hc hb1 L1 L0
 gi_wp2_with fail
 refine ⟨trivial,(eY.2 Ht).mono ?_⟩;rintro e w3 ⟨rfl,hw3⟩;have L3:=(L2.alloc (.cells #[.pointer (some ⟨v,0,none⟩)] 82)).alloc (.cells #[.int .i64 (first:Nat)] 3);rw [← hw3] at L3;have hs3:w3.heap.size=w1.heap.size+3:=by rw [hw3];simp
 have k3:w3.heap[w1.heap.size]? = some (.cells (cv k).toArray 123 (0,0)):=by
  rw [hw3,Vd _ _ (by simp;omega),Vd _ _ sm];exact k2
 have v3:w3.heap[w1.heap.size+1]? = some (.cells #[.pointer (some ⟨v,0,none⟩)] 82 (0,0)):=by
  rw [hw3,Vd _ _ sm]
  have:=aW (w1.alloc (.cells (cv k).toArray 123)) (.cells #[.pointer (some ⟨v,0,none⟩)] 82)
  rwa [jB] at this
 have f3:w3.heap[w1.heap.size+1+1]? = some (.cells #[.int .i64 (first:Nat)] 3 (0,0)):=by
  rw [hw3]
  have:=aW ((w1.alloc (.cells (cv k).toArray 123)).alloc (.cells #[.pointer (some ⟨v,0,none⟩)] 82)) (.cells #[.int .i64 (first:Nat)] 3)
  rwa [jB,jB] at this
 have hTA:=YN 99 om (fun j=>j=w1.heap.size∨j=w.heap.size∨j=w.heap.size+1) v (w1.heap.size+1) (w1.heap.size+1+1) first (w3.heap.size+2) V Cv Lv w3 (H.below L3.below) v3 f3 om om (fun hf=>by have:=hfl _ hf;omega) (fun hf=>by have:=hfl _ hf;omega) (by rintro j (rfl | rfl | rfl) <;> omega) hF;have L3:=ah L3;clear L2 k2 v3 f3 Ht hw3
 gi_wp2_with fail
 refine acI om (gf:=174) (lb:= #[.pointer (some ⟨w1.heap.size+1,0,none⟩),.pointer (some ⟨w1.heap.size+1+1,0,none⟩)]) rfl (enters_of Tryz.func174 kr rfl) hTA
  (fun A B C h k=>aT.trans (R:=dF) (fun _ _ _ a b=>sQ a b) h k) (fun W o o' hl hc=>aT.turn (R:=dF) (fun _=>rfl) W _ o o' hl hc om) (bG _ _) (fun _=>rfl)
  (fun pre W=>dU w W [.cells (cv zk).toArray 123,.cells #[.bool false] 4]∧W.heap[w1.heap.size]? = some (.cells (cv (plus k (wB pre))).toArray 123 (0,0))∧oz k (wB pre)=true)
  (fun pre W=>dU w W [.cells (cv zk).toArray 123,.cells #[.bool false] 4]∧oz k (wB pre)=false)
  ?arv ?arw
  ⟨uh L3,k3,rfl⟩
  (fun x a' W'=> ∃ bx,w1.heap.size<bx∧W'.heap[bx]? = some (.cells #[.int .i64 ((x.table:Nat):Int),.int .i64 ((x.index:Nat):Int),.int .u16 ((x.number:Nat):Int)] 219 (0,0))∧a'={ tmps:= #[.pointer (some ⟨v,0,none⟩),.int .i64 (first:Nat),undef,undef,.pointer (some ⟨w.heap.size,0,none⟩),.pointer (some ⟨w.heap.size+1,0,none⟩),.pointer (some ⟨w1.heap.size,0,none⟩),.pointer (some ⟨bx,0,none⟩),undef,.pointer (some ⟨v,0,none⟩),.agg (cv k).toArray,.pointer (some ⟨v,0,none⟩),.int .i64 (first:Nat),.func (.func 174) #[] #[.pointer (some ⟨w1.heap.size+1,0,none⟩),.pointer (some ⟨w1.heap.size+1+1,0,none⟩)],oh x,undef,undef,undef,undef,undef,undef,undef,undef,undef,undef,undef,undef,undef,undef],defers:=[] })
  ?aru ?assign ?body ?done ?stop
 case arv=>
  intro pre A B row hs hg hr;refine ⟨⟨fun i o ho=>rX hg hr (hs.1.qg i o ho) ?_,hs.1.below.grown hg hs.1.below.size (fun k e=>by have:=(hr k e).1;omega)⟩,rX hg hr hs.2.1 om,hs.2.2⟩
  have:=(FW.1 ho).1
  simp only [iQ,vk] at this;omega
 case arw=>
  intro pre A B row hs hg hr;refine ⟨⟨fun i o ho=>rX hg hr (hs.1.qg i o ho) ?_,hs.1.below.grown hg hs.1.below.size (fun k e=>by have:=(hr k e).1;omega)⟩,hs.2⟩
  have:=(FW.1 ho).1
  simp only [iQ,vk] at this;omega
 case aru=>
  intro x a' _ A' B' row hs hg hr;obtain ⟨bx,h1,h2,h3⟩:=hs;refine ⟨bx,h1,?_,h3⟩;rw [hg.block bx (aO h2) (fun e=>by
   obtain ⟨_,o,ho,hc⟩:=hr bx e.symm;rw [h2] at ho;injection ho with ho;subst ho;cases hc)]
  exact h2
 case assign=>
  rintro l pre x W K ⟨hL,hk,hf⟩ hK;unfold oh
  gi_wp2
  have hb:aC W (W.alloc (.cells #[.int .i64 ((x.table:Nat):Int),.int .i64 ((x.index:Nat):Int),.int .u16 ((x.number:Nat):Int)] 219)):=fC;exact hK _ _ ((KeepsOthers.alloc _ _).from _) (aT.below (R:=dF) (fun _=>rfl) hb) ⟨hL.alloc _,(hb.block _ (aO hk)).trans hk,hf⟩ ⟨_,aO hk,aW _ _,rfl⟩
 case body=>
  rintro l pre x a' W hl _ ⟨hL,hk,hf⟩ ⟨bx,hbx0,hbx,rfl⟩ hlen;have hV:=H.below hL.below;have hxl:x.number%32768<256:=by have:=x.hc.2;omega
  have hkl:(plus k (wB pre)).length=256:=by rw [QA];exact hcl
  have hsn:plus k (wB (pre++[x]))=Dt (plus k (wB pre)) (x.number%32768):=by rw [ai3,arY]
  have hfn:oz k (wB (pre++[x]))=decide (aI (plus k (wB pre)) (x.number%32768)<254):=by rw [ai3,aoC,hf,tC]
  have c2:W.cell? ⟨bx,2,none⟩=some (.int .u16 ((x.number:Nat):Int)):=(aG hbx 2).trans rfl;have Hc:Hid (∀ W,_):=fun W=>BH x.number x.hn W;generalize plus k (wB pre)=kk at*;generalize x.number%32768=n at*;have hni:(n:Int)<256:=om;have c1:W.cell? ⟨w1.heap.size,n,none⟩=some (.int .u8 (aI kk n:Nat)):=by
   rw [aG hk,bW,uO _ _ om]
  have f1:=eG hk;have hbl:=tV kk n;have nf: ∀ j,w.heap.size≤j→ ¬ eX v Cv Lv j:=fun j hj hf=>by have:=hfl j hf;omega
  by_cases hfit:aI kk n<254
  ·rw [eH hfit] at hfn;have hwr:IntKind.u8.wrap (((aI kk n:Nat):Int)+1)=(((aI kk n+1)%256:Nat):Int):=by
    rw [adT];omega
   have K3:aT (fun j=>j=w1.heap.size∨j=w.heap.size∨j=w.heap.size+1) (fun k=>w3.heap.size+2≤k) v dF W (W.setCell ⟨w1.heap.size,n,none⟩ (.int .u8 (((aI kk n+1)%256:Nat):Int))):=
    aT.own hV (Kept.only _ _ _ _) (by rintro j rfl;exact ⟨aA rfl,nf _ om,_,hk,rfl⟩) rfl
   have hset:(cv kk).toArray.setIfInBounds n (.int .u8 (((aI kk n+1)%256:Nat):Int))=(cv (Dt kk n)).toArray:=by
    rw [Af,Dt,Ls kk n _ (Zg _ om)]
   have hk3:=heap_setCell_same W w1.heap.size n (.int .u8 (((aI kk n+1)%256:Nat):Int)) _ _ _ hk;rw [hset,← hsn] at hk3;have L3:dU w (W.setCell ⟨w1.heap.size,n,none⟩ (.int .u8 (((aI kk n+1)%256:Nat):Int))) [.cells (cv zk).toArray 123,.cells #[.bool false] 4]:=by
    have hkp:=Kept.only W w1.heap.size n (.int .u8 (((aI kk n+1)%256:Nat):Int));refine ⟨fun i o ho=>hkp.aF ?_ (hL.qg i o ho),hL.below.setCell (by show w.heap.size≤w1.heap.size;omega) _⟩
    have:=(FW.1 ho).1
    simp only [iQ,vk] at this;omega
   have L3:=ah L3;have K3:=ah K3;have dg: ¬ ((254:Int)≤((aI kk n:Nat):Int)):=om;clear hset hsn hL hV;generalize aI kk n=bb at*;generalize (bb+1)%256=b2 at*
   gi_wp2_with fail
   refine ⟨trivial,(CallsIn.inRound l (eY.2 (uh Hc _))).mono ?_⟩;rintro e W2 ⟨rfl,rfl⟩
   gi_wp2
   exact ⟨(KeepsOthers.setCell _ _ _).from _,uh K3,uh L3,hk3,hfn⟩
  ·rw [gU hfit] at hfn;have hge:(254:Int)≤((aI kk n:Nat):Int):=om;have th:=iI hL.o0 0 256 (by simp [bg,iJ]);have L2:=hL.setCells 0 rfl 0 (cv zk);rw [jL,qw _ _ (by simp [bg,iJ])] at L2;simp only [nK] at L2;have KA:aT (fun j=>j=w1.heap.size∨j=w.heap.size∨j=w.heap.size+1) (fun k=>w3.heap.size+2≤k) v dF W (W.setCells w.heap.size 0 (cv zk)):=
    aT.own hV (Kept.AP _ _ _ _) (by rintro j rfl;exact ⟨ay (aA rfl),nf _ (aP _),_,hL.o0,rfl⟩) rfl
   have FA:KeepsFrom w3.heap.size W (W.setCells w.heap.size 0 (cv zk)):=⟨(Kept.AP W w.heap.size 0 (cv zk)).size,fun j o hB hj _=>(Kept.AP W w.heap.size 0 (cv zk)).aF om hj⟩;generalize hWA:W.setCells w.heap.size 0 (cv zk)=WA at*;have r1:WA.cell? ⟨w.heap.size+1,0,none⟩=some (.bool false):=(aG L2.o1 0).trans rfl;have f2:=eG L2.o1;have L3:=L2.setCell 1 rfl 0 (.bool false);have KB:aT (fun j=>j=w1.heap.size∨j=w.heap.size∨j=w.heap.size+1) (fun k=>w3.heap.size+2≤k) v dF WA (WA.setCell ⟨w.heap.size+1,0,none⟩ (.bool false)):=
    aT.own (H.below L2.below) (Kept.only _ _ _ _) (by rintro j rfl;exact ⟨ay (ay rfl),nf _ om,_,L2.o1,rfl⟩) rfl
   have FB:KeepsFrom w3.heap.size WA (WA.setCell ⟨w.heap.size+1,0,none⟩ (.bool false)):=(KeepsOthers.setCell _ _ _).from _
   have K3:=ah (aT.trans (R:=dF) (fun _ _ _ a b=>sQ a b) KA KB);have F3:=ah (FA.trans FB);have L3:dU w (WA.setCell ⟨w.heap.size+1,0,none⟩ (.bool false)) [.cells (cv zk).toArray 123,.cells #[.bool false] 4]:=L3;have L3:=ah L3;clear KA KB FA FB L2 hL hV hsn;generalize aI kk n=bb at*
   gi_wp2_with fail
   refine ⟨trivial,(CallsIn.inRound l (eY.2 (uh Hc _))).mono ?_⟩;rintro e W2 ⟨rfl,rfl⟩
   gi_wp2
   exact ⟨uh F3,uh K3,uh L3,hfn⟩
 case done=>
  rintro D xs W hD hS ⟨hL,hk,hf⟩ hK;have hS':wB xs=jf V.C first:=by rw [hS,YP]
  rw [hS'] at hk hf;have hR:FP V.C first=(plus k (jf V.C first),true):=by rw [uh HR,au hf]
  have hR:=ah hR;have hkl:(plus k (jf V.C first)).length=256:=by rw [QA];exact hcl
  generalize plus k (jf V.C first)=kk at*;have l1:=fD hk (n:=256) (by rw [bg,hkl]);have l2:=fG hk (n:=256) (by rw [bg,hkl]);have th:=iI hL.o0 0 256 (by simp [bg,iJ]);have L2:=hL.setCells 0 rfl 0 (cv kk);rw [jL,qw _ _ (by simp [bg,iJ,hkl])] at L2;simp only [nK] at L2;have hK2:(W.setCells w.heap.size 0 (cv kk)).heap[D]? = some (.deferred (some [])):=(Kept.AP W w.heap.size 0 (cv kk)).aF om hK;generalize hWA:W.setCells w.heap.size 0 (cv kk)=WA at*;have r1:WA.cell? ⟨w.heap.size+1,0,none⟩=some (.bool false):=(aG L2.o1 0).trans rfl;have f2:=eG L2.o1;have L3:dU w (WA.setCell ⟨w.heap.size+1,0,none⟩ (.bool true)) [.cells (cv kk).toArray 123,.cells #[.bool true] 4]:=L2.setCell 1 rfl 0 (.bool true);have hK3:(WA.setCell ⟨w.heap.size+1,0,none⟩ (.bool true)).heap[D]? = some (.deferred (some [])):=(Kept.only WA (w.heap.size+1) 0 (.bool true)).aF om hK2;have L3:=ah L3;clear L2 hL hk hK hK2 hTA hS
  gi_wp2
  refine ⟨sm,.inl ⟨_,_,rfl,run_takeDeferred hK3,?_⟩⟩;have L5:=L3.shut (D:=D) (by simp;omega);have n3:=fD L5.o0 (n:=256) (by rw [bg,hkl]);have n4:=fG L5.o0 (n:=256) (by rw [bg,hkl]);refine ⟨_,ajU rfl ⟨w.heap.size,0,none⟩ ⟨w.heap.size+1,0,none⟩ rfl rfl (v:= .agg (cv kk).toArray) (u:= .bool true) (by rw [jJ,jK n3,n4]) (aip L5.o1),?_,L5.below⟩;rw [uh hR]
 case stop=>
  rintro D pre W hD hSp ⟨hL,hf⟩ hK;have hff:oz k (jf V.C first)=false:=by
   rw [← YP V first hF];refine aoB (pre:=wB pre) ?_ hf;obtain ⟨r,hr⟩:=hSp;exact ⟨wB r,by rw [← hr];simp [wB]⟩
  have hR:FP V.C first=(zk,false):=by rw [uh HR,hff];rfl
  have hR:=ah hR;clear hTA
  gi_wp2
  refine ⟨sm,.inl ⟨_,_,rfl,run_takeDeferred hK,?_⟩⟩;have L5:=hL.shut (D:=D) (by simp;omega);have n3:=fD L5.o0 (n:=256) (by rw [bg,iJ]);have n4:=fG L5.o0 (n:=256) (by rw [bg,iJ]);refine ⟨_,ajU rfl ⟨w.heap.size,0,none⟩ ⟨w.heap.size+1,0,none⟩ rfl rfl (v:= .agg (cv zk).toArray) (u:= .bool false) (by rw [jJ,jK n3,n4]) (aip L5.o1),?_,L5.below⟩;rw [uh hR]
end
section
theorem aqW (c:aj):numsOf c=[num c 0,num c 2]++(List.range 30).map (fun i=>num c (2*(i+2))):=by
 apply uH;intro i;unfold numsOf;rw [jD]
 by_cases hi:i<32
 ·rw [x9 hi]
  match i,hi with
  | 0,_=>rfl
  | 1,_=>rfl
  | k+2,hk=>rw [nP sm,jD,x9 (by simp;omega)];simp
 ·rw [eu (by simpa using hi),eu (by simp;omega)];rfl
theorem auq (c:aj) (h: ∀ i,1<i→i<32→num c (2*i)=0):dL (numsOf c)=dL [num c 0,num c 2]:=by
 unfold dL;rw [aqW,OO];have e2:((List.range 30).map (fun i=>num c (2*(i+2)))).filter (· != 0)=[]:=by
  rw [ad1];intro a ha;obtain ⟨i,hi,rfl⟩:=gQ.1 ha
  have:=Jm.1 hi
  rw [h (i+2) om om]
  decide
 rw [e2,rU]
theorem aky (f:Nat→Nat): ∀ m k,((List.range m).map fun i=>f (k+i)).sum=sK f m k
 | 0,_=>rfl
 | m+1,k=>by
  rw [sK,List.range_succ_eq_map,jC,Il,OM,← aky f m (k+1)]
  congr 2
  apply Ii;intro i _;simp only [Function.comp]
  congr 1
  omega
theorem anZ (C:List aj) (s m:Nat):(dL (numsOf (cl C s))).count m=yG C s m:=by
 rw [aaJ];unfold numsOf yG nm;rw [OM]
 have:=aky (fun k=>iH (num (cl C s) (2*k)) m) 32 0
 rw [← this]
 congr 1
theorem V9 {C:List aj} {f:Nat} (hz: ∀ i,1<i→i<32→nm C f i=0) (m:Nat):(jf C f).count m=nJ C f 0 m+nJ C f 1 m:=by
 unfold jf;rw [auq _ hz];have key: ∀ x:Nat,((dL [x]).flatMap fun s=>s :: dL (numsOf (cl C s))).count m=if x=0 then 0 else iH x m+yG C (x%32768) m:=by
  intro x;unfold dL
  by_cases h:x=0
  ·subst h;simp
  ·have e:([x].filter (· != 0))=[x]:=by simp [h]
   rw [e,jC,KN,qA,OU,rU,ak h,DI]
   have:=anZ C (x%32768) m
   unfold dL at this;rw [this,Bh]
   congr 1
   by_cases e2:x%32768=m
   ·rw [GU h e2,au (by simp [e2])]
   ·rw [ak (by simp [e2])];unfold iH;rw [ak (fun z=>e2 z.2)]
 have e:dL [num (cl C f) 0,num (cl C f) 2]=dL [num (cl C f) 0]++dL [num (cl C f) 2]:=by
  unfold dL;rw [← rE,← OO];rfl
 rw [e,Rl,Ik,key,key];rfl
theorem V8 {C:List aj} {f:Nat} (hz: ∀ i,1<i→i<32→nm C f i=0) (m:Nat):(mZ C f).count m=kK C f m:=by
 unfold mZ kK;rw [DI,V9 hz,Bh]
 congr 1
 by_cases e:f=m
 ·rw [au e,au (by simp [e])]
 ·rw [ak e,ak (by simp [e])]
theorem Xt {C:List aj} {f c:Nat} (hz: ∀ i,1<i→i<32→nm C f i=0) (h:c ∈ jf C f):
  ∃ j,j<2∧nm C f j≠0∧(nm C f j%32768=c∨ ∃ k,k<32∧nm C (nm C f j%32768) k≠0∧nm C (nm C f j%32768) k%32768=c):=by
 unfold jf at h;obtain ⟨s,hs,hc⟩:=Ae.1 h;obtain ⟨i,hi,h0,e⟩:=Xu hs;have hi2:i<2:=by
  by_cases h2:i<2
  ·exact h2
  ·exact absurd (hz i om hi) h0
 refine ⟨i,hi2,h0,?_⟩;rcases dD.1 hc with x | x
 ·exact aA (e.trans x.symm)
 ·obtain ⟨k,hk,hk0,e2⟩:=Xu x;refine ay ⟨k,hk,?_,?_⟩
  ·show num (cl C (num (cl C f) (2*i)%32768)) (2*k)≠0;rw [e];exact hk0
  ·show num (cl C (num (cl C f) (2*i)%32768)) (2*k)%32768=c;rw [e];exact e2
theorem aun {C:List aj} {f j:Nat} (hj:j<2) (h0:nm C f j≠0):nm C f j%32768 ∈ jf C f:=
 Ae.2 ⟨_,UJ om h0,sm⟩
theorem auo {C:List aj} {f j k:Nat} (hj:j<2) (h0:nm C f j≠0) (hk:k<32) (h1:nm C (nm C f j%32768) k≠0):nm C (nm C f j%32768) k%32768 ∈ jf C f:=
 Ae.2 ⟨_,UJ om h0,dD.2 (ay (UJ hk h1))⟩
def uy (n:Nat):Nat:=n%32768
theorem ac2:Marks uy:=fun n _ _ _=>⟨by unfold uy;omega,by unfold uy;omega⟩
def vM (c:aj):aj:=bytesOf (vY uy (numsOf c))
theorem VL (c:aj) (q:Nat) (hq:q<32):num (vM c) (2*q)=num c (2*q)%32768:=by
 have:=afE uy c (fun q _ _=>by unfold uy;omega) q hq
 unfold vM;rw [this]
 by_cases h:num c (2*q)=0
 ·rw [au h,h]
 ·rw [ak h];rfl
theorem amU (c:aj):(vM c).length=64:=bytesOf_length _
theorem amV (c:aj):vM (vM c)=vM c:=by
 have e:vY uy (numsOf (vM c))=vY uy (numsOf c):=by
  apply ah9
  ·rw [SC,SC,numsOf_length,numsOf_length]
  ·intro i hi;rw [SC,numsOf_length] at hi;rw [JJ,JJ,uT _ _ hi,uT _ _ hi,VL _ _ hi];unfold uy
   by_cases h:num c (2*i)=0
   ·simp [h]
   ·by_cases h2:num c (2*i)%32768=0
    ·simp [h2]
    ·rw [ak h2,ak h];omega
 show bytesOf (vY uy (numsOf (vM c)))=bytesOf (vY uy (numsOf c));rw [e]
theorem asz (V:aB) (t:Nat):zi uy V t=bT V t (vM (cl V.C t)):=rfl
theorem amW (C0:List aj) (ts:List Nat): ∀ V:aB,(∀ t ∈ ts,t<V.C.length)→(∀ t,t<V.C.length→cl V.C t=cl C0 t∨cl V.C t=vM (cl C0 t))→
  qY uy V ts=o7 V (ts.map fun t=>(t,vM (cl C0 t))):=by
 induction ts with
 | nil=>intro V _ _;rfl
 | cons t r ih=>
  intro V ht hC;have htl:=ht t sm;have e:zi uy V t=bT V t (vM (cl C0 t)):=by
   rw [asz];rcases hC t htl with x | x
   ·rw [x]
   ·rw [x,amV]
  rw [ajQ,e,jC,acF];dsimp only;have hlen:=yN V t (vM (cl C0 t));refine ih (bT V t (vM (cl C0 t))) (fun x hx=>by rw [hlen];have:=ht x (by simp [hx]);omega) (fun x hx=> ?_)
  by_cases ex:t=x
  ·subst ex;rw [aav];exact ay rfl
  ·rw [SE _ _ _ _ (by rw [hlen] at hx;omega) ex];exact hC x (by rw [hlen] at hx;omega)
def DX (C0:List aj) (f:Nat):List (Nat × aj):=(f :: dL (numsOf (cl C0 f))).map fun t=>(t,vM (cl C0 t))
section
variable {L:List aj} {rs:List bC} {f:Nat}
theorem cZ.aqN (h:cZ L rs) (hf:f ∈ rs.map (·.N)) {t q:Nat} (ht:ng rs t∨fB L rs t) (hn:t ∉ f :: dL (numsOf (cl L f))) (hq:q<32) (h0:nm L t q≠0) (h1:aS L (nm L t q%32768)=1):(jf L f).count (nm L t q%32768)=0:=by
 obtain ⟨rf,hrf,rfl⟩:=gQ.1 hf;refine FU.2 fun hm=> ?_;have hin:=h.zh ht q hq h0;have hlen:=h.len;have u1:=h.adI ht q hq h0;have u2:=h.jy (nm L t q%32768) om;have hu:dM L rs (nm L t q%32768)=1:=om;obtain ⟨j',hj',hj0,hc⟩:=Xt (fun i h1 h2=>h.zero rf hrf i h1 h2) hm;rcases ht with ⟨r,hr,rfl⟩ | ⟨r,hr,j,hj,hjj,e⟩
 ·have hq2:q<2:=by
   by_cases x:q<2
   ·exact x
   ·exact absurd (h.zero r hr q om hq) h0
  rcases hc with e | ⟨k,hk,hk0,e⟩
  ·have:=acY hu hr hrf hq2 hj' h0 hj0 rfl e
   exact hn (by rw [this.1];simp)
  ·exact h.sb _ ⟨r,hr,q,hq2,h0,rfl⟩ ⟨_,⟨rf,hrf,j',hj',hj0,rfl⟩,k,hk,hk0,e⟩
 ·have hblk:oK L rs (nm L t q%32768):=⟨t,⟨r,hr,j,hj,hjj,e⟩,q,hq,h0,rfl⟩;rcases hc with e2 | ⟨k,hk,hk0,e2⟩
  ·exact h.sb _ ⟨rf,hrf,j',hj',hj0,e2⟩ hblk
  ·have e3:nm L (nm L r.N j%32768) q=nm L t q:=by rw [e]
   have:=aff hu hr hrf hj hj' hq hk hjj hj0 (by rw [e3];exact h0) hk0 (by rw [e3]) e2
   refine hn (dD.2 (ay ?_));rw [← e,← this.1,← this.2.1];exact UJ om hj0
end
section
variable {base:List aj} {V:aB} {N0:Nat} {E:List aX} {f n:Nat}
def jF (V:aB) (f n:Nat):aB:=fJ (qY uy (dQ V [n]) (sN (dQ V [n]) f))
def rY (C:List aj) (f n:Nat):List UInt8:=(plus (aJ C) (jf C f)).set n 1
def copyV (V:aB) (f n:Nat):aB:=fJ (bT (kU (jF V f n) (rY V.C f n) 4) n (cl (kU (jF V f n) (rY V.C f n) 4).C f))
def yK (C:List aj) (f t:Nat):Prop:=t ∈ f :: dL (numsOf (cl C f))
theorem cZ.acX {L:List aj} {rs:List bC} (h:cZ L rs) {t:Nat} (ht:ng rs t∨fB L rs t) (q:Nat) (hq:q<32):kN (num (vM (cl L t)) (2*q)) (nm L t q):=by
 rw [VL _ _ hq];show kN (nm L t q%32768) (nm L t q);refine ⟨⟨fun e=> ?_,fun e=> ?_⟩,om⟩
 ·by_cases h0:nm L t q=0
  ·exact h0
  ·have:=h.zh ht q hq h0;omega
 ·rw [e]
theorem bD.afZ (h:bD base V N0 E) (hf:f ∈ (aH N0 E).map (·.N)) (hn:n<256):
  jF V f n=jR (dQ V [n]) (DX (dQ V [n]).C f)∧(∀ ps,(∀ x ∈ ps,x ∈ DX (dQ V [n]).C f)→Ok (dV (dQ V [n]).C ps) (je V.C [n]) N0 E (bU V.C N0 E))∧
   Ok (jF V f n).C (je V.C [n]) N0 E (bU V.C N0 E)∧(jF V f n).C.length=V.C.length∧(∀ t,t≠0→yK V.C f t→cl (jF V f n).C t=vM (cl V.C t))∧(∀ t,t≠0→ ¬ yK V.C f t→cl (jF V f n).C t=cl V.C t):=by
 obtain ⟨a1,a2,a3,a4,a5⟩:=h.longer [n] (by rw [TP];exact hn);have hlen:=h.sound.len;have htab: ∀ t,yK V.C f t→ng (aH N0 E) t∨fB V.C (aH N0 E) t:=fun t ht=>YI h.sound hf ht;have hlt: ∀ t,yK V.C f t→6≤t∧t<V.C.length:=fun t ht=>h.sound.KH (htab t ht);have hf6:=hlt f (by unfold yK;simp);have ef:cl (dQ V [n]).C f=cl V.C f:=a4 f om;have e:jF V f n=jR (dQ V [n]) (DX (dQ V [n]).C f):=by
  unfold jF jR DX sN;rw [amW (dQ V [n]).C _ (dQ V [n]) (fun t ht=> ?_) (fun t _=>aA rfl)];rw [ef] at ht;rw [a2];exact (hlt t ht).2
 have hmem: ∀ x ∈ DX (dQ V [n]).C f,yK V.C f x.1∧x.2=vM (cl V.C x.1):=by
  intro x hx;unfold DX at hx;rw [ef] at hx;obtain ⟨t,ht,rfl⟩:=gQ.1 hx;exact ⟨ht,by rw [a4 t (by have:=hlt t ht;omega)]⟩
 have Dl: ∀ t q,t≠0→t<V.C.length→nm (aZ (dQ V [n]).C (je V.C [n])) t q=nm V.C t q:=by
  intro t q h0 ht;rw [FI _ _ _ _ (by unfold je;omega),lV (by rw [a2];exact ht),a4 t h0]
 have hok: ∀ ps,(∀ x ∈ ps,x ∈ DX (dQ V [n]).C f)→Ok (dV (dQ V [n]).C ps) (je V.C [n]) N0 E (bU V.C N0 E):=by
  intro ps hps;refine a1.marks ps fun x hx=> ?_;obtain ⟨b1,b2⟩:=hmem x (hps x hx);have b3:=hlt x.1 b1;have nD: ∀ s,fB V.C (aH N0 E) s→fB (aZ (dQ V [n]).C (je V.C [n])) (aH N0 E) s:=by
   rintro s ⟨r,hr,j,hj,h0,e⟩
   have:=h.sound.fst r hr
   exact ⟨r,hr,j,hj,by rw [Dl _ _ om this.2];exact h0,by rw [Dl _ _ om this.2];exact e⟩
  refine ⟨?_,by rw [b2];exact amU _,fun q hq=> ?_,fun q hq hm=> ?_⟩
  ·rcases htab _ b1 with y | y
   ·exact aA y
   ·exact ay (nD _ y)
  ·rw [Dl _ _ om b3.2,b2];exact h.sound.acX (htab _ b1) q hq
  ·rw [b2,VL _ _ hq] at hm;omega
 have hC:(jF V f n).C=dV (dQ V [n]).C (DX (dQ V [n]).C f):=by rw [e,y5]
 have hl2:(jF V f n).C.length=V.C.length:=by
  rw [hC]
  have:=Mc (DX (dQ V [n]).C f) (dQ V [n]).C V.C.length om (fun x hx=>(hlt _ (hmem x hx).1).2)
  omega
 refine ⟨e,hok,by rw [hC];exact hok _ (fun x hx=>hx),hl2,fun t h0 ht=> ?_,fun t h0 ht=> ?_⟩
 ·have:=hlt t ht
  rw [← lV (by rw [hl2];exact this.2),hC];exact ak3 (fun t=>vM (cl V.C t)) t _ _ (fun x hx=>(hmem x hx).2) ⟨(t,vM (cl (dQ V [n]).C t)),by
   unfold DX;rw [ef];exact gQ.2 ⟨t,ht,rfl⟩,rfl⟩
 ·by_cases hl:t<V.C.length
  ·rw [← lV (by rw [hl2];exact hl),hC,EH t _ _ (fun x hx z=>ht (by rw [← z];exact (hmem x hx).1)),lV (by rw [a2];exact hl),a4 t h0]
  ·rw [Dc om,Dc om]
theorem bD.af5 (h:bD base V N0 E) (hf:f ∈ (aH N0 E).map (·.N)) (hn:n<256) (hfit:oz (aJ V.C) (jf V.C f)=true):(rY V.C f n).length=256∧(∀ m,m<256→aI (rY V.C f n) m=if n=m then 1 else aS V.C m+(jf V.C f).count m)∧(∀ u ∈ jf V.C f,6≤u∧u<V.C.length):=by
 obtain ⟨k1,k2⟩:=h.ok.Gu rfl;obtain ⟨r,hr,rfl⟩:=gQ.1 hf;have hlen:=h.sound.len;have hu: ∀ u ∈ jf V.C r.N,6≤u∧u<V.C.length:=fun u hu=>by
  obtain ⟨j,hj,h0,x | ⟨k,hk,hk0,x⟩⟩:=Xt (fun i h1 h2=>h.sound.zero r hr i h1 h2) hu
  ·exact h.sound.sec _ ⟨r,hr,j,hj,h0,x⟩
  ·exact h.sound.aF _ ⟨_,⟨r,hr,j,hj,h0,rfl⟩,k,hk,hk0,x⟩
 refine ⟨by unfold rY;rw [rG,QA,k1],fun m hm=> ?_,hu⟩;unfold rY;rw [Aj _ _ _ _ (by rw [QA,k1];exact hn),ajv _ _ _ (fun u h=>by rw [k1];have:=hu u h;omega) hfit,k2 m hm];rfl
theorem bD.copied (h:bD base V N0 E) (hf:f ∈ (aH N0 E).map (·.N)) (hn:n<256) (h0:aS V.C n=0) (hfit:oz (aJ V.C) (jf V.C f)=true):
  copyV V f n=jR (jF V f n) (jo (rY V.C f n)++[(n,cl (jF V f n).C f)])∧
   (∀ ps,(∀ x ∈ ps,x ∈ jo (rY V.C f n)++[(n,cl (jF V f n).C f)])→Ok (dV (jF V f n).C ps) (je V.C [n]) N0 E (bU V.C N0 E))∧
   Ok (copyV V f n).C (je V.C [n]) N0 E (bU V.C N0 E)∧(copyV V f n).C.length=je V.C [n]∧
   (∀ m,m<256→aS (copyV V f n).C m=if n=m then 1 else aS V.C m+(jf V.C f).count m)∧cl (copyV V f n).C n=vM (cl V.C f)∧
   (∀ t,5≤t→t<V.C.length→t≠n→yK V.C f t→cl (copyV V f n).C t=vM (cl V.C t))∧(∀ t,5≤t→t<V.C.length→t≠n→ ¬ yK V.C f t→cl (copyV V f n).C t=cl V.C t)∧Shape V.C (copyV V f n).C (aH N0 E):=by
 obtain ⟨a0,a1,a2,a3,a4,a5⟩:=h.afZ hf hn;obtain ⟨k1,k2,k3⟩:=h.af5 hf hn hfit;have hT:je V.C [n]=max V.C.length (n+1):=rfl;have h6:=h.sound.Fg hn h0;have h7:=h.file.seven;have hlen:=h.sound.len;have hun:=h.sound.untold hn h0;have htab: ∀ t,yK V.C f t→ng (aH N0 E) t∨fB V.C (aH N0 E) t:=fun t ht=>YI h.sound hf ht;have hf6:=h.sound.KH (htab f (by unfold yK;simp));have hnt: ¬ yK V.C f n:=fun x=>by
  rcases htab n x with y | y
  ·exact hun.1 y
  ·exact hun.2.1 y
 have same: ∀ t,(ng (aH N0 E) t∨fB V.C (aH N0 E) t)→ ∀ q,q<32→kN (nm (aZ (jF V f n).C (je V.C [n])) t q) (nm V.C t q)∧(32768≤nm (aZ (jF V f n).C (je V.C [n])) t q→ ¬ yK V.C f t∧nm (aZ (jF V f n).C (je V.C [n])) t q=nm V.C t q):=by
  intro t ht q hq
  have:=h.sound.KH ht
  rw [FI _ _ _ _ om,lV om]
  by_cases ho:yK V.C f t
  ·rw [a4 t om ho];exact ⟨h.sound.acX ht q hq,fun hm=>by rw [VL _ _ hq] at hm;omega⟩
  ·rw [a5 t om ho];exact ⟨kN.refl _,fun _=>⟨ho,rfl⟩⟩
 have hs1:Shape V.C (aZ (jF V f n).C (je V.C [n])) (aH N0 E):=⟨fun r hr j hj=>(same _ (aA ⟨r,hr,rfl⟩) j hj).1,fun s hs k hk=>(same s (ay hs) k hk).1⟩;have key: ∀ t,(ng (aH N0 E) t∨fB V.C (aH N0 E) t)→ ∀ q,q<32→32768≤nm (aZ (jF V f n).C (je V.C [n])) t q→aI (rY V.C f n) (nm (aZ (jF V f n).C (je V.C [n])) t q%32768)=1:=by
  intro t ht q hq hm;obtain ⟨ho,e⟩:=(same t ht q hq).2 hm;rw [e] at hm ⊢;have hin:=h.sound.zh ht q hq om;have h1:=h.sound.Xq ht q hq hm;rw [k2 _ om];have hz:=h.sound.aqN hf ht ho hq om h1;split
  ·rfl
  ·omega
 have hok: ∀ ps,(∀ x ∈ ps,x ∈ jo (rY V.C f n)++[(n,cl (jF V f n).C f)])→Ok (dV (jF V f n).C ps) (je V.C [n]) N0 E (bU V.C N0 E):=by
  intro ps hps;refine a2.counts (rY V.C f n) k1 (fun m=>m=n) (fun m hm=> ?_) (fun m hm=> ?_) (fun m hm=> ?_) (fun m hm hTm=> ?_) (fun r hr j hj hm=>key r.N (aA ⟨r,hr,rfl⟩) j om hm) (fun s hs q hq hm=>key s (ay ((hs1.rJ s).1 hs)) q hq hm) ps (fun x hx=> ?_)
  ·rw [hm];exact ⟨om,h6,hun.1,fun x=>hun.2.1 ((hs1.rJ n).1 x),fun x=>hun.2.2 ((hs1.zS n).1 x)⟩
  ·rw [hs1.use,k2 m hm]
   by_cases e:n=m
   ·subst e;rw [au rfl,Jj h.sound hun,vV,ak om];omega
   ·rw [ak e]
    have:=h.sound.jy m hm
    omega
  ·rw [k2 m hm];split
   ·omega
   ·obtain ⟨c1,c2⟩:=h.ok.Gu rfl
    by_cases hmm:m ∈ jf V.C f
    ·have:=(aa3 _ _ (fun u hu=>by rw [c1];have:=k3 u hu;omega)).1 hfit m hmm
     rw [c2 m hm] at this;omega
    ·rw [FU.2 hmm]
     have:=h.sound.top m hm
     omega
  ·rw [k2 m hm,ak om,h.sound.none m hm om,FU.2 (fun x=>by have:=k3 m x;omega)]
  ·rcases gq.1 (hps x hx) with y | y
   ·exact aA (JL y)
   ·rw [jw.1 y];refine ay ⟨rfl,?_⟩;exact a2.file.lens _ (by
     unfold cl;rw [aK,bI om];exact oP _)
 have e:copyV V f n=jR (jF V f n) (jo (rY V.C f n)++[(n,cl (jF V f n).C f)]):=by
  unfold copyV jR;rw [XW,← ajz,Oh];dsimp only;rw [afH _ om f om 4 om,ak om]
 have hC:(copyV V f n).C=dV (jF V f n).C (jo (rY V.C f n)++[(n,cl (jF V f n).C f)]):=by rw [e,y5]
 have e2:dV (jF V f n).C (jo (rY V.C f n)++[(n,cl (jF V f n).C f)])=lS (dV (jF V f n).C (jo (rY V.C f n))) (n,cl (jF V f n).C f):=by simp [dV]
 have hl4:(dV (jF V f n).C (jo (rY V.C f n))).length=V.C.length:=by
  have:=Mc (jo (rY V.C f n)) (jF V f n).C V.C.length om (fun x hx=>by obtain ⟨p,hp,rfl⟩:=JL hx;simp only;omega)
  omega
 have hl:(copyV V f n).C.length=je V.C [n]:=by
  rw [hC,e2,Kw,hl4];rfl
 have hvw: ∀ t,5≤t→t<V.C.length→t≠n→cl (copyV V f n).C t=cl (jF V f n).C t:=fun t h5 ht hne=>by
  rw [← lV om,hC,e2,yS,ak (fun z=>hne z.symm),EH t _ _ (fun x hx=>by obtain ⟨p,hp,rfl⟩:=JL hx;simp only;omega),lV om]
 have hb1: ∀ t,5≤t→t<V.C.length→t≠n→yK V.C f t→cl (copyV V f n).C t=vM (cl V.C t):=fun t h5 ht hne ho=>by rw [hvw t h5 ht hne,a4 t om ho]
 have hb2: ∀ t,5≤t→t<V.C.length→t≠n→ ¬ yK V.C f t→cl (copyV V f n).C t=cl V.C t:=fun t h5 ht hne ho=>by rw [hvw t h5 ht hne,a5 t om ho]
 have same2: ∀ t,(ng (aH N0 E) t∨fB V.C (aH N0 E) t)→ ∀ q,q<32→kN (nm (copyV V f n).C t q) (nm V.C t q):=fun t ht q hq=>by
  have h1:=h.sound.KH ht;have hne:t≠n:=fun z=>by
   rw [z] at ht;rcases ht with y | y
   ·exact hun.1 y
   ·exact hun.2.1 y
  unfold nm
  by_cases ho:yK V.C f t
  ·rw [hb1 t om h1.2 hne ho];exact h.sound.acX ht q hq
  ·rw [hb2 t om h1.2 hne ho];exact kN.refl _
 refine ⟨e,hok,by rw [hC];exact hok _ (fun x hx=>hx),hl,fun m hm=> ?_,?_,hb1,hb2,⟨fun r hr j hj=>same2 _ (aA ⟨r,hr,rfl⟩) j hj,fun s hs k hk=>same2 s (ay hs) k hk⟩⟩
 ·have:=adL (jF V f n).C (rY V.C f n) m hm [(n,cl (jF V f n).C f)] (fun x hx=>by rw [jw.1 hx];simp only;omega)
  unfold aS;rw [← lV om,hC,this,k2 m hm];rfl
 ·rw [← lV om,hC,e2,yS,au rfl,a4 f om (by unfold yK;simp)]
end
end
end Go.Proofs.YtknjjjenklfeoaaGreatDoor
