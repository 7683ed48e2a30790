import Derived.Test.YtknjjjenklfeoaaGreatDoorO49
set_option maxHeartbeats 8000000
set_option maxRecDepth 100000
set_option linter.all false
namespace Go.Proofs.YtknjjjenklfeoaaGreatDoor
open Go.RowKit Go.Shelf
attribute [local go_sem ↓] dw fP fZ kS mP mV jJ kJ jY jU lD lH kQ ku kT mQ mW lZ ny jG qc qP qQ qF
attribute [local go_sem] dK fO fV gK gy aV kX mG mM mJ mF gI jK kH jX kZ kW iJ jW lq lC lu kF jc jd lY l7 kG kY mO nI lT mD nH qh qM qO qN qL
attribute [local go_sem] pW pV Oper.semAt_some
attribute [local go_sem ↓] VO
attribute [local go_sem] Yd
attribute [local go_sem ↓] atV avo am4
attribute [local go_sem] as8 atd asV ala
def al9 (F:Bool × aU) (e:Ending):Prop:=(F.1=true∧e= .returned .nilIface)∨(F.1=false∧ ∃ (n:Nat) (x:Value),F.2.bad=(n:Int)∧isIface x∧e= .returned (kD n x))
def JC (w W:World) (v bs bi T:Nat) (F:Bool × aU):Prop:=F.1=false∧ ∃ (n:Nat) (x:Value) (M:List Nat) (m:Nat),F.2.bad=(n:Int)∧isIface x∧um w W v bs bi (kD n x) T M m
theorem JC.pO {w W W':World} {v bs bi T B:Nat} {F:Bool × aU} {row:Option Nat} (h:JC w W v bs bi T F) (hB:bi<B) (hg:W.grownBy W' row) (hr: ∀ r,row=some r→B≤r∧ ∃ o:Obj,W.heap[r]? = some o∧o.isCells=false):JC w W' v bs bi T F:=by
 obtain ⟨h1,n,x,M,m,h2,h3,h4⟩:=h;exact ⟨h1,n,x,M,m,h2,h3,h4.pO hB hg hr⟩
theorem anw (w:World) (v:Nat) (Cv Lv:Value) (V:aB) (h:aN w v Cv Lv V) (hG:oQ w) (h5:5<V.C.length) (hC:V.C.length≤256) (hT:num (cl V.C 0) 4=V.C.length) (R:aU) (hRL:R.L=V.C) (PX:R.told=zM):
  CallsIn Fence.wide 100 Tryz.prog 94 #[.pointer (some ⟨v,0,none⟩)] w fun e w'=>al9 (nC (bK V) 0 R) e∧aC w w':=by
 have H:=ah h;have HG:=ah hG;have hvl:v<w.heap.size:=h.lt;have hfl: ∀ j,eX v Cv Lv j→j<w.heap.size:=h.qG;clear h hG;refine callsIn_of_wp_marks Tryz.func94 rfl trivial ?_ rfl;simp only [Tryz.ntmps94,iR,iQ,vk,Nat.reduceAdd,Nat.reduceSub,A8,Ba,Bc,Bd,ql,sO];have L0:=ah (dU.two w (.cells #[.pointer (some ⟨v,0,none⟩)] 82) (.cells #[.nilIface] 98));have Hh:=ah (IJ _ v Cv Lv V (H.below L0.below) om);rw [hT] at Hh;have Hm0:=ah (fun W=>SN W v)
 gi_wp2_with fail
 refine ⟨trivial,(eY.2 Hh).mono ?_⟩;rintro e w1 ⟨rfl,hb1⟩;have L1:=L0.later hb1;have hw1:w.heap.size+1<w1.heap.size:=aO L1.o1;have L2:=(L1.alloc (.cells (wC V.C.length zM).toArray 212)).alloc (.cells #[.int .i64 0] 3);have N2:um w ((w1.alloc (.cells (wC V.C.length zM).toArray 212)).alloc (.cells #[.int .i64 0] 3)) v w1.heap.size (w1.heap.size+1) .nilIface V.C.length zM 0:=by
  refine ⟨L2.below,L2.o0,L2.o1,⟨(jE _ _ _ sm).trans (aW _ _),ala⟩,?_,om,om⟩
  have:=aW (w1.alloc (.cells (wC V.C.length zM).toArray 212)) (.cells #[.int .i64 0] 3)
  rwa [jB] at this
 have cv0:((w1.alloc (.cells (wC V.C.length zM).toArray 212)).alloc (.cells #[.int .i64 0] 3)).cell? ⟨w.heap.size,0,none⟩=some (.pointer (some ⟨v,0,none⟩)):=(aG N2.bv 0).trans rfl;have hs2:w1.heap.size+1<((w1.alloc (.cells (wC V.C.length zM).toArray 212)).alloc (.cells #[.int .i64 0] 3)).heap.size:=sm;have N2:=ah N2;clear Hh hb1 L0 L1 L2
 gi_wp2_with fail
 generalize (w1.alloc (.cells (wC V.C.length zM).toArray 212)).alloc (.cells #[.int .i64 0] 3)=wr at*;generalize ao3:w1.heap.size+1=bi at*;generalize w1.heap.size=bs at*;have hbi:bs<bi:=om;clear ao3;refine ⟨trivial,(eY.2 (uh Hm0 wr)).mono ?_⟩;rintro e W3 ⟨rfl,hW3⟩;have hs3:wr.heap.size+1≤W3.heap.size:=by rw [hW3];simp
 have hb3:aC wr W3:=by rw [hW3];exact fC
 have hbx:W3.heap[wr.heap.size]? = some (.cells #[.pointer (some ⟨v,0,none⟩)] 82 (0,0)):=by rw [hW3];exact aW _ _
 have N3:=N2.later hb3;have hV3:=H.below N3.below;have hP16: ∀ t ∈ bK V,t<65536:=by
  intro t ht;unfold bK zZ at ht;rcases dD.1 ht with rfl | ht
  ·exact iD _ _
  ·obtain ⟨e,he,rfl⟩:=gQ.1 ht;have he:=List.mem_of_mem_take he;unfold aY at he;obtain ⟨i,_,rfl⟩:=gQ.1 he;exact iD _ _
 have wS:=agF (Pc:=fun t=>t<65536) 99 om (fun j=>j=w.heap.size+1∨j=bs∨j=bi) v wr.heap.size (W3.heap.size+2) V Cv Lv W3 hV3 hbx om (fun hf=>by have:=hfl _ hf;omega) (fun j hj=>by rcases hj with rfl | rfl | rfl <;> omega) h5 hP16;have N3:=ah N3;clear N2 hV3 hbx hb3 hW3 Hm0 cv0 hP16
 gi_wp2_with fail
 generalize (hv V.C.length (num (cl V.C 0) 6)).toArray=hvv at*;generalize (wC V.C.length zM).toArray=rc at*;have HT:=ah (rfl:V.C.length=V.C.length);refine acI om (gf:=173) (lb:= #[.pointer (some ⟨wr.heap.size,0,none⟩)]) rfl (enters_of Tryz.func173 kr rfl) wS
  (fun A B C h k=>aT.trans (R:=bH) (fun _ _ _ a b=>a.trans b) h k) (fun W o o' hl hc=>aT.turn bH.refl W _ o o' hl hc om) (bG _ _) (fun _=>rfl)
  (fun pre W'=>um w W' v bs bi .nilIface V.C.length (nC (lG pre) 0 R).2.told (if pre.length=0 then 0 else 5)∧(nC (lG pre) 0 R).1=true∧Small (nC (lG pre) 0 R).2.told)
  (fun pre W'=>JC w W' v bs bi V.C.length (nC (lG pre) 0 R))
  (fun _ _ _ _ hs hg hr=>⟨um.pO hs.1 om hg hr,hs.2⟩)
  (fun _ _ _ _ hs hg hr=>JC.pO hs om hg hr)
  ⟨by
   show um w W3 v bs bi .nilIface V.C.length R.told 0;rw [PX];exact uh N3,rfl,by
   show Small R.told;rw [PX];exact avk⟩
  (fun x a' W'=> ∃ bf,bi<bf∧W'.heap[bf]? = some (.cells #[.int .i64 ((x.1:Nat):Int)] 3 (0,0))∧a'={ tmps:= #[.pointer (some ⟨v,0,none⟩),.pointer (some ⟨w.heap.size,0,none⟩),.pointer (some ⟨w.heap.size+1,0,none⟩),.pointer (some ⟨bs,0,none⟩),.pointer (some ⟨bi,0,none⟩),.pointer (some ⟨bf,0,none⟩),undef,undef,undef,.pointer (some ⟨v,0,none⟩),.agg hvv,.int .i64 ((V.C.length:Nat):Int),.agg rc,.pointer (some ⟨v,0,none⟩),.func (.func 173) #[] #[.pointer (some ⟨wr.heap.size,0,none⟩)],.int .i64 ((x.1:Nat):Int),undef,undef,undef,undef,undef,undef,undef,undef,undef,undef,undef,undef,undef,undef,undef,undef,undef,undef,undef,undef,undef,undef],defers:=[] })
  (fun y a'' _ A' B' row hs hg hr=>by
   obtain ⟨bx2,h0,h2,h3⟩:=hs;refine ⟨bx2,h0,?_,h3⟩;rw [hg.block bx2 (aO h2) (fun e=>by
    obtain ⟨_,o,ho,hc⟩:=hr bx2 e.symm;rw [h2] at ho;injection ho with ho;subst ho;cases hc)]
   exact h2)
  ?assign ?body ?done ?stop
 case assign=>
  rintro l pre x W' K ⟨hN,hi1,hi2⟩ hK;have hb:Below W'.heap.size W' (W'.alloc (.cells #[.int .i64 ((x.1:Nat):Int)] 3)):=fC;have hbl:=aO hN.bin;have G1:=ah (hN.later hb);have G2:=ah hi1;have G3:=ah hi2;clear hN hi1 hi2
  gi_wp2
  exact hK _ _ ((KeepsOthers.alloc _ _).from _) (aT.below bH.refl hb) ⟨uh G1,uh G2,uh G3⟩ ⟨_,hbl,aW _ _,rfl⟩
 case done=>
  rintro D ys W' hD hS ⟨hM,hf,_⟩ hK;have hS':lG ys=bK V:=hS;rw [hS'] at hf;have wJ:=ah hf;have r1:W'.cell? ⟨w.heap.size+1,0,none⟩=some .nilIface:=(aG hM.br 0).trans rfl;have f2:=eG hM.br;have M5:=hM.answer .nilIface;have hK5:(W'.setCell ⟨w.heap.size+1,0,none⟩ .nilIface).heap[D]? = some (.deferred (some [])):=(Kept.only W' (w.heap.size+1) 0 .nilIface).aF om hK;have br5:=M5.br;have HB:=ah (Sl (D:=D) M5.below om);have ZB:=ah br5;clear hM hS hS' hf wS N3 M5 br5
  gi_wp2
  refine ⟨sm,.inl ⟨_,_,rfl,run_takeDeferred hK5,?_⟩⟩;have NJ:((W'.setCell ⟨w.heap.size+1,0,none⟩ .nilIface).putObj D (.deferred none)).heap[w.heap.size+1]? = some (.cells #[.nilIface] 98 (0,0)):=(World.putObj_heap_other om).trans ZB;refine ⟨_,qK rfl ⟨w.heap.size+1,0,none⟩ rfl (Xf NJ),aA ⟨uh wJ,rfl⟩,uh HB⟩
 case stop=>
  rintro D pre W' hD hSp ⟨h1,n,x,M,m,h2,h3,hM⟩ hK;obtain ⟨rr,hrr⟩:=hSp;have hf:=agQ (lG pre) rr 0 R h1;rw [show lG pre++rr=bK V from hrr] at hf;rw [← hf] at h1 h2;have HB:=ah (Sl (D:=D) hM.below om);have hbr:=hM.br;have H1:=ah h1;have H2:=ah h2;clear wS N3 hf h1 h2 hM hrr
  gi_wp2
  refine ⟨sm,.inl ⟨_,_,rfl,run_takeDeferred hK,?_⟩⟩;have NJ:(W'.putObj D (.deferred none)).heap[w.heap.size+1]? = some (.cells #[kD n x] 98 (0,0)):=(World.putObj_heap_other om).trans hbr;refine ⟨_,qK rfl ⟨w.heap.size+1,0,none⟩ rfl (Xf NJ),ay ⟨uh H1,n,x,uh H2,h3,rfl⟩,uh HB⟩
 case body=>
  rintro l pre x a' W hl ⟨r,hr⟩ ⟨hN,hf0,hsm⟩ ⟨bf,avF,hbf,rfl⟩ hlen;obtain ⟨x,hx⟩:=x;have NC:(nC (lG pre) 0 R).2.L=V.C:=by rw [agO];exact hRL
  have hsn:=agR x (lG pre) 0 R hf0;rw [show (lG pre).length=pre.length from tH _,show lG pre++[x]=lG (pre++[⟨x,hx⟩]) from (YW pre ⟨x,hx⟩).symm] at hsn;generalize (nC (lG pre) 0 R).2=Q at*;generalize (if pre.length=0 then 0 else 5)=yH at*;have cf:W.cell? ⟨bf,0,none⟩=some (.int .i64 ((x:Nat):Int)):=(aG hbf 0).trans rfl;have hfr:=aO hN.bin;have xJ:=H.below hN.below;have nf: ∀ j,w.heap.size≤j→ ¬ eX v Cv Lv j:=fun j hj hf=>by have:=hfl j hf;omega
  have hlo:=hN.lo
  by_cases hno:IY Q.told V.C.length x 1=true
  ·have htp:(qZ x yH Q).1=false∧(qZ x yH Q).2.bad=((yH:Nat):Int):=by
    have:=adq (R:=Q) (n:=x) (kind:=1) (a:=yH) (by rw [NC];exact hno)
    unfold qZ;rw [this];exact ⟨rfl,rfl⟩
   rw [← hsn] at htp;have Ht:=ah (acO W bs V.C.length Q.told x 1 hN.Et (HG.below hN.below) hC hx om hsm hno);have ci:W.cell? ⟨bi,0,none⟩=some (.int .i64 ((yH:Nat):Int)):=(aG hN.bin 0).trans rfl;have c3:W.cell? ⟨w.heap.size+1,0,none⟩=some .nilIface:=(aG hN.br 0).trans rfl;have f3:=eG hN.br;have HN:=ah hN;have ZO:=ah htp;have K3:=ah (fun z=>(aT.own xJ (Kept.only W (w.heap.size+1) 0 z) (by rintro j rfl;exact ⟨aA rfl,nf _ om,_,hN.br,rfl⟩) (bH.refl _):aT (fun j=>j=w.heap.size+1∨j=bs∨j=bi) (fun k=>W3.heap.size+2≤k) v bH W (W.setCell ⟨w.heap.size+1,0,none⟩ z)));clear hN hf0 hsm NC hsn xJ htp wS N3
   gi_wp2_with fail
   refine ⟨trivial,(CallsIn.inRound l (eY.2 Ht)).mono ?_⟩;rintro e w5 ⟨⟨z,⟨tz,vz,rfl⟩,rfl⟩,rfl⟩;have hex:JC w (w5.setCell ⟨w.heap.size+1,0,none⟩ (kD yH (.iface tz vz))) v bs bi V.C.length (nC (lG (pre++[⟨x,hx⟩])) 0 R):=
    ⟨ZO.1,yH,_,_,_,ZO.2,⟨_,_,rfl⟩,HN.answer _⟩
   have Hex:=ah hex;have hf:=ah ((KeepsOthers.setCell w5 ⟨w.heap.size+1,0,none⟩ (kD yH (.iface tz vz))).from W3.heap.size);have K4:=ah (uh K3 (kD yH (.iface tz vz)));clear hex ZO Ht
   gi_wp2
   repeat (first | exact uh Hex | exact uh hf | exact uh K4 | refine ⟨?_,?_⟩)
  ·have hno:IY Q.told V.C.length x 1=false:=by simpa using hno
   obtain ⟨ht1,ht2⟩:=adr (R:=Q) (n:=x) (kind:=1) (a:=yH) (by rw [NC];exact hno);have hxL:x<V.C.length:=by have:=(Ji ht1).2;rw [NC] at this;exact this
   have htp:qZ x yH Q=jH x (jg V.C x 32 0) (tell Q x 1 yH).2:=by unfold qZ;rw [au ht1,NC]
   rw [← hsn] at htp;have hQ1:(tell Q x 1 yH).2.L=V.C:=by rw [zn];exact NC
   generalize (tell Q x 1 yH).2=Q1 at*;have Ht:=ah (acP W bs V.C.length Q.told x 1 hN.Et hC om hsm hno);have Na:um w (W.setCell ⟨bs,1+x,none⟩ (.int .u8 ((1:Nat):Int))) v bs bi .nilIface V.C.length Q1.told yH:=by
    rw [ht2];exact hN.role (hN.Et.put x 1) (Kept.only _ _ _ _)
   have Ka:aT (fun j=>j=w.heap.size+1∨j=bs∨j=bi) (fun k=>W3.heap.size+2≤k) v bH W (W.setCell ⟨bs,1+x,none⟩ (.int .u8 ((1:Nat):Int))):=
    aT.own xJ (Kept.only _ _ _ _) (by rintro j rfl;exact ⟨ay (aA rfl),nf _ om,_,hN.Et.aF,rfl⟩) (bH.refl _)
   have Fa:KeepsFrom W3.heap.size W (W.setCell ⟨bs,1+x,none⟩ (.int .u8 ((1:Nat):Int))):=(KeepsOthers.setCell _ _ _).from _
   have apw:Small Q1.told:=by rw [ht2];exact hsm.set _ om
   have ahg:(W.setCell ⟨bs,1+x,none⟩ (.int .u8 ((1:Nat):Int))).heap[bf]? = some (.cells #[.int .i64 ((x:Nat):Int)] 3 (0,0)):=(Kept.only _ _ _ _).aF om hbf;have hra:(W.setCell ⟨bs,1+x,none⟩ (.int .u8 ((1:Nat):Int))).heap[l]? = some (.loop r):=Fa.same l _ hl hr rfl;have Na:=ah Na;have Ka:=ah Ka;have Fa:=ah Fa;have ZA:=ah ahg;have ZG:=ah hra;have avr:=aO hbf;clear hN hf0 hsm NC hsn xJ wS N3 ht1 ht2 hno ahg hra hbf hr
   gi_wp2_with fail
   refine ⟨trivial,(CallsIn.inRound l (eY.2 Ht)).mono ?_⟩;rintro e Wa ⟨rfl,hWa⟩;rw [← hWa] at Na Ka Fa ZA ZG;have Tq:=H.below Na.below;have ca:Wa.cell? ⟨bi,0,none⟩=some (.int .i64 ((yH:Nat):Int)):=(aG Na.bin 0).trans rfl;have fa:=eG Na.bin;have N5:=Na.place 5;have K5:aT (fun j=>j=w.heap.size+1∨j=bs∨j=bi) (fun k=>W3.heap.size+2≤k) v bH Wa (Wa.setCell ⟨bi,0,none⟩ (.int .i64 ((5:Nat):Int))):=
    aT.own Tq (Kept.only _ _ _ _) (by rintro j rfl;exact ⟨ay (ay rfl),nf _ om,_,Na.bin,rfl⟩) (bH.refl _)
   have K5:=Ka.trans (fun _ _ _ a b=>a.trans b) K5;have F5:=Fa.trans ((KeepsOthers.setCell Wa ⟨bi,0,none⟩ (.int .i64 ((5:Nat):Int))).from W3.heap.size);have WM:(Wa.setCell ⟨bi,0,none⟩ (.int .i64 ((5:Nat):Int))).heap[bf]? = some (.cells #[.int .i64 ((x:Nat):Int)] 3 (0,0)):=(Kept.only _ _ _ _).aF om ZA;have hr5:(Wa.setCell ⟨bi,0,none⟩ (.int .i64 ((5:Nat):Int))).heap[l]? = some (.loop r):=((KeepsOthers.setCell Wa ⟨bi,0,none⟩ (.int .i64 ((5:Nat):Int))).from W3.heap.size).same l _ hl ZG rfl;have c50:(Wa.setCell ⟨bi,0,none⟩ (.int .i64 5)).cell? ⟨w.heap.size,0,none⟩=some (.pointer (some ⟨v,0,none⟩)):=(aG N5.bv 0).trans rfl;have c51:(Wa.setCell ⟨bi,0,none⟩ (.int .i64 5)).cell? ⟨bf,0,none⟩=some (.int .i64 ((x:Nat):Int)):=(aG WM 0).trans rfl;have Hm:=ah (UL (Wa.setCell ⟨bi,0,none⟩ (.int .i64 5)) v x);have N5:=ah N5;have K5:=ah K5;have F5:=ah F5;have RJ:=ah WM;have Hr5:=ah hr5
   clear Na Ka Fa ZA ZG Tq Ht hWa WM hr5 cf
   gi_wp2_with fail
   change Hid (um w (Wa.setCell ⟨bi,0,none⟩ (.int .i64 5)) v bs bi .nilIface V.C.length Q1.told 5) at N5;change Hid (aT _ _ v bH W (Wa.setCell ⟨bi,0,none⟩ (.int .i64 5))) at K5;change Hid (KeepsFrom W3.heap.size W (Wa.setCell ⟨bi,0,none⟩ (.int .i64 5))) at F5;change Hid ((Wa.setCell ⟨bi,0,none⟩ (.int .i64 5)).heap[bf]? = _) at RJ;change Hid ((Wa.setCell ⟨bi,0,none⟩ (.int .i64 5)).heap[l]? = _) at Hr5;generalize Wa.setCell ⟨bi,0,none⟩ (.int .i64 5)=W5 at*;refine ⟨trivial,(CallsIn.inRound l (eY.2 Hm)).mono ?_⟩;rintro e wc ⟨rfl,hwc⟩;have hs5:W5.heap.size+2≤wc.heap.size:=by rw [hwc];simp
   have hb5:aC W5 wc:=by rw [hwc];exact (fC).alloc sm _
   have hb1:wc.heap[W5.heap.size]? = some (.cells #[.pointer (some ⟨v,0,none⟩)] 82 (0,0)):=by rw [hwc];exact (jE _ _ _ sm).trans (aW _ _)
   have hb2:wc.heap[W5.heap.size+1]? = some (.cells #[.int .i64 (x:Nat)] 3 (0,0)):=by rw [hwc];have:=aW (W5.alloc (.cells #[.pointer (some ⟨v,0,none⟩)] 82)) (.cells #[.int .i64 (x:Nat)] 3);rwa [jB] at this
   have N6:=N5.later hb5;have hV6:=H.below N6.below;have xJ:=H.below N5.below;have hr6:wc.heap[l]? = some (.loop r):=(hb5.block _ (aO Hr5)).trans Hr5;have ao2:=(hb5.block _ (aO RJ)).trans RJ;have avH:=aO N5.bin;have WM:=aO RJ;have Ec:=aut 97 om (fun j=>j=w.heap.size+1∨j=bs∨j=bi) v W5.heap.size (W5.heap.size+1) x (wc.heap.size+1) V Cv Lv wc hV6 hb1 hb2 om om (fun hf=>by have:=xJ.qG _ hf;omega) (fun hf=>by have:=xJ.qG _ hf;omega) (fun k hk=>om) hxL;have Fh:KeepsFrom W3.heap.size W wc:=F5.trans ⟨hb5.size,fun k o _ hk _=>(hb5.block k (aO hk)).trans hk⟩;have hK6:aT (fun j=>j=w.heap.size+1∨j=bs∨j=bi) (fun k=>W3.heap.size+2≤k) v bH W wc:=K5.trans (fun _ _ _ a b=>a.trans b) (aT.below bH.refl hb5);have WL:W.heap.size≤wc.heap.size:=Fh.size;have N6:=ah N6;clear N5 hV6 hb1 hb2 hwc Hm c50 c51 xJ K5 F5 RJ Hr5
   gi_wp2_with fail
   refine asc (G:=fun s:Gl=>s.number%32768<V.C.length) (l₀:=l) (r₀:=r) hr6 om (gf:=174) (lb:= #[.pointer (some ⟨W5.heap.size,0,none⟩),.pointer (some ⟨W5.heap.size+1,0,none⟩)]) rfl (enters_of Tryz.func174 kr rfl) Ec
    (fun A B C h k=>aT.trans (R:=dF) (fun _ _ _ a b=>sQ a b) h k) (fun W o o' hl hc=>aT.turn (R:=dF) (fun _=>rfl) W _ o o' hl hc om) (bG _ _) (fun _=>rfl)
    (fun ip W'=>(um w W' v bs bi .nilIface V.C.length (jH x (sZ ip) Q1).2.told 5∧(jH x (sZ ip) Q1).1=true∧Small (jH x (sZ ip) Q1).2.told∧W'.heap[bf]? = some (.cells #[.int .i64 ((x:Nat):Int)] 3 (0,0)))∧KeepsFrom W3.heap.size W W'∧aT (fun j=>j=w.heap.size+1∨j=bs∨j=bi) (fun k=>W3.heap.size+2≤k) v bH W W')
    (fun ip W'=>JC w W' v bs bi V.C.length (jH x (sZ ip) Q1)∧KeepsFrom W3.heap.size W W'∧aT (fun j=>j=w.heap.size+1∨j=bs∨j=bi) (fun k=>W3.heap.size+2≤k) v bH W W')
    (fun ip y W' hs=>by
     have h1:=hs.1.2.1;rw [ac6] at h1;have h2:=aoH h1;have h3:=(aud h2.2).2;rw [WC,hQ1] at h3;exact h3)
    (fun s A B row hs hg hr=>⟨⟨um.pO hs.1.1 om hg hr,hs.1.2.1,hs.1.2.2.1,rX hg hr hs.1.2.2.2 om⟩,ownFrom_keepsFrom (β:=Unit) WL () A B row hs.2.1 hg hr,Qy (R:=bH) bH.refl (fun _ _ _ a b=>a.trans b) (β:=Unit) WL () A B row hs.2.2 hg hr⟩)
    (fun s A B row hs hg hr=>⟨JC.pO hs.1 om hg hr,ownFrom_keepsFrom (β:=Unit) WL () A B row hs.2.1 hg hr,Qy (R:=bH) bH.refl (fun _ _ _ a b=>a.trans b) (β:=Unit) WL () A B row hs.2.2 hg hr⟩)
    ⟨⟨uh N6,rfl,apw,ao2⟩,Fh,hK6⟩
    (fun y a' W'=> ∃ bx,W'.heap[bx]? = some (.cells #[.int .i64 ((y.table:Nat):Int),.int .i64 ((y.index:Nat):Int),.int .u16 ((y.number:Nat):Int)] 219 (0,0))∧a'={ tmps:= #[.pointer (some ⟨v,0,none⟩),.pointer (some ⟨w.heap.size,0,none⟩),.pointer (some ⟨w.heap.size+1,0,none⟩),.pointer (some ⟨bs,0,none⟩),.pointer (some ⟨bi,0,none⟩),.pointer (some ⟨bf,0,none⟩),.nilIface,.pointer (some ⟨bx,0,none⟩),undef,.pointer (some ⟨v,0,none⟩),.agg hvv,.int .i64 ((V.C.length:Nat):Int),.agg rc,.pointer (some ⟨v,0,none⟩),.func (.func 173) #[] #[.pointer (some ⟨wr.heap.size,0,none⟩)],.int .i64 ((x:Nat):Int),.int .i64 ((x:Nat):Int),.nilIface,.nilIface,.bool false,undef,undef,undef,undef,.pointer (some ⟨v,0,none⟩),.int .i64 ((x:Nat):Int),.func (.func 174) #[] #[.pointer (some ⟨W5.heap.size,0,none⟩),.pointer (some ⟨W5.heap.size+1,0,none⟩)],oh y,undef,undef,undef,undef,undef,undef,undef,undef,undef,undef],defers:=[] })
    (fun y a'' _ A' B' row hs hg hr=>by
     obtain ⟨bx2,h2,h3⟩:=hs;refine ⟨bx2,?_,h3⟩;rw [hg.block bx2 (aO h2) (fun e=>by
      obtain ⟨_,o,ho,hc⟩:=hr bx2 e.symm;rw [h2] at ho;injection ho with ho;subst ho;cases hc)]
     exact h2) ?assign2 ?body2 ?done2 ?stop2
   case assign2=>
    rintro l2 ip y W' K ⟨⟨g1,g4,g5,g6⟩,g2,g3⟩ hK;have hb:Below W'.heap.size W' (W'.alloc (.cells #[.int .i64 ((y.table:Nat):Int),.int .i64 ((y.index:Nat):Int),.int .u16 ((y.number:Nat):Int)] 219)):=fC;have G1:=ah (g1.later hb);have G2:=ah (g2.trans ((KeepsOthers.alloc W' (.cells #[.int .i64 ((y.table:Nat):Int),.int .i64 ((y.index:Nat):Int),.int .u16 ((y.number:Nat):Int)] 219)).from _));have G3:=ah (g3.trans (fun _ _ _ a b=>a.trans b) (aT.below bH.refl hb));have G4:=ah g4;have G5:=ah g5;have G6:=ah ((hb.block _ (aO g6)).trans g6);clear g1 g2 g3 g4 g5 g6;unfold oh
    gi_wp2
    exact hK _ _ ((KeepsOthers.alloc _ _).from _) (aT.below (R:=dF) (fun _=>rfl) hb) ⟨⟨uh G1,uh G4,uh G5,uh G6⟩,uh G2,uh G3⟩ ⟨_,aW _ _,rfl⟩
   case done2=>
    rintro ip W' hS ⟨⟨g1,g4,g5,_⟩,g2,g3⟩;have hS':sZ ip=jg V.C x 32 0:=by rw [hS];exact agY V x
    rw [hS',← htp] at g1 g4 g5;have hpl: ¬ (pre++[(⟨x,hx⟩:UM fun t=>t<65536)]).length=0:=sm;have G1:Hid (um w W' v bs bi .nilIface V.C.length (nC (lG (pre++[⟨x,hx⟩])) 0 R).2.told (if (pre++[(⟨x,hx⟩:UM fun t=>t<65536)]).length=0 then 0 else 5)):=by rw [ak hpl];exact g1
    have G0:=ah g1;have G2:=ah g2;have G3:=ah g3;have G4:=ah g4;have G5:=ah g5;clear g1 g2 g3 g4 g5 hS hS' htp
    gi_wp2
    repeat (first | exact uh G0 | exact uh G1 | exact uh G2 | exact uh G3 | exact uh G4 | exact uh G5 | (rw [ak sm];exact uh G0) | refine ⟨?_,?_⟩)
   case stop2=>
    rintro ip W' hSp ⟨g1,g2,g3⟩;have hpre:sZ ip <+: jg V.C x 32 0:=by
     rw [← agY V x];obtain ⟨rr,hrr⟩:=hSp;exact ⟨sZ rr,by rw [← hrr];simp [sZ]⟩
    have hfe:=aoI (R:=Q1) (first:=x) hpre g1.1;rw [← hfe,← htp] at g1;have G1:=ah g1;have G2:=ah g2;have G3:=ah g3;clear g1 g2 g3 hSp hpre hfe htp
    gi_wp2
    repeat (first | exact uh G1 | exact uh G2 | exact uh G3 | refine ⟨?_,?_⟩)
   case body2=>
    rintro l2 ip y a' W' hl2 _ ⟨⟨g1,g4,g5,g6⟩,g2,g3⟩ ⟨bx,hbx,rfl⟩ hip;have hV':=H.below g1.below;have hn:=y.hn;have hQ2:(jH x (sZ ip) Q1).2.L=V.C:=by rw [WC];exact hQ1
    have hsb:jH x (sZ (ip++[y])) Q1=qx (jH x (sZ ip) Q1).2 x (xY y):=by rw [ac6,agT x (sZ ip) (xY y) Q1 g4]
    have c0:W'.cell? ⟨bx,0,none⟩=some (.int .i64 ((y.table:Nat):Int)):=(aG hbx 0).trans rfl;have c1:W'.cell? ⟨bx,1,none⟩=some (.int .i64 ((y.index:Nat):Int)):=(aG hbx 1).trans rfl;have c2:W'.cell? ⟨bx,2,none⟩=some (.int .u16 ((y.number:Nat):Int)):=(aG hbx 2).trans rfl;have cf:W'.cell? ⟨bf,0,none⟩=some (.int .i64 ((x:Nat):Int)):=(aG g6 0).trans rfl;generalize (jH x (sZ ip) Q1).2=Q2 at*;have hblt:=aO g1.bin
    by_cases hno:Je Q2.told V.C.length x y.table y.index y.number=true
    ·have hfa:=aue (R:=Q2) (first:=x) (s:=xY y) (by rw [hQ2];exact hno);have hbd:=ado hfa;rw [← hsb] at hfa hbd;have Ht:=ah (atF W' bs V.C.length Q2.told x y.table y.index y.number g1.Et (HG.below g1.below) hC hn g5 hno);have G1:=ah g1;have G2:=ah g2;have G3:=ah g3;have Hfa:=ah hfa;have Hbd:=ah hbd;have HV:=ah hV';have pz:=ah hbx;clear g1 g2 g3 g4 g5 g6 hsb hfa hbd hV' hQ2 Ec;generalize oh y=sv at*
     gi_wp2_with fail
     refine ⟨trivial,(CallsIn.inRound l2 (eY.2 Ht)).mono ?_⟩;rintro e w5 ⟨⟨z,⟨tz,vz,rfl⟩,rfl⟩,hb7⟩;have N7:=G1.later hb7;have c3:w5.cell? ⟨w.heap.size+1,0,none⟩=some .nilIface:=(aG N7.br 0).trans rfl;have f3:=eG N7.br;have c7:w5.cell? ⟨bx,0,none⟩=some (.int .i64 ((y.table:Nat):Int)):=(aG ((hb7.block _ (aO pz)).trans pz) 0).trans rfl;have hV7:=H.below N7.below;have hex:JC w (w5.setCell ⟨w.heap.size+1,0,none⟩ (kD y.table (.iface tz vz))) v bs bi V.C.length (jH x (sZ (ip++[y])) Q1):=
      ⟨uh Hfa,y.table,_,_,_,uh Hbd,⟨_,_,rfl⟩,N7.answer _⟩
     have Hex:=ah hex;have KA:aT (fun j=>j=w.heap.size+1∨j=bs∨j=bi) (fun k=>wc.heap.size+1≤k) v dF w5 (w5.setCell ⟨w.heap.size+1,0,none⟩ (kD y.table (.iface tz vz))):=
      aT.own hV7 (Kept.only _ _ _ _) (by rintro j rfl;exact ⟨aA rfl,nf _ om,_,N7.br,rfl⟩) rfl
     have KB:aT (fun j=>j=w.heap.size+1∨j=bs∨j=bi) (fun k=>W3.heap.size+2≤k) v bH w5 (w5.setCell ⟨w.heap.size+1,0,none⟩ (kD y.table (.iface tz vz))):=
      aT.own hV7 (Kept.only _ _ _ _) (by rintro j rfl;exact ⟨aA rfl,nf _ om,_,N7.br,rfl⟩) (bH.refl _)
     have K1:=ah (aT.trans (R:=dF) (fun _ _ _ a b=>sQ a b) (aT.below (R:=dF) (fun _=>rfl) hb7) KA);have K2:=ah (G3.trans (fun _ _ _ a b=>a.trans b) ((aT.below bH.refl hb7).trans (fun _ _ _ a b=>a.trans b) KB));have hkb: ∀ B,KeepsFrom B W' w5:=fun B=>⟨hb7.size,fun k o _ hk _=>(hb7.block k (aO hk)).trans hk⟩;have F1:=ah ((hkb wc.heap.size).trans ((KeepsOthers.setCell w5 ⟨w.heap.size+1,0,none⟩ (kD y.table (.iface tz vz))).from wc.heap.size));have F2:=ah (G2.trans ((hkb W3.heap.size).trans ((KeepsOthers.setCell w5 ⟨w.heap.size+1,0,none⟩ (kD y.table (.iface tz vz))).from W3.heap.size)));clear hex KA KB hkb N7 hV7 hb7 Ht G1 G2 G3 Hfa Hbd c0 c1 c2 cf
     gi_wp2
     repeat (first | exact uh Hex | exact uh F1 | exact uh F2 | exact uh K1 | exact uh K2 | refine ⟨?_,?_⟩)
    ·have hno:Je Q2.told V.C.length x y.table y.index y.number=false:=by simpa using hno
     obtain ⟨htr,htd⟩:=auf (R:=Q2) (first:=x) (s:=xY y) (by rw [hQ2];exact hno);rw [← hsb] at htr htd;have Ht:=ah (atH W' bs V.C.length Q2.told x y.table y.index y.number g1.Et hC hn g5 hno);have ahJ:Small (jH x (sZ (ip++[y])) Q1).2.told:=by
      rw [htd];refine g5.set _ ?_;unfold QO
      split <;> decide
     have G1:=ah g1;have G2:=ah g2;have G3:=ah g3;have G6:=ah g6;have zF:=ah htr;have Htd:=ah htd;have Hsm:=ah ahJ;have HV:=ah hV';clear g1 g2 g3 g4 g5 g6 hsb htr htd hV' hQ2 Ec ahJ hbx;generalize oh y=sv at*
     gi_wp2_with fail
     refine ⟨trivial,(CallsIn.inRound l2 (eY.2 Ht)).mono ?_⟩;rintro e w5 ⟨rfl,hr7,hk7⟩;have N7:=G1.role hr7 hk7;rw [show Q2.told.set (y.number%32768) (QO x y.table)=(jH x (sZ (ip++[y])) Q1).2.told from Htd.symm] at N7;have KA:aT (fun j=>j=w.heap.size+1∨j=bs∨j=bi) (fun k=>wc.heap.size+1≤k) v dF W' w5:=
      aT.own HV hk7 (by rintro j rfl;exact ⟨ay (aA rfl),nf _ om,_,G1.Et.aF,rfl⟩) rfl
     have KB:aT (fun j=>j=w.heap.size+1∨j=bs∨j=bi) (fun k=>W3.heap.size+2≤k) v bH W' w5:=
      aT.own HV hk7 (by rintro j rfl;exact ⟨ay (aA rfl),nf _ om,_,G1.Et.aF,rfl⟩) (bH.refl _)
     have K1:=ah KA;have K2:=ah (G3.trans (fun _ _ _ a b=>a.trans b) KB);have hkb: ∀ B,bs<B→KeepsFrom B W' w5:=fun B hB=>⟨hk7.size,fun k o hB2 hk _=>hk7.aF om hk⟩;have F1:=ah (hkb wc.heap.size om);have F2:=ah (G2.trans (hkb W3.heap.size om));have B7:=ah (hk7.aF om G6);have N7:=ah N7;clear KA KB hkb hr7 hk7 Ht G1 G2 G3 G6 Htd c0 c1 c2 cf
     gi_wp2
     repeat (first | exact uh N7 | exact uh zF | exact uh Hsm | exact uh B7 | exact uh F1 | exact uh F2 | exact uh K1 | exact uh K2 | refine ⟨?_,?_⟩)
end Go.Proofs.YtknjjjenklfeoaaGreatDoor
