import Derived.Test.YtknjjjenklfeoaaGreatDoorU43
set_option maxHeartbeats 8000000
set_option maxRecDepth 100000
set_option linter.all false
namespace Go.Proofs.YtknjjjenklfeoaaGreatDoor
section
open Go.RowKit Go.Shelf
attribute [local go_sem ↓] dw fP fV kU mZ nC jR kP kJ kF lG lI kR kQ kV ng nD l9 nJ jE pW qM qO qA
attribute [local go_sem] dM fO fU gW gB aV kY mP mW mQ mO gX jT kN kH lq kX iM kG lu lD lC kM jc jd nH nK kW kZ mX nT mV mM nN qc qI qK qJ qH
attribute [local go_sem] pU pR Oper.semAt_some
attribute [local go_sem ↓] Xu
attribute [local go_sem] Zr
def apC (w:World) (v:Nat) (Cv Lv:Value) (V:aB) (h:aP w v Cv Lv V) (hG:oN w) (h5:5<V.C.length) (hC:V.C.length≤256) (hF: ∀ f ∈ bP V,gU V f):
  CallsIn Fence.wide 100 Tryz.prog 96 #[.pointer (some ⟨v,0,none⟩)] w fun e w'=>((GL V.C (aJ V.C) (bP V)= -1∧e= .returned .nilIface)∨ ∃ (n:Nat) (x:Value),GL V.C (aJ V.C) (bP V)=(n:Int)∧isIface x∧e= .returned (kS n x))∧aC w w':=by
 have bd:=CY V.C h.kT om;have H:=ah h;have HG:=ah hG;have bf:v<w.heap.size:=h.lt;have a5: ∀ j,eX v Cv Lv j→j<w.heap.size:=h.qV;clear h hG;refine callsIn_of_wp_marks Tryz.func96 rfl trivial ?_ rfl;simp only [Tryz.ntmps96,jm,iO,vV,Nat.reduceAdd,Nat.reduceSub,BX,BZ,Cb,Cc,qy,rU];have U0:aC w ((w.alloc (.cells #[.pointer (some ⟨v,0,none⟩)] 82)).alloc (.cells #[.nilIface] 98)):=((bG _ w).alloc (aO _) _).alloc sm _;have L0:=ah (dW.two w (.cells #[.pointer (some ⟨v,0,none⟩)] 82) (.cells #[.nilIface] 98));have Hc:=ah (MS _ v Cv Lv V (H.below U0) om);have aD:=ah (fun W=>Uu W v);clear U0;generalize hk:aJ V.C=k at*
 gi_wp2_with fail
 refine ⟨trivial,(fE.2 Hc).mono ?_⟩;rintro e N ⟨rfl,ad⟩;have L1:=L0.later ad;have bh:w.heap.size+1<N.heap.size:=aK L1.o1;have M2:yt w (N.alloc (.cells (cv k).toArray 123)) v N.heap.size k .nilIface:=
  ⟨(L1.alloc _).below,(L1.alloc _).o0,(L1.alloc _).o1,aX _ _,om⟩
 have av:(N.alloc (.cells (cv k).toArray 123)).cell? ⟨w.heap.size,0,none⟩=some (.pointer (some ⟨v,0,none⟩)):=(aF M2.bv 0).trans rfl;have M2:=ah M2;have bj:N.heap.size<(N.alloc (.cells (cv k).toArray 123)).heap.size:=sm;clear Hc ad L1 L0
 gi_wp2_with fail
 generalize N.alloc (.cells (cv k).toArray 123)=wr at*;generalize N.heap.size=bc at*;refine ⟨trivial,(fE.2 (uh aD wr)).mono ?_⟩;rintro e i ⟨rfl,ai⟩;have bl:wr.heap.size+1≤i.heap.size:=by rw [ai];simp
 have aE:aC wr i:=by rw [ai];exact fC
 have ae:i.heap[wr.heap.size]? = some (.cells #[.pointer (some ⟨v,0,none⟩)] 82 (0,0)):=by rw [ai];exact aX _ _
 have U:=M2.later aE;have aL:=H.below U.below;have xH:=aik (Pc:=gU V) 99 om (fun j=>j=w.heap.size+1) v wr.heap.size (i.heap.size+2) V Cv Lv i aL ae om (fun d=>by have:=a5 _ d;omega) (fun j hj=>by rw [hj];omega) h5 hF;have U:=ah U;clear M2 aL ae aE ai aD av
 gi_wp2_with fail
 refine aee om (gf:=173) (lb:= #[.pointer (some ⟨wr.heap.size,0,none⟩)]) rfl (enters_of Tryz.func173 kr rfl) xH
  (fun A B C h k=>aT.trans (R:=bK) (fun _ _ _ a b=>a.trans b) h k) (fun W o o' hl hc=>aT.turn bK.refl W _ o o' hl hc om) (bG _ _) (fun _=>rfl)
  (fun pre W'=>yt w W' v bc k .nilIface∧(BR V.C (lV pre)).find? (sF k)=none)
  (fun pre W'=> ∃ sp x,(BR V.C (lV pre)).find? (sF k)=some sp∧isIface x∧yt w W' v bc k (kS sp.table x))
  (fun _ _ _ _ hs p hr=>⟨yt.qj hs.1 om p hr,hs.2⟩)
  (fun _ _ _ _ hs p hr=>by obtain ⟨sp,x,X,F,h3⟩:=hs;exact ⟨sp,x,X,F,yt.qj h3 om p hr⟩)
  ⟨uh U,rfl⟩
  (fun x a' _=>a'={ tmps:= #[.pointer (some ⟨v,0,none⟩),.pointer (some ⟨w.heap.size,0,none⟩),.pointer (some ⟨w.heap.size+1,0,none⟩),.pointer (some ⟨bc,0,none⟩),.int .i64 ((x.1:Nat):Int),undef,.pointer (some ⟨v,0,none⟩),.agg (cv k).toArray,.pointer (some ⟨v,0,none⟩),.func (.func 173) #[] #[.pointer (some ⟨wr.heap.size,0,none⟩)],.int .i64 ((x.1:Nat):Int),undef,undef,undef,undef,undef,undef,undef,undef,undef,undef,undef,undef,undef,undef,undef,undef,undef,undef,undef,undef],defers:=[] })
  (fun _ _ _ _ _ _ hs _ _=>hs)
  ?assign ?body ?done ?stop
 case assign=>
  rintro l pre x W' K hi P
  gi_wp2
  exact P _ _ (KeepsFrom.refl _ _) (aT.below bK.refl (bG _ _)) hi rfl
 case done=>
  rintro D ys W' hD hS ⟨g,d⟩ P;have af:lV ys=bP V:=hS;rw [af] at d;have L:GL V.C k (bP V)= -1:=by unfold GL;show Kz ((BR V.C (bP V)).find? (sF k))= -1;rw [d];rfl
  have G:=ah L;have r1:W'.cell? ⟨w.heap.size+1,0,none⟩=some .nilIface:=(aF g.br 0).trans rfl;have f2:=eY g.br;have O:=g.put .nilIface;have aw:(W'.setCell ⟨w.heap.size+1,0,none⟩ .nilIface).heap[D]? = some (.deferred (some [])):=(Kept.only W' (w.heap.size+1) 0 .nilIface).aG om P;have aM:=O.br;have HB:=ah (TW (D:=D) O.below om);have a6:=ah aM;clear g hS af d xH U L O aM
  gi_wp2
  refine ⟨sm,.inl ⟨_,_,rfl,run_takeDeferred aw,?_⟩⟩;have OQ:((W'.setCell ⟨w.heap.size+1,0,none⟩ .nilIface).putObj D (.deferred none)).heap[w.heap.size+1]? = some (.cells #[.nilIface] 98 (0,0)):=(World.putObj_heap_other om).trans a6;refine ⟨_,qZ rfl ⟨w.heap.size+1,0,none⟩ rfl (Yz OQ),aA ⟨?_,rfl⟩,uh HB⟩;exact uh G
 case stop=>
  rintro D pre W' hD al ⟨sp,x,X,F,g⟩ P;have d:=aif (awI (C:=V.C) (show lV pre <+: bP V from al)) X;have L:GL V.C k (bP V)=(sp.table:Int):=by unfold GL;show Kz ((BR V.C (bP V)).find? (sF k))=_;rw [d];rfl
  have G:=ah L;have HB:=ah (TW (D:=D) g.below om);have a7:=g.br;clear xH U d X L g
  gi_wp2
  refine ⟨sm,.inl ⟨_,_,rfl,run_takeDeferred P,?_⟩⟩;have OQ:(W'.putObj D (.deferred none)).heap[w.heap.size+1]? = some (.cells #[kS sp.table x] 98 (0,0)):=(World.putObj_heap_other om).trans a7;refine ⟨_,qZ rfl ⟨w.heap.size+1,0,none⟩ rfl (Yz OQ),ay ⟨sp.table,x,?_,F,rfl⟩,uh HB⟩;exact uh G
 case body=>
  rintro l pre x a' W hl ⟨r,hr⟩ ⟨g,an⟩ rfl hlen;obtain ⟨x,Q⟩:=x;have av:W.cell? ⟨w.heap.size,0,none⟩=some (.pointer (some ⟨v,0,none⟩)):=(aF g.bv 0).trans rfl;have Hm:=ah (V9 W v x);have M1:=ah g;have bm:=aK g.bk;have bn:=g.lo;clear g xH;dsimp only
  gi_wp2_with fail
  refine ⟨trivial,(CallsIn.inRound l (fE.2 Hm)).mono ?_⟩;rintro e wc ⟨rfl,ag⟩;have bo:W.heap.size+2≤wc.heap.size:=by rw [ag];simp
  have E:aC W wc:=by rw [ag];exact (fC).alloc sm _
  have ad:wc.heap[W.heap.size]? = some (.cells #[.pointer (some ⟨v,0,none⟩)] 82 (0,0)):=by rw [ag];exact (jX _ _ _ sm).trans (aX _ _)
  have aR:wc.heap[W.heap.size+1]? = some (.cells #[.int .i64 (x:Nat)] 3 (0,0)):=by rw [ag];have:=aX (W.alloc (.cells #[.pointer (some ⟨v,0,none⟩)] 82)) (.cells #[.int .i64 (x:Nat)] 3);rwa [jV] at this
  have O:=M1.later E;have a0:=H.below O.below;have yF:=H.below M1.below;have a8:wc.heap[l]? = some (.loop r):=(E.block _ (aK hr)).trans hr;have Fg:=aac 97 om (fun j=>j=w.heap.size+1) v W.heap.size (W.heap.size+1) x (wc.heap.size+1) V Cv Lv wc a0 ad aR om om (fun d=>by have:=yF.qV _ d;omega) (fun d=>by have:=yF.qV _ d;omega) (fun k hk=>by rw [hk];omega) Q;have UE:KeepsFrom i.heap.size W wc:=⟨E.size,fun k o _ hk _=>(E.block k (aK hk)).trans hk⟩;have aw:aT (fun j=>j=w.heap.size+1) (fun k=>i.heap.size+2≤k) v bK W wc:=aT.below bK.refl E;have ao:BR V.C (lV (pre++[⟨x,Q⟩]))=BR V.C (lV pre)++jB V.C x 32 0:=by rw [aal,awJ]
  have O:=ah O;clear M1 a0 ad aR ag Hm av hr yF
  gi_wp2_with fail
  refine auF (l₀:=l) (r₀:=r) a8 om (gf:=174) (lb:= #[.pointer (some ⟨W.heap.size,0,none⟩),.pointer (some ⟨W.heap.size+1,0,none⟩)]) rfl (enters_of Tryz.func174 kr rfl) Fg
   (fun A B C h k=>aT.trans (R:=dK) (fun _ _ _ a b=>tX a b) h k) (fun W o o' hl hc=>aT.turn (R:=dK) (fun _=>rfl) W _ o o' hl hc om) (bG _ _) (fun _=>rfl)
   (fun ip W'=>(yt w W' v bc k .nilIface∧(uj ip).find? (sF k)=none)∧KeepsFrom i.heap.size W W'∧aT (fun j=>j=w.heap.size+1) (fun k=>i.heap.size+2≤k) v bK W W')
   (fun ip W'=>(∃ sp x,(uj ip).find? (sF k)=some sp∧isIface x∧yt w W' v bc k (kS sp.table x))∧KeepsFrom i.heap.size W W'∧aT (fun j=>j=w.heap.size+1) (fun k=>i.heap.size+2≤k) v bK W W')
   (fun s A B row hs p hr=>⟨⟨yt.qj hs.1.1 om p hr,hs.1.2⟩,ownFrom_keepsFrom (β:=Unit) E.size () A B row hs.2.1 p hr,RI (R:=bK) bK.refl (fun _ _ _ a b=>a.trans b) (β:=Unit) E.size () A B row hs.2.2 p hr⟩)
   (fun s A B row hs p hr=>⟨by obtain ⟨sp,x,X,F,h3⟩:=hs.1;exact ⟨sp,x,X,F,yt.qj h3 om p hr⟩,ownFrom_keepsFrom (β:=Unit) E.size () A B row hs.2.1 p hr,RI (R:=bK) bK.refl (fun _ _ _ a b=>a.trans b) (β:=Unit) E.size () A B row hs.2.2 p hr⟩)
   ⟨⟨uh O,rfl⟩,UE,aw⟩
   (fun y a' W'=> ∃ bx,W'.heap[bx]? = some (.cells #[.int .i64 ((y.table:Nat):Int),.int .i64 ((y.index:Nat):Int),.int .u16 ((y.number:Nat):Int)] 219 (0,0))∧a'={ tmps:= #[.pointer (some ⟨v,0,none⟩),.pointer (some ⟨w.heap.size,0,none⟩),.pointer (some ⟨w.heap.size+1,0,none⟩),.pointer (some ⟨bc,0,none⟩),.int .i64 ((x:Nat):Int),.pointer (some ⟨bx,0,none⟩),.pointer (some ⟨v,0,none⟩),.agg (cv k).toArray,.pointer (some ⟨v,0,none⟩),.func (.func 173) #[] #[.pointer (some ⟨wr.heap.size,0,none⟩)],.int .i64 ((x:Nat):Int),.pointer (some ⟨v,0,none⟩),.int .i64 ((x:Nat):Int),.func (.func 174) #[] #[.pointer (some ⟨W.heap.size,0,none⟩),.pointer (some ⟨W.heap.size+1,0,none⟩)],oK y,undef,undef,undef,undef,undef,undef,undef,undef,undef,undef,undef,undef,undef,undef,undef,undef],defers:=[] })
   (fun y bp _ A' B' row hs p hr=>by
    obtain ⟨ax,F,h3⟩:=hs;refine ⟨ax,?_,h3⟩;rw [p.block ax (aK F) (fun e=>by
     obtain ⟨_,o,ho,hc⟩:=hr ax e.symm;rw [F] at ho;injection ho with ho;subst ho;cases hc)]
    exact F) ?assign2 ?body2 ?done2 ?stop2
  case assign2=>
   rintro Y ip y W' K ⟨⟨c,t⟩,u,z⟩ P;have hb:Below W'.heap.size W' (W'.alloc (.cells #[.int .i64 ((y.table:Nat):Int),.int .i64 ((y.index:Nat):Int),.int .u16 ((y.number:Nat):Int)] 219)):=fC;have S:=ah (c.later hb);have I:=ah (u.trans ((KeepsOthers.alloc W' (.cells #[.int .i64 ((y.table:Nat):Int),.int .i64 ((y.index:Nat):Int),.int .u16 ((y.number:Nat):Int)] 219)).from _));have J:=ah (z.trans (fun _ _ _ a b=>a.trans b) (aT.below bK.refl hb));have G4:=ah t;clear c u z t;unfold oK
   gi_wp2
   exact P _ _ ((KeepsOthers.alloc _ _).from _) (aT.below (R:=dK) (fun _=>rfl) hb) ⟨⟨uh S,uh G4⟩,uh I,uh J⟩ ⟨_,aX _ _,rfl⟩
  case done2=>
   rintro ip W' hS ⟨⟨c,t⟩,u,z⟩;have af:uj ip=jB V.C x 32 0:=by rw [hS];exact amM V x Q
   rw [af] at t;have aa:(BR V.C (lV (pre++[⟨x,Q⟩]))).find? (sF k)=none:=by rw [ao,Ti,an,t];rfl
   have S:=ah c;have I:=ah u;have J:=ah z;have G4:=ah aa;clear c u z t aa ao an hS af
   gi_wp2
   repeat (first | exact uh S | exact uh I | exact uh J | exact uh G4 | refine ⟨?_,?_⟩)
  case stop2=>
   rintro ip W' al ⟨⟨sp,e,c,g5,t⟩,u,z⟩;have aq:uj ip <+: jB V.C x 32 0:=by
    rw [← amM V x Q];obtain ⟨rr,a9⟩:=al;exact ⟨uj rr,by rw [← a9];simp [uj]⟩
   have aa:(BR V.C (lV (pre++[⟨x,Q⟩]))).find? (sF k)=some sp:=by rw [ao,Ti,an,aif aq c];rfl
   have I:=ah u;have J:=ah z;have G4:Hid (∃ sp a1,(BR V.C (lV (pre++[⟨x,Q⟩]))).find? (sF k)=some sp∧isIface a1∧yt w W' v bc k (kS sp.table a1)):=⟨sp,e,aa,g5,t⟩;clear c u z t g5 aa ao an al aq
   gi_wp2
   repeat (first | exact uh I | exact uh J | exact uh G4 | refine ⟨?_,?_⟩)
  case body2=>
   rintro Y ip y a' W' bq _ ⟨⟨c,t⟩,u,z⟩ ⟨bx,ae,rfl⟩ bt;have q:(uj (ip++[y])).find? (sF k)=if sF k (yQ y) then some (yQ y) else none:=by
    rw [aeK,Ti,t,Option.none_or,afy];cases sF k (yQ y) <;> rfl
   have L:sF k (yQ y)=(decide (32768≤y.number) && decide (aI k (y.number%32768)≠1)):=rfl;have a2:=H.below c.below;have hn:=y.hn;have hc:=y.hc.2;have bw:((y.number%32768:Nat):Int)<256:=om;have c0:W'.cell? ⟨bx,0,none⟩=some (.int .i64 ((y.table:Nat):Int)):=(aF ae 0).trans rfl;have c1:W'.cell? ⟨bx,2,none⟩=some (.int .u16 ((y.number:Nat):Int)):=(aF ae 2).trans rfl;have c2:W'.cell? ⟨bc,y.number%32768,none⟩=some (.int .u8 ((aI k (y.number%32768):Nat):Int)):=by
    rw [aF c.bk,bZ,vG _ _ om]
   have DR:=ah (fun W=>CW y.number y.hn W);have G:=ah (fun W=>YL y.number y.hn W);have ar:(yQ y).table=y.table:=rfl;have c3:W'.cell? ⟨w.heap.size+1,0,none⟩=some .nilIface:=(aF c.br 0).trans rfl;have f3:=eY c.br;obtain ⟨Z,v4,a3⟩:=(HG.below c.below).err 4 om;have ab: ∀ j,j=w.heap.size+1→j=w.heap.size+1∧ ¬ eX v Cv Lv j∧ ∃ o,W'.heap[j]? = some o∧o.isCells=true:=fun j e=>by
    subst e;exact ⟨rfl,fun d=>by have:=H.qV _ d;omega,_,c.br,rfl⟩
   rw [L] at q;have S:=ah c;have I:=ah u;have J:=ah z;have GK:=ah (KeepsFrom.refl (B:=wc.heap.size) W');clear L c u z t;generalize yQ y=ty at*;generalize oK y=sv at*;generalize aI k (y.number%32768)=m at*;generalize y.number%32768=cc at*;generalize y.number=nn at*
   by_cases a4:32768≤nn
   ·have dk:decide (32768≤nn)=true:=dZ a4;rw [dk] at G q
    by_cases az:m=1
    ·rw [gK (by simpa using az),um,ak dc] at q;have Xg:=ah q;have dm:(((m:Nat):Int) != 1)=false:=by rw [az];rfl
     clear q ab c3 f3 c0 a3
     gi_wp2_with fail
     refine ⟨trivial,(CallsIn.inRound Y (fE.2 (uh G _))).mono ?_⟩;rintro e w5 ⟨rfl,rfl⟩
     gi_wp2_with fail
     refine ⟨trivial,(CallsIn.inRound Y (fE.2 (uh DR _))).mono ?_⟩;rintro e w5 ⟨rfl,rfl⟩
     gi_wp2
     repeat (first | exact uh S | exact uh I | exact uh J | exact uh Xg | exact KeepsFrom.refl _ _ | exact aT.below (R:=dK) (fun _=>rfl) (bG _ _) | refine ⟨?_,?_⟩)
    ·rw [dZ (by simpa using az),um,au rfl] at q;have dm:(((m:Nat):Int) != 1)=true:=by rw [ou];omega
     have M6:=S.put (kS y.table (.iface Z v4));rw [← ar] at M6;have hex: ∃ sp x,(uj (ip++[y])).find? (sF k)=some sp∧isIface x∧yt w (W'.setCell ⟨w.heap.size+1,0,none⟩ (kS y.table (.iface Z v4))) v bc k (kS sp.table x):=⟨ty,_,q,⟨_,_,rfl⟩,by rw [← ar];exact M6⟩;have ba:=ah hex;have K3:aT (fun j=>j=w.heap.size+1) (fun k=>wc.heap.size+1≤k) v dK W' (W'.setCell ⟨w.heap.size+1,0,none⟩ (kS y.table (.iface Z v4))):=aT.own a2 (Kept.only _ _ _ _) ab rfl;have K4:aT (fun j=>j=w.heap.size+1) (fun k=>i.heap.size+2≤k) v bK W' (W'.setCell ⟨w.heap.size+1,0,none⟩ (kS y.table (.iface Z v4))):=aT.own a2 (Kept.only _ _ _ _) ab (bK.refl _);have K5:=ah (J.trans (fun _ _ _ a b=>a.trans b) K4);have d:=ah ((KeepsOthers.setCell W' ⟨w.heap.size+1,0,none⟩ (kS y.table (.iface Z v4))).from wc.heap.size)
     have bb:=ah (I.trans ((KeepsOthers.setCell W' ⟨w.heap.size+1,0,none⟩ (kS y.table (.iface Z v4))).from i.heap.size));have K3:=ah K3;clear q ab hex K4 M6
     gi_wp2_with fail
     refine ⟨trivial,(CallsIn.inRound Y (fE.2 (uh G _))).mono ?_⟩;rintro e w5 ⟨rfl,rfl⟩
     gi_wp2_with fail
     refine ⟨trivial,(CallsIn.inRound Y (fE.2 (uh DR _))).mono ?_⟩;rintro e w5 ⟨rfl,rfl⟩
     gi_wp2
     repeat (first | exact uh ba | exact uh d | exact uh bb | exact uh K3 | exact uh K5 | refine ⟨?_,?_⟩)
   ·have dk:decide (32768≤nn)=false:=gK a4;rw [dk] at G q;rw [J3,ak dc] at q;have Xg:=ah q;clear q ab c3 f3 c0 a3
    gi_wp2_with fail
    refine ⟨trivial,(CallsIn.inRound Y (fE.2 (uh G _))).mono ?_⟩;rintro e w5 ⟨rfl,rfl⟩
    gi_wp2
    refine ⟨trivial,?_⟩
    gi_wp2
    repeat (first | exact uh S | exact uh I | exact uh J | exact uh Xg | exact KeepsFrom.refl _ _ | exact aT.below (R:=dK) (fun _=>rfl) (bG _ _) | refine ⟨?_,?_⟩)
end
section
open Go.RowKit Go.Shelf
def zM:List Nat:=List.replicate 256 0
def amu (a:Addr) (v:Value):Sem Unit:=storeVar 212 a v
def awi (a:Addr) (v:Value):storeVar 212 a v=amu a v:=rfl
def avC (M:List Nat):(rv M).length=M.length:=tY _
def alW (T:Nat) (M:List Nat):(wX T M).length=M.length+1:=by simp [wX,avC]
def au9 (T:Nat) (M:List Nat): ∀ v ∈ wX T M,v.oneCell'=true:=by
 intro v hv;rcases cO.1 hv with rfl | hv
 ·rfl
 ·obtain ⟨x,_,rfl⟩:=gY.1 hv;rfl
def avv {w:World} {T a:Nat} {z M:List Nat} (c:z.length=256) (b:M.length=256):
  (amu ⟨w.heap.size,0,none⟩ (.agg (wX T M).toArray)).run Tryz.prog (w.alloc (.cells (wX a z).toArray 212))= .ok () (w.alloc (.cells (wX T M).toArray 212)):=
 Ic w 212 (wX a z).toArray (wX T M).toArray (by simp only [jm,alW,b];kernel_rfl) (by simp [alW,c,b]) (vU (au9 T M))
def anr:Sem Value:=zeroValue 212
def axL:zeroValue 212=anr:=rfl
def avz (w:World):anr.run Tryz.prog w= .ok (.agg (wX 0 zM).toArray) w:=
 (uZ (P:=Tryz.prog) (t:=212) (v:= .agg (wX 0 zM).toArray) (n:=257) kr).1 w
def agO (parts:Array (Nat × Value)):Sem Value:=Instr.build 212 parts
def apc (parts:Array (Nat × Value)):Instr.build 212 parts=agO parts:=rfl
def avj (T:Nat) (w:World):(agO #[(0,.int .i64 (T:Nat))]).run Tryz.prog w= .ok (.agg (wX T zM).toArray) w:=by
 have a:=(uZ (P:=Tryz.prog) (t:=212) (v:= .agg (wX 0 zM).toArray) (n:=257) kr).1;exact LH w 212 _ (.agg (wX 0 zM).toArray) #[(0,1),(1,256)] #[(0,.int .i64 (T:Nat))] _ Tryz.underlying212 a (fun w=>kr) kr
def ane:zM.length=256:=by unfold zM;exact Ai
def aeY {R:aU} {n kind a:Nat} (h:JK R.told R.L.length n kind=true):tell R n kind a=(false,{ R with bad:=(a:Int) }):=by
 unfold tell;rw [au (show Eh R n kind=true from h)]
def aeZ {R:aU} {n kind a:Nat} (h:JK R.told R.L.length n kind=false):(tell R n kind a).1=true∧(tell R n kind a).2.told=R.told.set n kind:=by
 unfold tell;rw [ak (by rw [show Eh R n kind=false from h];decide)];exact ⟨rfl,rfl⟩
def awt {R:aU} {first:Nat} {s:nR} (h:JU R.told R.L.length first s.table s.index s.number=true):(qN R first s).1=false:=by
 unfold JU at h;unfold qN
 by_cases e:s.table=first
 ·rw [au e] at h ⊢
  by_cases a:2≤s.index
  ·rw [au a]
  ·rw [gK a,Gh] at h;rw [ak a,aeY h]
 ·rw [ak e] at h ⊢;rw [aeY h]
def awu {R:aU} {first:Nat} {s:nR} (h:JU R.told R.L.length first s.table s.index s.number=false):(qN R first s).1=true∧(qN R first s).2.told=R.told.set (s.number%32768) (Sv first s.table):=by
 unfold JU at h;unfold qN Sv
 by_cases e:s.table=first
 ·rw [au e] at h ⊢;rw [Cm] at h;rw [ak (F9 h.1),au e];exact aeZ h.2
 ·rw [ak e] at h ⊢;rw [ak e];exact aeZ h
def aqP {first:Nat} {a b:List nR} {R:aU} (h:a <+: b) (c:(jZ first a R).1=false):jZ first b R=jZ first a R:=by
 obtain ⟨r,rfl⟩:=h;rw [Uw,ak (by rw [c];decide)];exact LY c.symm rfl
def aqO {first:Nat} {a:List nR} {s:nR} {R:aU} (h:(jZ first (a++[s]) R).1=true):(jZ first a R).1=true∧(qN (jZ first a R).2 first s).1=true:=by
 by_cases b:(jZ first a R).1=true
 ·rw [aiz first a s R b] at h;exact ⟨b,h⟩
 ·rw [Uw,ak b] at h;cases h
def Small (M:List Nat):Prop:= ∀ i,M.getD i 0<256
def Small.set {M:List Nat} (h:Small M) (n:Nat) {kind:Nat} (hk:kind<256):Small (M.set n kind):=fun i=>by
 rw [aN,uI]
 by_cases e:n=i
 ·rw [au e];split
  ·exact hk
  ·decide
 ·rw [ak e,← aN];exact h i
def axH:Small zM:=fun i=>by
 unfold zM;rw [aN,rG]
 split <;> decide
structure uO (w W:World) (v bs bi:Nat) (r:Value) (T:Nat) (M:List Nat) (n:Nat):Prop where
 below:aC w W
 bv:W.heap[w.heap.size]? = some (.cells #[.pointer (some ⟨v,0,none⟩)] 82 (0,0))
 br:W.heap[w.heap.size+1]? = some (.cells #[r] 98 (0,0))
 FU:vC W bs T M
 bin:W.heap[bi]? = some (.cells #[.int .i64 (n:Nat)] 3 (0,0))
 lo:w.heap.size+2≤bs
 lt:bs<bi
section
variable {w W W':World} {v bs bi T n:Nat} {r:Value} {M:List Nat}
def uO.later (h:uO w W v bs bi r T M n) (a:aC W W'):uO w W' v bs bi r T M n:=
 ⟨h.below.trans (a.mono h.below.size),(a.block _ (aK h.bv)).trans h.bv,(a.block _ (aK h.br)).trans h.br,h.FU.below a,(a.block _ (aK h.bin)).trans h.bin,h.lo,h.lt⟩
def uO.qj {B:Nat} {row:Option Nat} (h:uO w W v bs bi r T M n) (hB:bi<B) (a:W.grownBy W' row) (hr: ∀ r,row=some r→B≤r∧ ∃ o:Obj,W.heap[r]? = some o∧o.isCells=false):uO w W' v bs bi r T M n:=by
 have:=h.lo
 have:=h.lt
 exact ⟨TY h.below a (fun r e=>by have:=(hr r e).1;omega),sQ a hr h.bv om,sQ a hr h.br om,⟨sQ a hr h.FU.aG om,h.FU.len⟩,sQ a hr h.bin om,h.lo,h.lt⟩
def Below.only {b i:Nat} {x:Value} (h:aC w W) (a:w.heap.size≤b):aC w (W.setCell ⟨b,i,none⟩ x):=by
 have hk:=Kept.only W b i x;exact ⟨hk.os.trans h.os,hk.tape.trans h.tape,hk.output.trans h.output,jL h.size hk.size,fun j hj=>by
   rw [hk.block j (iL hj h.size) om];exact h.block j hj⟩
def uO.answer (h:uO w W v bs bi r T M n) (x:Value):uO w (W.setCell ⟨w.heap.size+1,0,none⟩ x) v bs bi x T M n:=by
 have hk:=Kept.only W (w.heap.size+1) 0 x
 have:=h.lo
 have:=h.lt
 refine ⟨Below.only h.below om,hk.aG om h.bv,?_,h.FU.kept hk om,hk.aG om h.bin,h.lo,h.lt⟩;rw [heap_setCell_same _ _ _ _ _ _ _ h.br];rfl
def uO.place (h:uO w W v bs bi r T M n) (m:Nat):uO w (W.setCell ⟨bi,0,none⟩ (.int .i64 (m:Nat))) v bs bi r T M m:=by
 have hk:=Kept.only W bi 0 (.int .i64 (m:Nat))
 have:=h.lo
 have:=h.lt
 refine ⟨Below.only h.below om,hk.aG om h.bv,hk.aG om h.br,h.FU.kept hk om,?_,h.lo,h.lt⟩;rw [heap_setCell_same _ _ _ _ _ _ _ h.bin];rfl
def uO.role {a:List Nat} (h:uO w W v bs bi r T M n) (hr:vC W' bs T a) (hk:Kept (fun j=>j=bs) W W'):uO w W' v bs bi r T a n:=by
 have:=h.lo
 have:=h.lt
 exact ⟨⟨hk.os.trans h.below.os,hk.tape.trans h.below.tape,hk.output.trans h.below.output,jL h.below.size hk.size,fun j hj=>by
   rw [hk.block j (iL hj h.below.size) om];exact h.below.block j hj⟩,hk.aG om h.bv,hk.aG om h.br,hr,hk.aG om h.bin,h.lo,h.lt⟩
end
def wL (M:List Nat):Nat→List UInt8
 | 0=>zk
 | k+1=>(wL M k).set k (UInt8.ofNat (M.getD k 0%256))
def Ub (M:List Nat): ∀ k,(wL M k).length=256
 | 0=>iM
 | k+1=>by rw [wL,rV,Ub M k]
def zN (V:aB):aB:=fF (lT (iG V) (wL (iw V) 256) 4)
def uV (V:aB):aB:=fF (sD (zN V))
def auc (M:List Nat) (i:Nat) (hi:i<M.length) (w:World):(part 3 (nv M).toArray (i*1)).run Tryz.prog w= .ok (.int .i64 ((M.getD i 0:Nat):Int)) w:=by
 have a:(isAgg 3).run Tryz.prog w= .ok false w:=by unfold isAgg;rw [jC,yh Tryz.underlying3 w];rfl
 unfold part;rw [jC,a];simp only [sK,Ce,yS,WO];rw [bZ,Lm M i hi];rfl
def avs (w:World) (M:List Nat) (a:M.length=256) (k:Nat) (hk:k<256):(Instr.index 161 (.agg (nv M).toArray) (.int .i64 (k:Int))).run Tryz.prog w= .ok (.int .i64 ((M.getD k 0:Nat):Int)) w:=
 Zv w _ _ 256 1 Tryz.underlying161 kr _ k hk _ (auc M k om w)
attribute [local go_sem ↓] jR kP kJ
attribute [local go_sem] jT kN kH
def axl (w:World) (v:Nat) (Cv Lv:Value) (V:aB) (h:aP w v Cv Lv V) (h5:5<V.C.length) (hC:V.C.length≤256) (hL:V.L.length≤600000000) (g: ∀ f ∈ bP V,gU V f) (t: ∀ f ∈ bP (zN V),gU (zN V) f):
  Calls Tryz.prog 57 #[.pointer (some ⟨v,0,none⟩)] w fun e j=>e= .returned (.tuple #[])∧ ∃ C1 L1,dF w j v Cv Lv C1 L1 (uV V):=by
 have E:=ah (fun (W:World) (hB:aC w W)=>fE.1 (afi W v Cv Lv V (h.below hB) h5 hC g));have H:=ah h;have R:=ah t;have S:(iw V).length=256:=PX V _;have u:=aaj (V:=V) (bP V) g;clear h g t
 go_enter Tryz.func57,Tryz.ntmps57
 go_wp2_with fail
 have F:=ah ((Env.start H).lay (.cells (cv zk).toArray 123));have G:=ah ((bG w.heap.size w).alloc (aO _) (.cells (cv zk).toArray 123));generalize w.alloc (.cells (cv zk).toArray 123)=w0 at*;refine (uh E w0 G).mono ?_;rintro e w1 ⟨rfl,b1⟩;have UF: ∀ n,(iw V).getD n 0≤10000:=fun n=>by
  have:=u n
  have U:(bP V).length≤5:=by
   unfold bP AZ
   have:=AQ (aZ (cl V.C 5))
   simp only [iO,tY,yg];omega
  unfold iw;omega
 have I:Hid (zN V=fF (lT (iG V) (wL (iw V) 256) 4)):=rfl;have J:Hid (Env w w1 v Cv Lv Cv Lv V [(w.heap.size,.cells (cv (wL (iw V) 0)).toArray 123 (0,0))]):=F.later b1;generalize iw V=M at*;clear u b1 E F G;go_wp2
 go_loopw [3,4,7] (fun x y i j=> ∃ k:Nat,k≤256∧i= .int .i64 k∧Env w j v Cv Lv Cv Lv V [(w.heap.size,.cells (cv (wL M k)).toArray 123 (0,0))]) (fun _ _ i _=>256 - (intOf i).toNat)
 case atStart=>exact ⟨0,om,rfl,uh J⟩
 case round=>
  obtain ⟨k,hk,rfl,a⟩:=hrel;clear J
  by_cases X:k<256
  ·have Y:(k:Int)<256:=om;have ad:=avs wr M S k X;have ae:=UF k;have c:=Ub M k;have f1:=eY a.o0;have th:wr.there w.heap.size k 1:=iW a.o0 k 1 (by rw [jm,bC,c];omega);have af:IntKind.u8.wrap ((M.getD k 0:Nat):Int)=((M.getD k 0%256:Nat):Int):=by rw [afo];omega
   have b:=a.put sm (Kept.only _ w.heap.size k (.int .u8 ((M.getD k 0%256:Nat):Int))) (heap_setCell_same _ _ _ _ _ _ _ a.o0);have s:(cv (wL M k)).toArray.setIfInBounds k (.int .u8 ((M.getD k 0%256:Nat):Int))=(cv (wL M (k+1))).toArray:=by
    rw [Bh,wL,MV _ k _ (WB _ om)]
   rw [s] at b;have c1: ∃ x,wr.cell? ⟨w.heap.size,k,none⟩=some x:=⟨_,by rw [aF a.o0,bZ,vG _ _ om]⟩;obtain ⟨x0,c1⟩:=c1;have HE:=ah b;clear b a s;generalize M.getD k 0=mk at*;generalize mk%256=m2 at*;go_wp2;go_roundw
   case rel=>exact ⟨k+1,om,gn,uh HE⟩
   case measure=>exact bW
  ·have Q:k=256:=om;subst Q;have Y: ¬ (256:Int)<256:=om;have c:=Ub M 256;have l:=ah (a.sub (cs:=[]) sm);have hle:=l.at';have K:=ah (ab2 wr v Cv Lv V l.at' om om);have N:=ah a;clear a hle
   go_wp2_with fail
   refine K.mono ?_;rintro e w3 ⟨rfl,C3,L3,z⟩;have b:=ah (N.gG z);have l1:=fH b.o0 (n:=256) (by rw [bC,c]);have l2:=fM b.o0 (n:=256) (by rw [bC,c]);have m:=ah (b.sub (cs:=[]) sm);have ag:(iG V).C.length=V.C.length:=by rw [D8]
   have ai:(iG V).L.length≤V.L.length+1:=XC V;have O:=ah (VF w3 v C3 L3 (iG V) m.at' (wL M 256) c om om);have JF:=Zg (iG V) (wL M 256) om;have zB:=Px (iG V) (wL M 256) 4;have Z:=zn (lT (iG V) (wL M 256) 4);have aa:(fF (lT (iG V) (wL M 256) 4)).C.length=V.C.length:=by rw [zX];omega
   rw [← uh I] at Z aa;clear z K N l b;generalize lT (iG V) (wL M 256) 4=V4 at*;generalize iG V=V3 at*;generalize wL M 256=bs at*
   go_wp2_with fail
   refine O.mono ?_;rintro e w4 ⟨rfl,C4,L4,A⟩;have o:=ah (m.gG A);clear A m O l1 l2
   go_wp2_with fail
   refine (Az w4 v C4 L4 V4 o.at' om).mono ?_;rintro e w5 ⟨rfl,C5,L5,d⟩;rw [← uh I] at d;have p:=ah (o.gG d);clear d o;have al:=YC (aJ (zN V).C) (bP (zN V)) (zN V);have U:(bP (zN V)).length≤5:=by
    unfold bP AZ
    have:=AQ (aZ (cl (zN V).C 5))
    simp only [iO,tY,yg];omega
   have an:(sD (zN V)).L.length≤700000000:=by unfold sD;omega
   have ab:Hid (uV V=fF (sD (zN V))):=rfl;generalize zN V=P at*
   go_wp2_with fail
   refine (fE.1 (akh w5 v C5 L5 P p.at' om om om R)).mono ?_;rintro e w6 ⟨rfl,C6,L6,B⟩;have q:=ah (p.gG B);clear B p
   go_wp2_with fail
   refine (Az w6 v C6 L6 (sD P) q.at' om).mono ?_;rintro e w7 ⟨rfl,C7,L7,D⟩;have F7:=ah (q.gG D);clear D q;go_wp2
   go_end0
   exact ⟨rfl,C7,L7,by rw [uh ab];exact F7.step⟩
def ahS (w:World) (d v:Nat) (Cv Lv:Value) (V:aB) (h:pK w d v Cv Lv V) (l:5<V.C.length) (m:V.C.length≤256) (hL:V.L.length≤600000000) (g: ∀ f ∈ bP V,gU V f) (c: ∀ f ∈ bP (zN V),gU (zN V) f):
  Calls Tryz.prog 31 #[.pointer (some ⟨d,0,none⟩)] w fun e o=>e= .returned (.tuple #[])∧ ∃ a b,dF w o v Cv Lv a b (uV V):=by
 have i:=ah (I4 _ d v Cv Lv V h);have c0:=h.c0;have j:=ah (axl w v Cv Lv V h.bH l m hL g c);clear h g c
 go_enter Tryz.func31,Tryz.ntmps31
 go_wp2_with fail
 refine i.mono ?_;rintro e q ⟨rfl,rfl⟩
 go_wp2_with fail
 refine j.mono ?_;rintro e s ⟨rfl,a,b,k⟩;have p:=ah k;clear k j i;go_wp2
 go_end0
 exact ⟨rfl,a,b,uh p⟩
end
end Go.Proofs.YtknjjjenklfeoaaGreatDoor
