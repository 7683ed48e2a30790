import Derived.Test.YtknjjjenklfeoaaGreatDoorU15
set_option maxHeartbeats 8000000
set_option maxRecDepth 100000
set_option linter.all false
namespace Go.Proofs.YtknjjjenklfeoaaGreatDoor
open Go.RowKit
attribute [local go_sem ↓] dw fP fV kU mZ nC jR kP kJ kF lG lI kR kQ kV ng nD l9 nJ jE pW qM qO qA
attribute [local go_sem] dM fO fU gW gB aV kY mP mW mQ mO gX jT kN kH lq kX iM kG lu lD lC kM jc jd nH nK kW kZ mX nT mV mM nN qc qI qK qJ qH
attribute [local go_sem] pU pR
def agZ (parts:Array (Nat × Value)):Sem Value:=Instr.buildSlice 260 2 parts
def ao9 (parts:Array (Nat × Value)):Instr.buildSlice 260 2 parts=agZ parts:=rfl
def avl {w:World} {m n:Nat}:(agZ #[(0,.int .u16 (m:Nat)),(1,.int .u16 (n:Nat))]).run Tryz.prog w= .ok (.slice (some ⟨w.heap.size,0,none⟩) 2 2) (w.alloc (.cells (tv [m,n]).toArray 167)):=
 aes w 260 167 1 (.int .u16 0) (.int .u16 (m:Nat)) (.int .u16 (n:Nat)) Tryz.underlying260 kr om om (by rfl) (by rfl)
attribute [local go_sem ↓] ao9
attribute [local go_sem] avl
def NS (V:aB) (p:sO):List Nat:=p.tab.set p.oJ ((dD (aJ V.C) 2).getD 1 0+32768)
def rD (V:aB) (p:sO) (data:aj):aB:=fF (bQ (bQ (xG V (dD (aJ V.C) 2)) ((dD (aJ V.C) 2).getD 0 0) (bytesOf (NS V p))) ((dD (aJ V.C) 2).getD 1 0) data)
def tK (V:aB) (p:sO) (data:aj):aB:=fF (Dt (rD V p data) p.first p.BH ((dD (aJ V.C) 2).getD 0 0+32768))
def alo {w:World} {b:Nat} {p:sO} {t:TypeId} {fr:Nat × Nat} (h:w.heap[b]? = some (.cells (jk p).toArray t fr)):w.rangeAt b 5 (tv p.tab):=fun j v hv=>by
 rw [aF h,bZ,jk,show 5+j=j+5 by omega];simp only [Gg];exact hv
def axB (w:World) (v:Nat) (Cv Lv:Value) (V V':aB) (h:aP w v Cv Lv V) (h5:5<V.C.length) (hC:V.C.length≤256) (hL:V.L.length≤500000000) (p:sO) (M:p.tab.length=32) (ab: ∀ i,p.tab.getD i 0<65536) (bj:p.first<V.C.length) (aL:p.BH<32) (bl:p.oJ<32) (data:aj) (S:data.length=64)
  (H:2≤(dD (aJ V.C) 2).length→Oq v (tK V p data) V' [p.second,p.block]):
  Calls Tryz.prog 106 #[.pointer (some ⟨v,0,none⟩),.agg (jk p).toArray,.agg (cv data).toArray] w fun e w'=>
   if 2≤(dD (aJ V.C) 2).length then e= .returned (.int .i64 0)∧ ∃ a c,dF w w' v Cv Lv a c V' else e= .returned (.int .i64 5)∧aC w w':=by
 have q:=((Env.start h).lay (.cells (jk p).toArray 171)).lay (.cells (cv data).toArray 38);simp only [jV] at q;have T:=ah (YG _ v Cv Lv V q.at' om 2 om);have U:Hid (aC w ((w.alloc (.cells (jk p).toArray 171)).alloc (.cells (cv data).toArray 38))):=((bG _ w).alloc (aO _) _).alloc sm _;have u:=YD (aJ V.C) 2;have Ux:=(Pg (aJ V.C) 2 256).1;have H0:Hid (NS V p=p.tab.set p.oJ ((dD (aJ V.C) 2).getD 1 0+32768)):=rfl;have H1:Hid (rD V p data=fF (bQ (bQ (xG V (dD (aJ V.C) 2)) ((dD (aJ V.C) 2).getD 0 0) (bytesOf (NS V p))) ((dD (aJ V.C) 2).getD 1 0) data)):=rfl;have H2:Hid (tK V p data=fF (Dt (rD V p data) p.first p.BH ((dD (aJ V.C) 2).getD 0 0+32768))):=rfl;have q:=ah q;change (dD (aJ V.C) 2).length≤2 at Ux;generalize dD (aJ V.C) 2=F at*
 by_cases X:2≤F.length
 ·simp only [au X];have ad:=ajL om u;have aM:F.length=2:=om;have H:=H X;have bm:F.getD 0 0<256:=by rw [aN,bJ om];exact u _ (o9 _)
  have bn:F.getD 1 0<256:=by rw [aN,bJ om];exact u _ (o9 _)
  have bo:=aho V F om;have bp:=ahp V F;have Y:Hid (∀ W a c x,aP W v a c V→W.ownsRow 0 3 1 x F.length (iv F)→_):=fun W a c x d j=>ahr W v a c V d F om om ad u x j om om om;generalize xG V F=y at*;generalize aR:F.getD 0 0=f at*;generalize a0:F.getD 1 0=b at*;rw [uh H0] at H1;have N:(p.tab.set p.oJ (b+32768)).length=32:=by rw [rV];exact M
  have ae:=ame ab p.oJ (b+32768) om;have af:=aah p.tab p.oJ (b+32768);generalize p.tab.set p.oJ (b+32768)=T2 at*;have a1:=bytesOf_length T2;have HT:Hid (∀ W,_):=fun W=>aeU W T2 N ae;generalize bytesOf T2=I at*;have U8:=zL y f I;have bq:=uH y f I;have ag:Hid (∀ W a c,aP W v a c y→_):=fun W a c d=>GX W v a c y d f om I a1 om om;generalize bQ y f I=z at*;have bs:=zL z b data;have bw:=uH z b data;have ai:Hid (∀ W a c,aP W v a c z→_):=fun W a c d=>GX W v a c z d b om data S om om;generalize bQ z b data=A at*;have a2:=zn A;have OV:(fF A).C.length=A.C.length:=by rw [zX]
  rw [← uh H1] at a2 OV;have O:Hid (∀ W a c,aP W v a c A→_):=fun W a c d=>Az W v a c A d om;rw [← uh H1] at O;generalize rD V p data=r at*;have HN:Hid (∀ W a c,aP W v a c r→_):=fun W a c d=>aly W v a c r d p.first p.BH (f+32768) om aL om om om;have a3:=uH r p.first (bytesOf ((numsOf (cl r.C p.first)).set p.BH (f+32768)));change (Dt r p.first p.BH (f+32768)).L.length≤_ at a3;generalize a4:Dt r p.first p.BH (f+32768)=V5 at*;have P:Hid (∀ W a c,aP W v a c V5→_):=fun W a c d=>Az W v a c V5 d om;rw [← uh H2] at P;generalize tK V p data=V6 at*;have al:Hid (∀ W,_):=fun W=>Y9 b om W;have an:Hid (∀ W,_):=fun W=>Y9 f om W;have TF:=ah H;have bx:(p.oJ:Int)<32:=om;clear H h H0 H1 H2 a4 u ad ab ae
  go_enter Tryz.func106,Tryz.ntmps106
  go_wp2_with fail
  refine T.mono ?_;rintro e B ⟨x,rfl,j,E⟩;obtain ⟨g,cap,rfl,_⟩:=gy j om;have J:=q.later E;have a5:B.cell? ⟨g,0,none⟩=some (.int .i64 (f:Nat)):=by rw [← aR];exact Yv j 0 om
  have a6:B.cell? ⟨g,1,none⟩=some (.int .i64 (b:Nat)):=by rw [← a0];exact Yv j 1 om
  have Hx:=ah (Ba j (lX _));have J:=ah J;clear j E T q U;rw [aM] at Y Hx ⊢;go_wp2
  go_quiet (fail)
  have m:=J.drewN nq;have Z:=sU (n:=32) (alo m.o1) (by rw [ql,M]);have l2:=qU (n:=32) (alo m.o1) (by rw [ql,M]);have Q:Hid ((B.drewN nq).ownsRow 0 3 1 (.slice (some ⟨g,0,none⟩) 2 cap) 2 (iv F)):=uh Hx;have m:=ah m;clear J a5 a6 Hx;generalize B.drewN nq=s at*;have K:=m.lay (.cells (tv p.tab).toArray 169);have a7:=ah (Q.alloc (.cells (tv p.tab).toArray 169));have d1:(s.alloc (.cells (tv p.tab).toArray 169)).drew.cell? ⟨w.heap.size,2,none⟩=some (.int .i64 (p.oJ:Nat)):=(aF K.drew.o2 2).trans rfl;have d2:(s.alloc (.cells (tv p.tab).toArray 169)).drew.cell? ⟨s.heap.size,p.oJ,none⟩=some (.int .u16 ((p.tab.getD p.oJ 0:Nat):Int)):=by
   rw [aF K.drew.o0,bZ,PW _ _ om]
  have f1:=eY K.drew.o0;have a8:(tv p.tab).set p.oJ (Value.int .u16 ((b:Int)+32768))=tv T2:=by rw [af];rfl
  have E4:=ah ((m.lay (.cells (tv T2).toArray 169)).drew);have ao:Hid ((s.alloc (.cells (tv T2).toArray 169)).drew.ownsRow 0 3 1 (.slice (some ⟨g,0,none⟩) 2 cap) 2 (iv F)):=Q.alloc _;clear K a7 af;generalize p.tab.getD p.oJ 0=bA at*;go_wp2
  go_region_law (
   go_simp;go_at_call 161;refine (uh al _).mono ?_;rintro e w3 ⟨rfl,rfl⟩)
  all_goals
   clear d1 d2 f1 Z l2 al a8;generalize (s.alloc (.cells (tv T2).toArray 169)).drew=w3 at*;generalize s.heap.size=bt at*
   go_wp2_with fail
   refine (uh Y w3 _ _ _ E4.at' ao).mono ?_;rintro e w4 ⟨rfl,C4,L4,aq⟩;have t:=E4.gG aq;have Z:=fH t.drew.o0 (n:=32) (by rw [ql,N]);have l2:=fM t.drew.o0 (n:=32) (by rw [ql,N]);have t:=ah t;clear aq E4 ao Y Q m;go_wp2
   go_region_law (first
    | (
     go_simp;go_at_call 163;refine (uh HT _).mono ?_;rintro e w5 ⟨rfl,ar⟩;have E6:=ah (t.drew.later ar);clear ar)
    | (
     go_simp;go_at_call 70;refine (uh ag _ _ _ E6.at').mono ?_;rintro e w6 ⟨rfl,C6,L6,av⟩;have D:=ah (E6.gG av);clear av))
   all_goals
    have l3:=iD D.drew.o1 S;have l4:=iC D.drew.o1 S;clear E6 t Z l2 HT ag;go_wp2
    go_region_law (
     go_simp;go_at_call 70;refine (uh ai _ _ _ D.drew.at').mono ?_;rintro e w7 ⟨rfl,C7,L7,aw⟩;have E8:=ah (D.drew.gG aw);clear aw)
    all_goals
     clear l3 l4 ai D
     go_wp2_with fail
     refine (uh O _ _ _ E8.at').mono ?_;rintro e w8 ⟨rfl,C8,L8,ax⟩;have o:=E8.gG ax;have d1:w8.drew.cell? ⟨w.heap.size,0,none⟩=some (.int .i64 (p.first:Nat)):=(aF o.drew.o2 0).trans rfl;have d2:w8.drew.cell? ⟨w.heap.size,1,none⟩=some (.int .i64 (p.BH:Nat)):=(aF o.drew.o2 1).trans rfl;have o:=ah o;clear ax E8 O;go_wp2
     go_region_law (first
      | (
       go_simp;go_at_call 161;refine (uh an _).mono ?_;rintro e w9 ⟨rfl,rfl⟩)
      | (
       go_simp;go_at_call 164;refine (uh HN _ _ _ o.drew.at').mono ?_;rintro e w9 ⟨rfl,C9,L9,az⟩;have R:=ah (o.drew.gG az);clear az))
     all_goals
      clear o d1 d2 HN an
      go_wp2_with fail
      refine (uh P _ _ _ R.at').mono ?_;rintro e k ⟨rfl,a9,ba,aa⟩;have G:=R.gG aa;have d3:k.cell? ⟨w.heap.size,3,none⟩=some (.int .u16 (p.second:Nat)):=(aF G.o2 3).trans rfl;have d4:k.cell? ⟨w.heap.size,4,none⟩=some (.int .u16 (p.block:Nat)):=(aF G.o2 4).trans rfl;have aD:=G.lay (.cells (tv [p.second,p.block]).toArray 167);have Hm:=ah (ahv (k.alloc (.cells (tv [p.second,p.block]).toArray 167)) (some ⟨k.heap.size,0,none⟩) 2 2);have l:=aD.lay (.cells #[.slice (some ⟨k.heap.size,0,none⟩) 2 2] 260);simp only [jV] at l;have Hg:=ah (uh TF _ a9 ba (k.heap.size+1) k.heap.size l.at' l.o0 l.o1 (l.qo (k.heap.size,.cells (tv [p.second,p.block]).toArray 167 (0,0)) sm).2.2);have l:=ah l;clear aa G aD R P TF
      go_wp2_with fail
      refine Hm.mono ?_;rintro e bB ⟨rfl,rfl⟩;simp only [jV]
      go_wp2_with fail
      refine Hg.mono ?_;rintro e bE ⟨rfl,bb,bd,aE⟩;have bf:=ah (l.gG aE).step;go_wp2;go_ret;exact ⟨rfl,bb,bd,uh bf⟩
 ·simp only [ak X];have bL:((F.length:Nat):Int)<2:=om
  go_enter Tryz.func106,Tryz.ntmps106
  go_wp2_with fail
  refine T.mono ?_;rintro e B ⟨x,rfl,j,E⟩;obtain ⟨g,cap,rfl⟩:=gQ j;have bh:=ah (U.trans (E.mono U.size));go_wp2;go_ret;exact ⟨rfl,uh bh⟩
end Go.Proofs.YtknjjjenklfeoaaGreatDoor
