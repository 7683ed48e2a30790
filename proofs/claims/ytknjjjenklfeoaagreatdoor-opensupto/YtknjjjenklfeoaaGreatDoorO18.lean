import Derived.Test.YtknjjjenklfeoaaGreatDoorO17
set_option maxHeartbeats 8000000
set_option maxRecDepth 100000
set_option linter.all false
namespace Go.Proofs.YtknjjjenklfeoaaGreatDoor
open Go.RowKit
attribute [local go_sem ↓] dw fP fZ kS mP mV jJ kJ jY jU lD lH kQ ku kT mQ mW lZ ny jG qc qP qQ qF
attribute [local go_sem] dK fO fV gK gy aV kX mG mM mJ mF gI jK kH jX kZ kW iJ jW lq lC lu kF jc jd lY l7 kG kY mO nI lT mD nH qh qM qO qN qL
attribute [local go_sem] pW pV
def afl (parts:Array (Nat × Value)):Sem Value:=Instr.buildSlice 260 2 parts
theorem am1 (parts:Array (Nat × Value)):Instr.buildSlice 260 2 parts=afl parts:=rfl
theorem asX {w:World} {m n:Nat}:(afl #[(0,.int .u16 (m:Nat)),(1,.int .u16 (n:Nat))]).run Tryz.prog w= .ok (.slice (some ⟨w.heap.size,0,none⟩) 2 2) (w.alloc (.cells (tv [m,n]).toArray 167)):=
 acS w 260 167 1 (.int .u16 0) (.int .u16 (m:Nat)) (.int .u16 (n:Nat)) Tryz.underlying260 kr om om (by rfl) (by rfl)
attribute [local go_sem ↓] am1
attribute [local go_sem] asX
def MI (V:aB) (p:rV):List Nat:=p.tab.set p.oM ((dG (aJ V.C) 2).getD 1 0+32768)
def rD (V:aB) (p:rV) (data:aj):aB:=fJ (bT (bT (wR V (dG (aJ V.C) 2)) ((dG (aJ V.C) 2).getD 0 0) (bytesOf (MI V p))) ((dG (aJ V.C) 2).getD 1 0) data)
def uD (V:aB) (p:rV) (data:aj):aB:=fJ (Ce (rD V p data) p.first p.AA ((dG (aJ V.C) 2).getD 0 0+32768))
theorem aju {w:World} {b:Nat} {p:rV} {t:TypeId} {fr:Nat × Nat} (h:w.heap[b]? = some (.cells (iP p).toArray t fr)):w.rangeAt b 5 (tv p.tab):=fun j v hv=>by
 rw [aG h,bW,iP,show 5+j=j+5 by omega];simp only [EN];exact hv
theorem ave (w:World) (v:Nat) (Cv Lv:Value) (V V':aB) (h:aN w v Cv Lv V) (h5:5<V.C.length) (hC:V.C.length≤256) (hL:V.L.length≤500000000) (p:rV) (hpt:p.tab.length=32) (ahH: ∀ i,p.tab.getD i 0<65536) (hpf:p.first<V.C.length) (hpi:p.AA<32) (hpj:p.oM<32) (data:aj) (hd:data.length=64)
  (JU:2≤(dG (aJ V.C) 2).length→Nh v (uD V p data) V' [p.second,p.block]):
  Calls Tryz.prog 106 #[.pointer (some ⟨v,0,none⟩),.agg (iP p).toArray,.agg (cv data).toArray] w fun e w'=>
   if 2≤(dG (aJ V.C) 2).length then e= .returned (.int .i64 0)∧ ∃ C1 L1,bZ w w' v Cv Lv C1 L1 V' else e= .returned (.int .i64 5)∧aC w w':=by
 have E0:=((Env.start h).lay (.cells (iP p).toArray 171)).lay (.cells (cv data).toArray 38);simp only [jB] at E0;have Hf:=ah (Xl _ v Cv Lv V E0.at' om 2 om);have HB:Hid (aC w ((w.alloc (.cells (iP p).toArray 171)).alloc (.cells (cv data).toArray 38))):=((bG _ w).alloc (aP _) _).alloc sm _;have IE:=Xj (aJ V.C) 2;have SV:=(NY (aJ V.C) 2 256).1;have H0:Hid (MI V p=p.tab.set p.oM ((dG (aJ V.C) 2).getD 1 0+32768)):=rfl;have H1:Hid (rD V p data=fJ (bT (bT (wR V (dG (aJ V.C) 2)) ((dG (aJ V.C) 2).getD 0 0) (bytesOf (MI V p))) ((dG (aJ V.C) 2).getD 1 0) data)):=rfl;have H2:Hid (uD V p data=fJ (Ce (rD V p data) p.first p.AA ((dG (aJ V.C) 2).getD 0 0+32768))):=rfl;have E0:=ah E0;change (dG (aJ V.C) 2).length≤2 at SV;generalize dG (aJ V.C) 2=F at*
 by_cases hF:2≤F.length
 ·simp only [au hF];have hlt:=ahW om IE;have hF1:F.length=2:=om;have JU:=JU hF;have hs0:F.getD 0 0<256:=by rw [aK,bI om];exact IE _ (oP _)
  have hb0:F.getD 1 0<256:=by rw [aK,bI om];exact IE _ (oP _)
  have hcC:=afJ V F om;have hcL:=afK V F;have HC:Hid (∀ W C1 L1 x,aN W v C1 L1 V→W.ownsRow 0 3 1 x F.length (iv F)→_):=fun W C1 L1 x hW hx=>afM W v C1 L1 V hW F om om hlt IE x hx om om om;generalize wR V F=V1 at*;generalize hss:F.getD 0 0=sn at*;generalize hbb:F.getD 1 0=b at*;rw [uh H0] at H1;have hTl:(p.tab.set p.oM (b+32768)).length=32:=by rw [rG];exact hpt
  have ahc:=akj ahH p.oM (b+32768) om;have hTs:=YS p.tab p.oM (b+32768);generalize p.tab.set p.oM (b+32768)=T2 at*;have hbl:=bytesOf_length T2;have HT:Hid (∀ W,_):=fun W=>adk W T2 hTl ahc;generalize bytesOf T2=tc at*;have TK:=yN V1 sn tc;have hpL:=tZ V1 sn tc;have HP1:Hid (∀ W C1 L1,aN W v C1 L1 V1→_):=fun W C1 L1 hW=>FK W v C1 L1 V1 hW sn om tc hbl om om;generalize bT V1 sn tc=V2 at*;have avR:=yN V2 b data;have avS:=tZ V2 b data;have HP2:Hid (∀ W C1 L1,aN W v C1 L1 V2→_):=fun W C1 L1 hW=>FK W v C1 L1 V2 hW b om data hd om om;generalize bT V2 b data=V3 at*;have hf2:=yD V3;have NP:(fJ V3).C.length=V3.C.length:=by rw [zK]
  rw [← uh H1] at hf2 NP;have HF2:Hid (∀ W C1 L1,aN W v C1 L1 V3→_):=fun W C1 L1 hW=>zL W v C1 L1 V3 hW om;rw [← uh H1] at HF2;generalize rD V p data=V4 at*;have HN:Hid (∀ W C1 L1,aN W v C1 L1 V4→_):=fun W C1 L1 hW=>ajC W v C1 L1 V4 hW p.first p.AA (sn+32768) om hpi om om om;have hn4:=tZ V4 p.first (bytesOf ((numsOf (cl V4.C p.first)).set p.AA (sn+32768)));change (Ce V4 p.first p.AA (sn+32768)).L.length≤_ at hn4;generalize hV5:Ce V4 p.first p.AA (sn+32768)=V5 at*;have HF4:Hid (∀ W C1 L1,aN W v C1 L1 V5→_):=fun W C1 L1 hW=>zL W v C1 L1 V5 hW om;rw [← uh H2] at HF4;generalize uD V p data=V6 at*;have HO1:Hid (∀ W,_):=fun W=>XK b om W;have HO2:Hid (∀ W,_):=fun W=>XK sn om W;have RH:=ah JU;have hji:(p.oM:Int)<32:=om;clear JU h H0 H1 H2 hV5 IE hlt ahH ahc
  go_enter Tryz.func106,Tryz.ntmps106
  go_wp2_with fail
  refine Hf.mono ?_;rintro e w1 ⟨x,rfl,hx,hb1⟩;obtain ⟨g,cap,rfl,_⟩:=gB hx om;have E1:=E0.later hb1;have cx0:w1.cell? ⟨g,0,none⟩=some (.int .i64 (sn:Nat)):=by rw [← hss];exact Xb hx 0 om
  have cx1:w1.cell? ⟨g,1,none⟩=some (.int .i64 (b:Nat)):=by rw [← hbb];exact Xb hx 1 om
  have Hx:=ah (Ci hx (nN _));have E1:=ah E1;clear hx hb1 Hf E0 HB;rw [hF1] at HC Hx ⊢;go_wp2
  go_quiet (fail)
  have E2:=E1.drewN nq;have l1:=sV (n:=32) (aju E2.o1) (by rw [pR,hpt]);have l2:=qX (n:=32) (aju E2.o1) (by rw [pR,hpt]);have Hx2:Hid ((w1.drewN nq).ownsRow 0 3 1 (.slice (some ⟨g,0,none⟩) 2 cap) 2 (iv F)):=uh Hx;have E2:=ah E2;clear E1 cx0 cx1 Hx;generalize w1.drewN nq=w2 at*;have E3:=E2.lay (.cells (tv p.tab).toArray 169);have Hx3:=ah (Hx2.alloc (.cells (tv p.tab).toArray 169));have d1:(w2.alloc (.cells (tv p.tab).toArray 169)).drew.cell? ⟨w.heap.size,2,none⟩=some (.int .i64 (p.oM:Nat)):=(aG E3.drew.o2 2).trans rfl;have d2:(w2.alloc (.cells (tv p.tab).toArray 169)).drew.cell? ⟨w2.heap.size,p.oM,none⟩=some (.int .u16 ((p.tab.getD p.oM 0:Nat):Int)):=by
   rw [aG E3.drew.o0,bW,Oy _ _ om]
  have f1:=eG E3.drew.o0;have aoZ:(tv p.tab).set p.oM (Value.int .u16 ((b:Int)+32768))=tv T2:=by rw [hTs];rfl
  have E4:=ah ((E2.lay (.cells (tv T2).toArray 169)).drew);have Hx4:Hid ((w2.alloc (.cells (tv T2).toArray 169)).drew.ownsRow 0 3 1 (.slice (some ⟨g,0,none⟩) 2 cap) 2 (iv F)):=Hx2.alloc _;clear E3 Hx3 hTs;generalize p.tab.getD p.oM 0=old at*;go_wp2
  go_region_law (
   go_simp;go_at_call 161;refine (uh HO1 _).mono ?_;rintro e w3 ⟨rfl,rfl⟩)
  all_goals
   clear d1 d2 f1 l1 l2 HO1 aoZ;generalize (w2.alloc (.cells (tv T2).toArray 169)).drew=w3 at*;generalize w2.heap.size=bt at*
   go_wp2_with fail
   refine (uh HC w3 _ _ _ E4.at' Hx4).mono ?_;rintro e w4 ⟨rfl,C4,L4,hS4⟩;have E5:=E4.fQ hS4;have l1:=fD E5.drew.o0 (n:=32) (by rw [pR,hTl]);have l2:=fG E5.drew.o0 (n:=32) (by rw [pR,hTl]);have E5:=ah E5;clear hS4 E4 Hx4 HC Hx2 E2;go_wp2
   go_region_law (first
    | (
     go_simp;go_at_call 163;refine (uh HT _).mono ?_;rintro e w5 ⟨rfl,hb5⟩;have E6:=ah (E5.drew.later hb5);clear hb5)
    | (
     go_simp;go_at_call 70;refine (uh HP1 _ _ _ E6.at').mono ?_;rintro e w6 ⟨rfl,C6,L6,hS6⟩;have E7:=ah (E6.fQ hS6);clear hS6))
   all_goals
    have l3:=gZ E7.drew.o1 hd;have l4:=gY E7.drew.o1 hd;clear E6 E5 l1 l2 HT HP1;go_wp2
    go_region_law (
     go_simp;go_at_call 70;refine (uh HP2 _ _ _ E7.drew.at').mono ?_;rintro e w7 ⟨rfl,C7,L7,hS7⟩;have E8:=ah (E7.drew.fQ hS7);clear hS7)
    all_goals
     clear l3 l4 HP2 E7
     go_wp2_with fail
     refine (uh HF2 _ _ _ E8.at').mono ?_;rintro e w8 ⟨rfl,C8,L8,hS8⟩;have E9:=E8.fQ hS8;have d1:w8.drew.cell? ⟨w.heap.size,0,none⟩=some (.int .i64 (p.first:Nat)):=(aG E9.drew.o2 0).trans rfl;have d2:w8.drew.cell? ⟨w.heap.size,1,none⟩=some (.int .i64 (p.AA:Nat)):=(aG E9.drew.o2 1).trans rfl;have E9:=ah E9;clear hS8 E8 HF2;go_wp2
     go_region_law (first
      | (
       go_simp;go_at_call 161;refine (uh HO2 _).mono ?_;rintro e w9 ⟨rfl,rfl⟩)
      | (
       go_simp;go_at_call 164;refine (uh HN _ _ _ E9.drew.at').mono ?_;rintro e w9 ⟨rfl,C9,L9,hS9⟩;have E10:=ah (E9.drew.fQ hS9);clear hS9))
     all_goals
      clear E9 d1 d2 HN HO2
      go_wp2_with fail
      refine (uh HF4 _ _ _ E10.at').mono ?_;rintro e w10 ⟨rfl,C10,L10,hS10⟩;have E11:=E10.fQ hS10;have d3:w10.cell? ⟨w.heap.size,3,none⟩=some (.int .u16 (p.second:Nat)):=(aG E11.o2 3).trans rfl;have d4:w10.cell? ⟨w.heap.size,4,none⟩=some (.int .u16 (p.block:Nat)):=(aG E11.o2 4).trans rfl;have E12:=E11.lay (.cells (tv [p.second,p.block]).toArray 167);have Hm:=ah (afQ (w10.alloc (.cells (tv [p.second,p.block]).toArray 167)) (some ⟨w10.heap.size,0,none⟩) 2 2);have E13:=E12.lay (.cells #[.slice (some ⟨w10.heap.size,0,none⟩) 2 2] 260);simp only [jB] at E13;have Hg:=ah (uh RH _ C10 L10 (w10.heap.size+1) w10.heap.size E13.at' E13.o0 E13.o1 (E13.qg (w10.heap.size,.cells (tv [p.second,p.block]).toArray 167 (0,0)) sm).2.2);have E13:=ah E13;clear hS10 E11 E12 E10 HF4 RH
      go_wp2_with fail
      refine Hm.mono ?_;rintro e w11 ⟨rfl,rfl⟩;simp only [jB]
      go_wp2_with fail
      refine Hg.mono ?_;rintro e w12 ⟨rfl,C12,L12,hS12⟩;have E14:=ah (E13.fQ hS12).step;go_wp2;go_ret;exact ⟨rfl,C12,L12,uh E14⟩
 ·simp only [ak hF];have hF0:((F.length:Nat):Int)<2:=om
  go_enter Tryz.func106,Tryz.ntmps106
  go_wp2_with fail
  refine Hf.mono ?_;rintro e w1 ⟨x,rfl,hx,hb1⟩;obtain ⟨g,cap,rfl⟩:=iq hx;have HB1:=ah (HB.trans (hb1.mono HB.size));go_wp2;go_ret;exact ⟨rfl,uh HB1⟩
end Go.Proofs.YtknjjjenklfeoaaGreatDoor
