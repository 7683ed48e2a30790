import Derived.Test.YtknjjjenklfeoaaGreatDoorO39
import Derived.Test.YtknjjjenklfeoaaGreatDoorO38
set_option maxHeartbeats 8000000
set_option maxRecDepth 100000
set_option linter.all false
namespace Go.Proofs.YtknjjjenklfeoaaGreatDoor
open Go.RowKit
section
attribute [local go_sem ↓] dw fP fZ J7
attribute [local go_sem] dK fO fV gK gy aV KG jc jd
def JD (p bo d:Nat) (s:ByteArray) (w':World):Prop:=w'.cell? ⟨p,0,none⟩=some (.pointer (some ⟨d,0,none⟩))∧w'.cell? ⟨bo,2,none⟩=some (.string s)
theorem atA (w:World) (p:Nat) (P:gW) (S:Nat→Prop) (N0:Nat) (E:List aX) (h:dO w p P S) (hst:pF P N0 E) (hL:P.V.L.length≤400000000) (o:nZ) (hn:o.name.size≤maxLen) (hkd:o.kind=3):
  Calls Tryz.prog 63 #[.pointer (some ⟨p,0,none⟩),.agg (dH o).toArray] w fun e w'=>e= .returned (.bool true)∧ ∃ P' N1 E',pF P' N1 E'∧ ∃ S',vK w w' p P S P' S':=by
 have hg:=hst.bP;obtain ⟨k1,k2,k3,k4,k5⟩:=hg.look;have h7:=hg.file.seven;have qI:=hg.file.most;have pY:=hg.file.lens;have hr0:(⟨N0,0,[]⟩:bC) ∈ aH N0 E:=by simp [aH]
 have hin:=hg.sound.JZ hr0;have hcase:=hg.aub o.name;have hrl:(aH N0 E).length≤5:=by have:=hg.file.jT.len;simp [aH];omega
 have SX:gJ P.V (num (cl P.V.C 0) 6):=by rw [hg.Cc];exact hg.sound.Di hg.Ut
 have hDl:P.D.L.length≤4:=by rw [← hst.nS,LC];exact hg.file.jT.len
 have hb0:aC w (w.alloc (.cells (dH o).toArray 80)):=fC;have hbx0:(w.alloc (.cells (dH o).toArray 80)).heap[w.heap.size]? = some (.cells (dH o).toArray 80 (0,0)):=aW _ _;have c0:=(h.below hb0).c0;have H:=ah h;have HG:=ah hg;have HS:=ah hst;have B0:=ah hb0;have X0:=ah hbx0;have HC:=ah hcase;have hft:=fun k hk=>H.lt k (H.BN k (ay hk));have Nc:=ah hft;have Hk:=ah hkd;have O7:=ah SX;clear h hg hb0 hbx0 hcase hft hst hkd SX
 go_enter Tryz.func63,Tryz.ntmps63
 go_wp2_with fail
 generalize w.alloc (.cells (dH o).toArray 80)=w0 at*;refine (Nv w0 _ _ _ _ _ (H.below B0).iV om om).mono ?_;rintro e w1 ⟨fv,rfl,rf1,b1⟩;have B1:=ah (B0.trans (b1.mono B0.size));have X1:=ah ((b1.block _ (aO X0)).trans X0);have R1:Hid (lK w1 fv P.V.C):=⟨Ci rf1 (nN _),pY⟩;clear B0 X0 rf1 b1 c0
 go_wp2_with fail
 refine (NV w1 fv P.V.C R1 om).mono ?_;rintro e w2 ⟨rfl,fl,fr,hLk⟩;have B2:=ah (B1.trans (hLk.below.mono B1.size));have X2:=ah ((hLk.below.block _ (aO X1)).trans X1);have F2:=ah hLk.at';have hfr: ∀ g,fl.ownBlock=some g→w.heap.size≤g:=fun g hg=>jZ B1.size (hLk.fresh g hg);have KZ:=ah hfr;have hfs:w.heap.size≤w1.heap.size:=B1.size;have c1:=(H.below B2).c1;have hf2:w1.heap.size<w2.heap.size:=aO hLk.at'.aF;have hs2:w.heap.size≤w2.heap.size:=B2.size;clear hLk B1 X1 R1 hfr;generalize w1.heap.size=f at*
 go_wp2_with fail
 refine (V7 w2 P.y P.Pv P.D (H.below B2).ref om).mono ?_;rintro e w3 ⟨Qv,rfl,hD3,hQ3,b3⟩;have B3:=ah (B2.trans (b3.mono B2.size));have X3:=ah ((b3.block _ (aO X2)).trans X2);have F3:=ah (F2.below b3);have D3:=ah hD3;have hz3:w2.heap.size<w3.heap.size:=hD3.lt;have hQ: ∀ g,Qv.ownBlock=some g→w.heap.size≤g∧g<w3.heap.size:=fun g hg=>⟨by have:=hQ3 g hg;omega,(hD3.row.lt g hg).2⟩;have Zu:Hid (∀ g,fl.ownBlock=some g→g<w2.heap.size):=fun g hg=>(F2.fF.lt g hg).2;have Zv:Hid (∀ g,fr.ownBlock=some g→g<w2.heap.size):=fun g hg=>(F2.o8.lt g hg).2;have HQ:=ah hQ;have HQ3:=ah hQ3;have ck:w3.cell? ⟨w.heap.size,0,none⟩=some (.int .i64 3):=by rw [aG (uh X3) 0,bW];show some (Value.int .i64 o.kind)=_;rw [uh Hk]
 clear hD3 hQ3 b3 hQ X2 F2 c1 B2;generalize w2.heap.size=z at*
 go_wp2_with fail
 have hT:JD p w.heap.size P.d o.name w3.drew:=⟨(H.below B3.drew).c0,(aG (w:=w3) X3 2).trans rfl⟩;have Hw:=ah (aob w3.drew P.d P.v P.Cv P.Lv P.V (H.below B3.drew).iV om qI om O7 o.name hn);generalize hR:xg P.V o.name=R at*;have HR:=ah hR;clear hR;refine yT (JD p w.heap.size P.d o.name) 7 kr ?_;refine tk 0 hT ?_;refine tk 1 hT ?_;refine tk 2 hT ?_;refine tk 3 hT ?_;refine tk 4 hT ?_;refine tk 5 hT ?_;refine wo 6 fun K6 hK6=> ?_;go_simp;go_at_call 17;refine Hw.mono ?_;rintro e w4 ⟨rfl,C4,L4,hS4⟩;have S4:Hid (bZ w3 w4 P.v P.Cv P.Lv C4 L4 R.1):=⟨hS4.at',⟨hS4.kept.os,hS4.kept.tape,hS4.kept.output,hS4.kept.size,hS4.kept.block⟩,hS4.new⟩;have hnf: ∀ k,w.heap.size≤k→ ¬ eX P.v P.Cv P.Lv k:=fun k hk hf=>by have:=uh Nc k hf;omega
 have X4:=ah (S4.kept.aF (hnf _ (aP _)) X3);have F4:=ah (F3.kept S4.kept (hnf _ hfs) (fun g hg=>hnf g (uh KZ g hg)) (fun g hg=>by obtain ⟨cs,fr',hb⟩:=KE F3.o8 hg;exact (H.below B3).Ny hb dc dc dc));have D4:=ah (D3.kept S4.kept (hnf _ hs2) (fun g hg=>hnf g (uh HQ g hg).1));have apx:w3.heap.size≤w4.heap.size:=S4.kept.size;have c04:=((H.below B3).step S4).c0;have hT4:JD p w.heap.size P.d o.name w4:=⟨c04,(aG X4 2).trans rfl⟩;clear hS4 hnf;refine hK6 _ _ (ay hT4) ?_;refine wo 7 fun K7 hK7=> ?_;go_simp;refine hK7 _ _ (aA rfl) ?_;refine tu kr ?_ _;clear hT hT4 c04 Hw X3 F3 D3 ck;have cn4:w4.cell? ⟨w.heap.size,2,none⟩=some (.string o.name):=(aG X4 2).trans rfl;have Hw:=ah (asx w4 z Qv P.D D4 om o.name hn);rw [HS.nS] at HC;generalize hR':Kz P.D o.name=R' at*;clear hR'
 go_wp2_with fail
 refine Hw.mono ?_;rintro e w5 ⟨rfl,Q5,hS5⟩;have hk5:Kept (fun x=>x=z∨Qv.ownBlock=some x) w4 w5:=hS5.kept;have D5:=ah hS5.at';have HQ5:Hid (∀ g,Q5.ownBlock=some g→w.heap.size≤g):=fun g hg=>by
  rcases hS5.new g hg with x | x
  ·exact (uh HQ g x).1
  ·have:=B3.size;omega
 have F5:=ah (F4.kept hk5 (fun x=>by
  rcases x with x | x
  ·omega
  ·have:=uh HQ3 _ x;omega) (fun g hg x=>by
  have:=uh Zu g hg
  rcases x with x | x
  ·omega
  ·have:=uh HQ3 _ x;omega) (fun g hg x=>by
  have:=uh Zv g hg
  rcases x with x | x
  ·omega
  ·have:=uh HQ3 _ x;omega))
 have zC:=ah (fun hl hm=>vK.other H B3 S4 hk5 ⟨hs2,hz3⟩ HQ hl hm);have hnz: ¬ (S z∨eX P.v C4 L4 z):=fun x=>by
  rcases (H.below B3).QS S4 z x with y | y
  ·have:=H.lt z y;omega
  ·omega
 have ZE:=ah hnz;clear hS5 hk5 hnz;clear Hw X4 F4 D4 cn4;have cb5:=F5.CY;rw [k1] at cb5;rcases uh HC with ⟨c,hc,e1,e2⟩ | ⟨e2,hrm,e1⟩ | ⟨e2,hrm,e1,hl,hm,E',hcm⟩
 ·subst e1;subst e2;dsimp only at zC D5 ⊢;have HW:=ah (uh zC om (aP _));have fK:Hid (pF { P with Cv:=C4,Lv:=L4,V:=P.V } N0 E):=⟨HS.bP,HS.nS,HS.exact⟩;have d0:(((c:Nat):Int) == 0)=false:=by rw [lI];omega
  have hnum:=ah (fun W=>Dp ((c:Nat):Int) W);clear zC D5 F5 HC
  go_wp2_with fail
  refine (uh hnum _).mono ?_;rintro e w9 ⟨rfl,rfl⟩;go_wp2;go_ret;exact ⟨rfl,_,_,_,uh fK,_,uh HW⟩
 ·subst e1;dsimp only at zC ⊢;rw [e2];have HW:=ah (uh zC om (aP _));have fK:Hid (pF { P with Cv:=C4,Lv:=L4,V:=P.V } N0 E):=⟨HS.bP,HS.nS,HS.exact⟩;have hrt:rootOf (look P.V.C) 0=⟨N0,0,[]⟩:=by unfold rootOf;rw [k3];rfl
  have yh:=ah (fun (W:World) (hB:aC w5 W)=>X6 W f fl fr (look P.V.C) (F5.below hB) 0 (by rw [k3];simp [aH]) (by rw [k3];omega) (by rw [k2];exact qI) (by rw [k2];omega) (by rw [hrt,k2];exact hin));rw [hrt,k2] at yh;dsimp only at yh;rw [hrm] at yh;clear zC D5 F5 HC hrm e2
  go_wp2_with fail
  refine (uh yh _ (bG _ _)).mono ?_;rintro e w6 ⟨rfl,b6⟩;have HW6:=ah (HW.below b6);clear b6 HW yh;go_wp2;go_ret;exact ⟨rfl,_,_,_,uh fK,_,uh HW6⟩
 ·rw [e2,e1];have HW:=ah (uh zC hl hm);have hD0:=HS.nS;have hrt:rootOf (look P.V.C) 0=⟨N0,0,[]⟩:=by unfold rootOf;rw [k3];rfl
  have yh:=ah (fun (W:World) (hB:aC w5 W)=>X6 W f fl fr (look P.V.C) (F5.below hB) 0 (by rw [k3];simp [aH]) (by rw [k3];omega) (by rw [k2];exact qI) (by rw [k2];omega) (by rw [hrt,k2];exact hin));rw [hrt,k2] at yh;dsimp only at yh;rw [hrm] at yh;have fK:Hid (pF { P with Cv:=C4,Lv:=L4,V:=R.1,y:=z,D:=R'.1,Pv:=Q5 } N0 E'):=⟨hcm.bP,hcm.holds,fun hx=>hcm.exact (HS.exact hx)⟩;have hnum:=ah (fun W=>Dp 0 W);clear zC F5 HC hrm e2 e1
  go_wp2_with fail
  refine (uh yh _ (bG _ _)).mono ?_;rintro e w6 ⟨rfl,b6⟩;have HW6:=ah (HW.below b6);have HD6:=ah (D5.below b6);have HN:=ah (vK.Xz H HW6 HD6 hs2 ZE HQ5);have f6:=fun j=>eG HW6.at'.aF j;have cy6:=HW6.at'.c1;clear b6 HW yh
  go_wp2_with fail
  refine (uh hnum _).mono ?_;rintro e w9 ⟨rfl,rfl⟩;go_wp2;go_ret;exact ⟨rfl,_,_,_,uh fK,_,uh HN⟩
def RY (p bo y:Nat) (s:ByteArray) (w':World):Prop:=w'.cell? ⟨p,1,none⟩=some (.pointer (some ⟨y,0,none⟩))∧w'.cell? ⟨bo,2,none⟩=some (.string s)
theorem ajN (Ps:List jQ) (s:ByteArray): ∀ m k,-1≤AU Ps s m k∧AU Ps s m k≤((k+m:Nat):Int)
 | 0,k=>by show -1≤(-1:Int)∧(-1:Int)≤_;omega
 | m+1,k=>by
  have:=ajN Ps s m (k+1)
  rw [AU]
  split <;> omega
theorem aso (D:dY) (s:ByteArray): -1≤xR D s∧xR D s≤(D.L.length:Int):=by
 have:=ajN D.L s D.L.length 0
 unfold xR;omega
theorem ajY {R:aU} {N0:Nat} {E:List aX} {i:Nat} (h:R.roots=aH N0 E) (hi:i<E.length):rootOf R (i+1)=kV (E.getD i ze):=by
 unfold rootOf aH at*;rw [h,Jt,aK,aK,jD,bI hi];rfl
theorem atz (w:World) (p:Nat) (P:gW) (S:Nat→Prop) (N0:Nat) (E:List aX) (h:dO w p P S) (hst:pF P N0 E) (hL:P.V.L.length≤400000000) (o:nZ) (hn:o.name.size≤maxLen) (hkd:o.kind=4):
  Calls Tryz.prog 63 #[.pointer (some ⟨p,0,none⟩),.agg (dH o).toArray] w fun e w'=>e= .returned (.bool true)∧ ∃ P' N1 E',pF P' N1 E'∧ ∃ S',vK w w' p P S P' S':=by
 have hg:=hst.bP;obtain ⟨k1,k2,k3,k4,k5⟩:=hg.look;have h7:=hg.file.seven;have qI:=hg.file.most;have pY:=hg.file.lens;have hr0:(⟨N0,0,[]⟩:bC) ∈ aH N0 E:=by simp [aH]
 have ahy: ∀ i,i<E.length→rH P.V.C (E.getD i ze).first:=fun i hi=>by
  obtain ⟨r,hr,e⟩:=gQ.1 (hg.Ig hi);rw [← e];exact hg.sound.JZ hr
 have hcase:=hg.asH o.name;have hrl:(aH N0 E).length≤5:=by have:=hg.file.jT.len;simp [aH];omega
 have SX:=fun he=>hg.asI (s:=o.name) he;have hDl:P.D.L.length≤4:=by rw [← hst.nS,LC];exact hg.file.jT.len
 have hfr2:=aso P.D o.name;have hb0:aC w (w.alloc (.cells (dH o).toArray 80)):=fC;have hbx0:(w.alloc (.cells (dH o).toArray 80)).heap[w.heap.size]? = some (.cells (dH o).toArray 80 (0,0)):=aW _ _;have c0:=(h.below hb0).c0;have H:=ah h;have HG:=ah hg;have HS:=ah hst;have B0:=ah hb0;have X0:=ah hbx0;have HC:=ah hcase;have hft:=fun k hk=>H.lt k (H.BN k (ay hk));have Nc:=ah hft;have Hk:=ah hkd;have O7:=ah SX;clear h hg hb0 hbx0 hcase hft hst hkd SX
 go_enter Tryz.func63,Tryz.ntmps63
 go_wp2_with fail
 generalize w.alloc (.cells (dH o).toArray 80)=w0 at*;refine (Nv w0 _ _ _ _ _ (H.below B0).iV om om).mono ?_;rintro e w1 ⟨fv,rfl,rf1,b1⟩;have B1:=ah (B0.trans (b1.mono B0.size));have X1:=ah ((b1.block _ (aO X0)).trans X0);have R1:Hid (lK w1 fv P.V.C):=⟨Ci rf1 (nN _),pY⟩;clear B0 X0 rf1 b1 c0
 go_wp2_with fail
 refine (NV w1 fv P.V.C R1 om).mono ?_;rintro e w2 ⟨rfl,fl,fr,hLk⟩;have B2:=ah (B1.trans (hLk.below.mono B1.size));have X2:=ah ((hLk.below.block _ (aO X1)).trans X1);have F2:=ah hLk.at';have hfr: ∀ g,fl.ownBlock=some g→w.heap.size≤g:=fun g hg=>jZ B1.size (hLk.fresh g hg);have KZ:=ah hfr;have hfs:w.heap.size≤w1.heap.size:=B1.size;have c1:=(H.below B2).c1;have hf2:w1.heap.size<w2.heap.size:=aO hLk.at'.aF;have hs2:w.heap.size≤w2.heap.size:=B2.size;clear hLk B1 X1 R1 hfr;generalize w1.heap.size=f at*
 go_wp2_with fail
 refine (V7 w2 P.y P.Pv P.D (H.below B2).ref om).mono ?_;rintro e w3 ⟨Qv,rfl,hD3,hQ3,b3⟩;have B3:=ah (B2.trans (b3.mono B2.size));have X3:=ah ((b3.block _ (aO X2)).trans X2);have F3:=ah (F2.below b3);have D3:=ah hD3;have hz3:w2.heap.size<w3.heap.size:=hD3.lt;have hQ: ∀ g,Qv.ownBlock=some g→w.heap.size≤g∧g<w3.heap.size:=fun g hg=>⟨by have:=hQ3 g hg;omega,(hD3.row.lt g hg).2⟩;have Zu:Hid (∀ g,fl.ownBlock=some g→g<w2.heap.size):=fun g hg=>(F2.fF.lt g hg).2;have Zv:Hid (∀ g,fr.ownBlock=some g→g<w2.heap.size):=fun g hg=>(F2.o8.lt g hg).2;have HQ:=ah hQ;have HQ3:=ah hQ3;have ck:w3.cell? ⟨w.heap.size,0,none⟩=some (.int .i64 4):=by rw [aG (uh X3) 0,bW];show some (Value.int .i64 o.kind)=_;rw [uh Hk]
 clear hD3 hQ3 b3 hQ X2 F2 c1 B2;generalize w2.heap.size=z at*
 go_wp2_with fail
 have JX:RY p w.heap.size P.y o.name w3.drew:=⟨(H.below B3.drew).c1,(aG (w:=w3) X3 2).trans rfl⟩;have ET:=ah (acL w3.drew P.y P.Pv P.D (H.below B3.drew).ref om o.name);rw [HS.nS] at HC;generalize hrf:xR P.D o.name=rf at*;have Hrf:=ah hrf;clear hrf;obtain ⟨avV,avW⟩:=hfr2;have avX:rf≤4:=om;refine yT (RY p w.heap.size P.y o.name) 8 kr ?_;refine tk 0 JX ?_;refine tk 1 JX ?_;refine tk 2 JX ?_;refine tk 3 JX ?_;refine tk 4 JX ?_;refine tk 5 JX ?_;refine wo 6 fun K6 hK6=> ?_;go_simp;go_at_call 120;refine ET.mono ?_;rintro e w3' ⟨rfl,rfl⟩;refine hK6 _ _ (ay JX) ?_;refine tk 7 JX ?_;refine wo 8 fun K8 hK8=> ?_;go_simp;refine hK8 _ _ (aA rfl) ?_;refine tu kr ?_ _;clear JX ET ck;have hwr:IntKind.i64.wrap (1+rf)=1+rf:=Jo _ om
 try rw [hwr]
 have hdr:aC w3 w3.drew:=(bG _ w3).drew;have B3':=ah (B3.drew);have X3':=ah (show w3.drew.heap[w.heap.size]? = _ from uh X3);have F3':=ah (F3.below hdr);have D3':=ah (D3.below hdr);have hz3':z<w3.drew.heap.size:=hz3;have HQ':Hid (∀ g,Qv.ownBlock=some g→w.heap.size≤g∧g<w3.drew.heap.size):=uh HQ;clear B3 X3 F3 D3 hdr hwr hz3 HQ;generalize w3.drew=w3 at*;have B3:=B3';have X3:=X3';have F3:=F3';have D3:=D3';have hz3:=hz3';have HQ:=HQ';clear B3' X3' F3' D3' hz3' HQ'
 go_wp2_with fail
 have hT:JD p w.heap.size P.d o.name w3.drew:=⟨(H.below B3.drew).c0,(aG (w:=w3) X3 2).trans rfl⟩;have Hw:=ah (aoa w3.drew P.d P.v P.Cv P.Lv P.V (H.below B3.drew).iV om qI om o.name hn (fun he=>(uh O7 he).1) (fun he=>(uh O7 he).2));generalize hR:yP P.V o.name=R at*;have HR:=ah hR;clear hR;refine yT (JD p w.heap.size P.d o.name) 7 kr ?_;refine tk 0 hT ?_;refine tk 1 hT ?_;refine tk 2 hT ?_;refine tk 3 hT ?_;refine tk 4 hT ?_;refine tk 5 hT ?_;refine wo 6 fun K6 hK6=> ?_;go_simp;go_at_call 28;refine Hw.mono ?_;rintro e w4 ⟨rfl,C4,L4,hS4⟩;have S4:Hid (bZ w3 w4 P.v P.Cv P.Lv C4 L4 R.1):=⟨hS4.at',⟨hS4.kept.os,hS4.kept.tape,hS4.kept.output,hS4.kept.size,hS4.kept.block⟩,hS4.new⟩;have hnf: ∀ k,w.heap.size≤k→ ¬ eX P.v P.Cv P.Lv k:=fun k hk hf=>by have:=uh Nc k hf;omega
 have X4:=ah (S4.kept.aF (hnf _ (aP _)) X3);have F4:=ah (F3.kept S4.kept (hnf _ hfs) (fun g hg=>hnf g (uh KZ g hg)) (fun g hg=>by obtain ⟨cs,fr',hb⟩:=KE F3.o8 hg;exact (H.below B3).Ny hb dc dc dc));have D4:=ah (D3.kept S4.kept (hnf _ hs2) (fun g hg=>hnf g (uh HQ g hg).1));have apx:w3.heap.size≤w4.heap.size:=S4.kept.size;have c04:=((H.below B3).step S4).c0;have hT4:JD p w.heap.size P.d o.name w4:=⟨c04,(aG X4 2).trans rfl⟩;clear hS4 hnf;refine hK6 _ _ (ay hT4) ?_;refine wo 7 fun K7 hK7=> ?_;go_simp;refine hK7 _ _ (aA rfl) ?_;refine tu kr ?_ _;clear hT hT4 c04 Hw X3 F3 D3;have cn4:w4.cell? ⟨w.heap.size,2,none⟩=some (.string o.name):=(aG X4 2).trans rfl;have Hw:=ah (asv w4 z Qv P.D D4 om o.name hn);generalize hR':MC P.D o.name=R' at*;clear hR'
 go_wp2_with fail
 refine Hw.mono ?_;rintro e w5 ⟨rfl,hD5,ahC⟩;have hk5:Kept (fun x=>x=z∨Qv.ownBlock=some x) w4 w5:=ahC.mono fun x e=>aA e;have D5:=ah hD5;have HQ5:Hid (∀ g,Qv.ownBlock=some g→w.heap.size≤g):=fun g hg=>(uh HQ g hg).1;have F5:=ah (F4.kept hk5 (fun x=>by
  rcases x with x | x
  ·omega
  ·have:=uh HQ3 _ x;omega) (fun g hg x=>by
  have:=uh Zu g hg
  rcases x with x | x
  ·omega
  ·have:=uh HQ3 _ x;omega) (fun g hg x=>by
  have:=uh Zv g hg
  rcases x with x | x
  ·omega
  ·have:=uh HQ3 _ x;omega))
 have zC:=ah (fun hl hm=>vK.other H B3 S4 hk5 ⟨hs2,hz3⟩ HQ hl hm);have hnz: ¬ (S z∨eX P.v C4 L4 z):=fun x=>by
  rcases (H.below B3).QS S4 z x with y | y
  ·have:=H.lt z y;omega
  ·omega
 have ZE:=ah hnz;clear hD5 ahC hk5 hnz;clear Hw X4 F4 D4 cn4;have cb5:=F5.CY;rw [k1] at cb5;rcases uh HC with ⟨c,hc,e1,e2⟩ | ⟨e2,i,hi,e3,⟨hrm,e1⟩ | ⟨hrm,e1,hl,hm,N1,hcm⟩⟩
 ·subst e1;subst e2;dsimp only at zC D5 ⊢;have HW:=ah (uh zC om (aP _));have fK:Hid (pF { P with Cv:=C4,Lv:=L4,V:=P.V } N0 E):=⟨HS.bP,HS.nS,HS.exact⟩;have d0:(((c:Nat):Int) == 0)=false:=by rw [lI];omega
  have hnum:=ah (fun W=>Dp ((c:Nat):Int) W);clear zC D5 F5 HC
  go_wp2_with fail
  refine (uh hnum _).mono ?_;rintro e w9 ⟨rfl,rfl⟩;go_wp2;go_ret;exact ⟨rfl,_,_,_,uh fK,_,uh HW⟩
 ·subst e1;dsimp only at zC ⊢;rw [e2];have HW:=ah (uh zC om (aP _));have fK:Hid (pF { P with Cv:=C4,Lv:=L4,V:=P.V } N0 E):=⟨HS.bP,HS.nS,HS.exact⟩;have hrt:rootOf (look P.V.C) (i+1)=kV (E.getD i ze):=ajY k3 hi;rw [e3];have yh:=ah (fun (W:World) (hB:aC w5 W)=>X6 W f fl fr (look P.V.C) (F5.below hB) (i+1) (by rw [k3];simp [aH];omega) (by rw [k3];omega) (by rw [k2];exact qI) (by rw [k2];omega) (by rw [hrt,k2];exact ahy i hi));rw [hrt,k2,show (kV (E.getD i ze)).N=(E.getD i ze).first from rfl,hrm,show ((i+1:Nat):Int)=1+(i:Int) by omega] at yh;clear zC D5 F5 HC hrm e2
  go_wp2_with fail
  refine (uh yh _ (bG _ _)).mono ?_;rintro e w6 ⟨rfl,b6⟩;have HW6:=ah (HW.below b6);clear b6 HW yh;go_wp2;go_ret;exact ⟨rfl,_,_,_,uh fK,_,uh HW6⟩
 ·rw [e2,e1];have HW:=ah (uh zC hl hm);have hD0:=HS.nS;have hrt:rootOf (look P.V.C) (i+1)=kV (E.getD i ze):=ajY k3 hi;rw [e3];have yh:=ah (fun (W:World) (hB:aC w5 W)=>X6 W f fl fr (look P.V.C) (F5.below hB) (i+1) (by rw [k3];simp [aH];omega) (by rw [k3];omega) (by rw [k2];exact qI) (by rw [k2];omega) (by rw [hrt,k2];exact ahy i hi));rw [hrt,k2,show (kV (E.getD i ze)).N=(E.getD i ze).first from rfl,hrm,show ((i+1:Nat):Int)=1+(i:Int) by omega] at yh;have fK:Hid (pF { P with Cv:=C4,Lv:=L4,V:=R.1,y:=z,D:=R'.1,Pv:=Qv } N1 E):=⟨hcm.bP,hcm.holds,fun hx=>hcm.exact (HS.exact hx)⟩;have hnum:=ah (fun W=>Dp 0 W);clear zC F5 HC hrm e2 e1
  go_wp2_with fail
  refine (uh yh _ (bG _ _)).mono ?_;rintro e w6 ⟨rfl,b6⟩;have HW6:=ah (HW.below b6);have HD6:=ah (D5.below b6);have HN:=ah (vK.Xz H HW6 HD6 hs2 ZE HQ5);have f6:=fun j=>eG HW6.at'.aF j;have cy6:=HW6.at'.c1;clear b6 HW yh
  go_wp2_with fail
  refine (uh hnum _).mono ?_;rintro e w9 ⟨rfl,rfl⟩;go_wp2;go_ret;exact ⟨rfl,_,_,_,uh fK,_,uh HN⟩
end
section
attribute [local go_sem ↓] dw fP fZ J7 jG
attribute [local go_sem] dK fO fV gK gy aV KG jc jd
structure Stepped (w w':World) (p b:Nat) (P:gW) (S:Nat→Prop) (B:lX) (U:Nat→Prop) (P':gW) (S':Nat→Prop) (V':ou) (B':lX) (U':Nat→Prop):Prop where
 at':dO w' p P' S'
 book:iK w' b V' B' U'
 base:P'.B=P.B
 log:P'.V.L.length≤P.V.L.length+100
 marks:P'.ms.length≤P.ms.length+1
 next:B'.next≤B.next+2
 files:B'.files.length≤B.files.length+4
 writes:B'.writes.length≤B.writes.length+4
 names:B'.names.length≤B.names.length+4
 TY: ∀ x ∈ B'.files,x ∈ B.files∨x.n≤258
 Uc: ∀ x ∈ B'.writes,x ∈ B.writes∨x.n≤P.V.L.length+2
 Ua: ∀ x ∈ B'.names,x ∈ B.names∨x.n≤8
 kept:Kept (fun k=>S k∨U k) w w'
 XA: ∀ k,S' k→S k∨w.heap.size≤k
 XB: ∀ k,U' k→U k∨w.heap.size≤k
 apart: ∀ k,S' k→ ¬ U' k
def CB (p b:Nat) (o:nZ):Array Value:= #[.pointer (some ⟨p,0,none⟩),.pointer (some ⟨b,0,none⟩),.agg (dH o).toArray]
section
variable (w:World) (o:nZ)
theorem XG:(w.alloc (.cells (dH o).toArray 80)).heap[w.heap.size]? = some (.cells (dH o).toArray 80 (0,0)):=aW _ _
theorem sW:aC w (w.alloc (.cells (dH o).toArray 80)):=fC
theorem LW:(w.alloc (.cells (dH o).toArray 80)).cell? ⟨w.heap.size,0,none⟩=some (.int .i64 o.kind):=by rw [aG (XG w o) 0,bW];rfl
theorem aco:dN (w.alloc (.cells (dH o).toArray 80)) w.heap.size 0 6:=fun j hj=>by rw [qR,aG (XG w o),bW,bI (by rw [LV];exact hj)];rfl
theorem acn:dI (w.alloc (.cells (dH o).toArray 80)) w.heap.size 0 6=dH o:=qX (fun j v hv=>by rw [qR,aG (XG w o),bW];exact hv) (LV o)
theorem aq8:(w.alloc (.cells (dH o).toArray 80)).heap.size=w.heap.size+1:=sm
end
theorem Qe {k n:Int} (h:k=n): ∀ j,(k == j)=(n == j):=fun j=>by rw [h]
theorem atL (w:World) (p b:Nat) (o:nZ) (hk:o.kind≤0):
  Calls Tryz.prog 34 (CB p b o) w fun e w'=>e= .returned (.tuple #[.pointer (some ⟨p,0,none⟩),.bool true])∧aC w w':=by
 unfold CB;have ck:=LW w o;have hj: ∀ j:Int,0<j→(o.kind == j)=false:=fun j hj=>by rw [lI];omega
 clear hk
 go_enter Tryz.func34,Tryz.ntmps34
 go_wp2;go_ret2;exact ⟨rfl,sW w o⟩
theorem Stepped.none {w w':World} {p b:Nat} {P:gW} {S:Nat→Prop} {V:ou} {B:lX} {U:Nat→Prop} (h:dO w p P S) (hb:iK w b V B U) (pX: ∀ k,S k→ ¬ U k) (hB:aC w w'):Stepped w w' p b P S B U P S V B U:=
 ⟨h.below hB,hb.below hB,rfl,om,om,om,om,om,om,fun x hx=>aA hx,fun x hx=>aA hx,fun x hx=>aA hx,Kept.dS hB,fun k hk=>aA hk,fun k hk=>aA hk,pX⟩
theorem UF (w:World) (p b:Nat) (o:nZ) (R:World→Prop) (hk:o.kind=1∨o.kind=6∨o.kind=7∨o.kind=9∨o.kind=10)
  (ha:Calls Tryz.prog 67 #[.pointer (some ⟨p,0,none⟩),.pointer (some ⟨b,0,none⟩),.agg (dH o).toArray] (w.alloc (.cells (dH o).toArray 80)) fun e w'=>e= .returned (.bool true)∧R w'):
  Calls Tryz.prog 34 (CB p b o) w fun e w'=>e= .returned (.tuple #[.pointer (some ⟨p,0,none⟩),.bool true])∧R w':=by
 unfold CB;have ck:=LW w o;have l1:=aco w o;have l2:=acn w o;have Ha:=ah ha;clear ha;rcases hk with hk | hk | hk | hk | hk
 all_goals
  have hj:=Qe hk;clear hk
  go_enter Tryz.func34,Tryz.ntmps34
  go_wp2_with fail
  refine Ha.mono ?_;rintro e w1 ⟨rfl,r1⟩;have R1:=ah r1;clear r1;go_wp2;go_ret2;exact ⟨rfl,uh R1⟩
section
variable {w w1 w2:World} {p b:Nat} {P P1:gW} {S U S1 S2:Nat→Prop} {N1:Nat} {E1:List aX} {V V1:ou} {B B1:lX} {U1:Nat→Prop} {o:nZ}
theorem OZ.aks (hk1:OZ (w.alloc (.cells (dH o).toArray 80)) w1 b B U V1 B1 U1 (P.V.L.length+2)) (h:dO w p P S) (pX: ∀ k,S k→ ¬ U k):Stepped w w1 p b P S B U P S V1 B1 U1:=by
 have hlt:=h.lt;have hs:=aq8 w o;have hnew: ∀ k,U1 k→U k∨w.heap.size≤k:=fun k hk=>by
  rcases hk1.new k hk with x | x
  ·exact aA x
  ·exact ay om
 refine ⟨(h.below (sW w o)).kept hk1.kept pX,hk1.at',rfl,om,om,hk1.next,hk1.files,hk1.writes,hk1.names,hk1.TY,hk1.Uc,hk1.Ua,(Kept.dS (sW w o)).trans (hk1.kept.mono fun k hk=>ay hk),fun k hk=>aA hk,hnew,fun k hk hu=> ?_⟩;rcases hnew k hu with x | x
 ·exact pX k hk x
 ·have:=hlt k hk;omega
theorem Stepped.asked (h:dO w p P S) (hb:iK w b V B U) (pX: ∀ k,S k→ ¬ U k) (hB:Below (w.alloc (.cells (dH o).toArray 80)).heap.size (w.alloc (.cells (dH o).toArray 80)) w1):Stepped w w1 p b P S B U P S V B U:=
 Stepped.none h hb pX ((sW w o).trans (hB.mono (sW w o).size))
structure MW (w w':World) (p:Nat) (P:gW) (S:Nat→Prop) (P':gW) (S':Nat→Prop):Prop where
 at':dO w' p P' S'
 base:P'.B=P.B
 marks:P'.ms=P.ms
 log:P'.V.L.length≤P.V.L.length+100
 kept:Kept S w w'
 new: ∀ k,S' k→S k∨w.heap.size≤k
theorem vK.made {P':gW} {S':Nat→Prop} (h:vK w w1 p P S P' S'):MW w w1 p P S P' S':=⟨h.at',h.base,h.marks,h.log,h.kept,h.new⟩
theorem MW.agZ {P':gW} {S':Nat→Prop} (h:MW (w.alloc (.cells (dH o).toArray 80)) w1 p P S P' S'):MW w w1 p P S P' S':=
 ⟨h.at',h.base,h.marks,h.log,(Kept.dS (sW w o)).trans h.kept,fun k hk=>(h.new k hk).elim aA fun x=>ay (jZ (sW w o).size x)⟩
def Ends (w w':World) (p b:Nat) (P:gW) (S:Nat→Prop) (B:lX) (U:Nat→Prop):Prop:= ∃ P' N1 E',pF P' N1 E'∧ ∃ S' V' B' U',Stepped w w' p b P S B U P' S' V' B' U'
theorem MW.ends {Mv2:Value} {m2:Pn} (hw1:MW w w1 p P S P1 S1) (hst:pF P1 N1 E1) (hb:iK w b V B U) (pX: ∀ k,S k→ ¬ U k)
  (h2:dO w2 p { P1 with Mv:=Mv2,ms:=P1.ms++[m2] } S2) (k2:Kept S1 w1 w2) (n2: ∀ k,S2 k→S1 k∨w1.heap.size≤k):Ends w w2 p b P S B U:=by
 have hlt:=hb.lt;have og:=hw1.kept;have hs1:=og.size;have new1:=hw1.new;have new2: ∀ k,S2 k→S k∨w.heap.size≤k:=fun k hk=>by
  rcases n2 k hk with x | x
  ·exact new1 k x
  ·exact ay om
 have hk2:Kept S w w2:=by
  refine ⟨k2.os.trans og.os,k2.tape.trans og.tape,k2.output.trans og.output,jZ hs1 k2.size,fun k hk hn=> ?_⟩;rw [k2.block k om (fun hx=>by
   rcases new1 k hx with y | y
   ·exact hn y
   ·omega)]
  exact og.block k hk hn
 have hbk:iK w2 b V B U:=hb.kept hk2 (fun k hu hsx=>pX k hsx hu);refine ⟨{ P1 with Mv:=Mv2,ms:=P1.ms++[m2] },N1,E1,⟨hst.bP,hst.nS,hst.exact⟩,S2,V,B,U,h2,hbk,hw1.base,hw1.log,?_,om,om,om,om,fun x hx=>aA hx,fun x hx=>aA hx,fun x hx=>aA hx,hk2.mono fun k hk=>aA hk,new2,fun k hk=>aA hk,fun k hk hu=> ?_⟩
 ·show (P1.ms++[m2]).length≤_;rw [hw1.marks];simp
 ·rcases new2 k hk with x | x
  ·exact pX k x hu
  ·have:=hlt k hu;omega
end
theorem ada (w:World) (p b:Nat) (P:gW) (S U:Nat→Prop) (V:ou) (B:lX) (hb:iK w b V B U) (pX: ∀ k,S k→ ¬ U k) (hL:P.V.L.length≤300000000) (hBl:P.B.length≤1000) (hms:P.ms.length≤1000000000) (o:nZ) (g:FuncId) (hk:o.kind=2∧g=62∨o.kind=3∧g=63∨o.kind=4∧g=63)
  (ha:Calls Tryz.prog g #[.pointer (some ⟨p,0,none⟩),.agg (dH o).toArray] (w.alloc (.cells (dH o).toArray 80)) fun e w'=>e= .returned (.bool true)∧ ∃ P' N1 E',pF P' N1 E'∧ ∃ S',vK (w.alloc (.cells (dH o).toArray 80)) w' p P S P' S'):
  Calls Tryz.prog 34 (CB p b o) w fun e w'=>e= .returned (.tuple #[.pointer (some ⟨p,0,none⟩),.bool true])∧Ends w w' p b P S B U:=by
 unfold CB;have ck:=LW w o;have l1:=aco w o;have l2:=acn w o;have HB:=ah hb;have Ha:=ah ha;clear ha hb;rcases hk with ⟨hk,rfl⟩ | ⟨hk,rfl⟩ | ⟨hk,rfl⟩
 all_goals
  have hj:=Qe hk;clear hk
  go_enter Tryz.func34,Tryz.ntmps34
  go_wp2_with fail
  refine Ha.mono ?_;rintro e w1 ⟨rfl,P1,N1,E1,hst1,S1,hw1⟩;have H1:=ah hw1.made.agZ;have HS1:=ah hst1;have hl1:=hw1.log;clear hw1 hst1
  go_wp2_with fail
  refine (UE w1 p P1 S1 N1 E1 H1.at' HS1 om (by rw [H1.base];exact hBl) (by rw [H1.marks];exact hms)).mono ?_;rintro e w2 ⟨rfl,Mv2,m2,hm2,hd2,S2,h2,k2,n2⟩;have Bv:=ah (H1.ends HS1 HB pX h2 k2 n2);clear h2 k2 n2;go_wp2;go_ret2;exact ⟨rfl,uh Bv⟩
end
end Go.Proofs.YtknjjjenklfeoaaGreatDoor
