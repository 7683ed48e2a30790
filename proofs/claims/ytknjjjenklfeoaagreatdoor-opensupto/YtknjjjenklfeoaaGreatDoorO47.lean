import Derived.Test.YtknjjjenklfeoaaGreatDoorO46
import Derived.Test.YtknjjjenklfeoaaGreatDoorO45
set_option maxHeartbeats 8000000
set_option maxRecDepth 100000
set_option linter.all false
namespace Go.Proofs.YtknjjjenklfeoaaGreatDoor
open Go.RowKit
section
attribute [local go_sem ↓] dw fP fZ kS mP mV jJ kJ jY jU lD lH kQ ku kT mQ mW lZ ny jG qc qP qQ qF xM EF EI ED DZ
attribute [local go_sem] dK fO fV gK gy aV kX mG mM mJ mF gI jK kH jX kZ kW iJ jW lq lC lu kF jc jd lY l7 kG kY mO nI lT mD nH qh qM qO qN qL xX Ey EC Ez Ew Dz
attribute [local go_sem] pW pV Oper.semAt_some
attribute [local go_sem ↓] IV Jl
attribute [local go_sem] I9 Jb Ja
attribute [local go_sem ↓] jG
def agp (x y:Value):Sem Bool:=Op.equalIn 10000 142 x y
theorem aoo (x y:Value):Op.equalIn 10000 142 x y=agp x y:=rfl
theorem acy (p:aX) (w:World):(part 9 (ev p).toArray 0).run Tryz.prog w= .ok (.string (bJ p.name)) w:=by
 have ha:(isAgg 9).run Tryz.prog w= .ok false w:=by unfold isAgg;rw [jh,xw Tryz.underlying9 w];rfl
 unfold part;rw [jh,ha];rfl
theorem ajk (p:aX) (w:World):(part 3 (ev p).toArray 1).run Tryz.prog w= .ok (.int .i64 (p.first:Nat)) w:=by
 have ha:(isAgg 3).run Tryz.prog w= .ok false w:=by unfold isAgg;rw [jh,xw Tryz.underlying3 w];rfl
 unfold part;rw [jh,ha];rfl
theorem as3 (p:aX) (w:World):(agp (.agg (ev p).toArray) (.agg (ev ze).toArray)).run Tryz.prog w= .ok (decide (p.name=[]) && decide (p.first=0)) w:=by
 have hs:Tryz.prog.stoodInHeld 142=false:=kr;have h0:(Op.equalIn 9999 9 (.string (bJ p.name)) (.string (bJ ze.name))).run Tryz.prog w= .ok ((bJ p.name).toList == (bJ ze.name).toList) w:=run_equalIn_string (P:=Tryz.prog) w 9998 9 (bJ p.name) (bJ ze.name) Tryz.underlying9;rw [MH,MH] at h0;have h1:(Op.equalIn 9999 3 (.int .i64 (p.first:Nat)) (.int .i64 (ze.first:Nat))).run Tryz.prog w= .ok (((p.first:Nat):Int) == ((ze.first:Nat):Int)) w:=aea (P:=Tryz.prog) (w:=w) 9998 3 .i64 _ _ _ Tryz.underlying3;show (Op.equalIn (9999+1) 142 _ _).run Tryz.prog w=_;rw [Op.equalIn];simp only [jh,xw Tryz.underlying142,rQ,Vh,hs,Bg,yc];rw [← adZ]
 by_cases e:p.name=[]
 ·have e':(p.name == ze.name)=true:=by rw [e];rfl
  rw [e'] at h0;rw [eH e,tC]
  by_cases e2:p.first=0
  ·have e3:(((p.first:Nat):Int) == ((ze.first:Nat):Int))=true:=by rw [e2];rfl
   rw [e3] at h1;rw [eH e2];simp only [MS,OQ,jh,acy,ajk,rQ,h0,h1,ne_eq,String.reduceEq,OT,wH,Va,Bg,yc,yX]
  ·have e3:(((p.first:Nat):Int) == ((ze.first:Nat):Int))=false:=by
    rw [lI];show ((p.first:Nat):Int)≠((0:Nat):Int);omega
   rw [e3] at h1;rw [gU e2];simp only [MS,OQ,jh,acy,ajk,rQ,h0,h1,ne_eq,String.reduceEq,OT,wH,Va,Zj,Bg,yc,yX]
 ·have e':(p.name == ze.name)=false:=by
   rw [lI];exact e
  rw [e'] at h0;rw [gU e,Jr];simp only [MS,OQ,jh,acy,rQ,h0,ne_eq,String.reduceEq,OT,wH,Zj,yX]
attribute [local go_sem ↓] aoo
attribute [local go_sem] aj2
theorem aon {c:aj} (hc:c.length=64):DV (aY c):=fun k=>by
 rw [aK]
 by_cases hk:k<4
 ·unfold aY;rw [jD,x9 hk];refine ⟨?_,iD _ _⟩;show ((nameBytes c k).take (qo (nameBytes c k))).length≤12
  have:=aiO c k hc hk
  rw [xu];omega
 ·rw [eu (by rw [Df];omega)];exact ⟨dc,dc⟩
theorem anu (w:World) (v:Nat) (Cv Lv:Value) (V:aB) (h:aN w v Cv Lv V) (hG:oQ w) (h5:5<V.C.length):
  Calls Tryz.prog 93 #[.pointer (some ⟨v,0,none⟩)] w fun e w'=>((wW (cl V.C 5)=true∧e= .returned .nilIface)∨(wW (cl V.C 5)=false∧ ∃ x,isIface x∧e= .returned (kD 5 x)))∧aC w w':=by
 have hc:=iM h.kE h5;have hel:=Df (cl V.C 5);have hsh:=aon hc;have Hli:=ah (J6 w v Cv Lv V h h5);have Hat:=ah (fun W (hb:aC w W)=>Np W v Cv Lv V (h.below hb) 5 h5);have ER:=ah (fun W=>ah6 W (aY (cl V.C 5)) hel hsh);have CV:Hid (wW (cl V.C 5)=(decide (mg (aY (cl V.C 5)) 4=cl V.C 5) && (xC (Gv (aY (cl V.C 5))) (lenOf (aY (cl V.C 5))) 0 && xC (JQ (aY (cl V.C 5))) (4 - lenOf (aY (cl V.C 5))) (lenOf (aY (cl V.C 5)))))):=rfl;have hll:(mg (aY (cl V.C 5)) 4).length=64:=G7 hsh 4 om;have HG:=ah hG;clear h hG;generalize wW (cl V.C 5)=GG at*;generalize cl V.C 5=c at*;generalize aY c=E at*;generalize mg E 4=cc at*
 go_enter Tryz.func93,Tryz.ntmps93
 go_wp2_with fail
 refine Hli.mono ?_;rintro e w1 ⟨rfl,hb1⟩;have HB1:=ah (hb1.alloc hb1.size (.cells (lv E).toArray 144));have HX:=ah (aW w1 (.cells (lv E).toArray 144));have QY:zl.length=4:=rfl;clear hb1 Hli
 go_wp2_with fail
 generalize hW2:w1.alloc (.cells (lv E).toArray 144)=w2 at*;clear hW2;have hx0: ∀ d os,(Go.Sort.grow (redrawn w2 d) os).heap[w1.heap.size]? = some (.cells (lv E).toArray 144 (0,0)):=fun d os=>((kL w2 d os).block _ (aO HX)).trans HX;have k1: ∀ d os,dN (Go.Sort.grow (redrawn w2 d) os) w1.heap.size 0 8:=fun d os=>fD (hx0 d os) (by rw [dW,hel]);have k2: ∀ d os,dI (Go.Sort.grow (redrawn w2 d) os) w1.heap.size 0 8=lv E:=fun d os=>fG (hx0 d os) (by rw [dW,hel]);have Hn1:=ah (fun d os=>uh ER (Go.Sort.grow (redrawn w2 d) os));have Hn2:=ah (fun d os=>uh Hat (Go.Sort.grow (redrawn w2 d) os) (HB1.trans ((kL w2 d os).mono HB1.size)));clear hx0 ER Hat
 by_cases hne:cc=c
 rotate_left
 ·have he: ∀ w,(xH (.agg (cv cc).toArray) (.agg (cv c).toArray)).run Tryz.prog w= .ok false w:=fun w=>by rw [wE hll hc,gU hne]
  have hg:GG=false:=by rw [uh CV,gU hne];rfl
  have Hg:=ah hg;clear hg CV hne;refine CQ kr kr ?_
  repeat (go_big_quiet_step (first | exact zA (uh Hn1 _ _) | exact zA (uh Hn2 _ _)))
  refine CS ?_;intro _ hw';obtain ⟨⟨dq,osq⟩,hw''⟩:=hw';subst hw'';have tJ:=ah (HB1.trans ((kL w2 dq osq).mono HB1.size));obtain ⟨t2,v2,g2⟩:=(HG.below tJ).err 2 om;clear k1 k2 he;go_wp2;go_ret;exact ⟨ay ⟨uh Hg,_,⟨_,_,rfl⟩,rfl⟩,uh tJ⟩
 subst hne;rw [eH rfl,tC] at CV;have he: ∀ w,(xH (.agg (cv cc).toArray) (.agg (cv cc).toArray)).run Tryz.prog w= .ok true w:=fun w=>by rw [wE hll hc,eH rfl]
 refine CQ kr kr ?_
 repeat (go_big_quiet_step (first | exact zA (uh Hn1 _ _) | exact zA (uh Hn2 _ _)))
 refine CS ?_;intro _ hw';obtain ⟨⟨dq,osq⟩,hw''⟩:=hw';subst hw'';have tJ:=ah (HB1.trans ((kL w2 dq osq).mono HB1.size));have Zy:=ah (((kL w2 dq osq).block _ (aO HX)).trans HX);have q1:=k1 dq osq;have q2:=k2 dq osq;clear k1 k2 he Hn1 Hn2 HX HB1 hc hll;generalize Go.Sort.grow (redrawn w2 dq) osq=w3 at*;have Lc:=ah (NT w3 E hel);have hl4:=zU E
 go_wp2_with fail
 refine Lc.mono ?_;rintro e w4 ⟨rfl,hb4⟩;have HB4:=ah (tJ.trans (hb4.mono tJ.size));have HX4:=ah ((hb4.block _ (aO Zy)).trans Zy);clear hb4 Lc tJ Zy q1 q2;generalize hL0:lenOf E=L0 at*;have Fv:(L0:Int)≤4:=om;go_wp2
 go_loopw [5,6,26] (fun _ _ i wr=> ∃ k:Nat,k≤L0∧i= .int .i64 k∧aC w wr∧wr.heap[w1.heap.size]? = some (.cells (lv E).toArray 144 (0,0))∧xC (Gv E) k 0=true) (fun _ _ i _=>L0 - (intOf i).toNat)
 case atStart=>exact ⟨0,om,rfl,uh HB4,uh HX4,rfl⟩
 case round=>
  obtain ⟨k,hk,rfl,hB,hX,hA⟩:=hrel
  by_cases hlt:k<L0
  ·have hki:(k:Int)<(L0:Int):=om;have yF:k<E.length:=om;have l1:=sV (n:=2) (Fe hX k yF) rfl;have l2:=qX (n:=2) (Fe hX k yF) rfl;have hgd:Gv E k=(oC (E.getD k ze).name && decide (rZ E (bJ (E.getD k ze).name)=(k:Int))):=rfl;have hpl:=(hsh k).1;generalize E.getD k ze=p at*;have DL:=ah (hB.alloc hB.size (.cells (ev p).toArray 142));have JA:=ah ((jE wr (.cells (ev p).toArray 142) _ (aO hX)).trans hX);have c5:(wr.alloc (.cells (ev p).toArray 142)).cell? ⟨wr.heap.size,0,none⟩=some (.string (bJ p.name)):=(vX wr _ _ _ 0).trans rfl;have HA:=ah hA;have DT:=ah (fun W=>acr (bJ p.name) W (by rw [show (bJ p.name).size=p.name.length by simp [bJ,ByteArray.size]];exact jZ hpl dc));rw [show (bJ p.name).data.toList=p.name from rfl] at DT;have ET:=ah (fun W=>aa1 W E hel (bJ p.name));have hsn:=Z9 (Gv E) k 0;rw [hA,tC,qR] at hsn;clear hA hB hX HB4 HX4 HA
   by_cases hnb:oC p.name=true
   ·rw [hnb] at DT;have q1: ∀ W,aC w W→W.heap[w1.heap.size]? = some (.cells (lv E).toArray 144 (0,0))→dN W w1.heap.size 0 8:=fun W _ hx=>fD hx (by rw [dW,hel])
    by_cases hfk:rZ E (bJ p.name)=(k:Int)
    ·rw [hfk] at ET;have hg1:xC (Gv E) (k+1) 0=true:=by rw [hsn,hgd,hnb,eH hfk];rfl
     have Hg1:=ah hg1;clear hg1 hsn hgd hnb hfk q1
     go_wp2_with fail
     refine (uh DT _).mono ?_;rintro e w5 ⟨rfl,hb5⟩;have HB5:=ah (DL.trans (hb5.mono DL.size));have HX5:=ah ((hb5.block _ (aO JA)).trans JA);have d5:w5.cell? ⟨wr.heap.size,0,none⟩=some (.string (bJ p.name)):=(hb5.cell sm).trans c5;have q1:=fD HX5 (n:=8) (by rw [dW,hel]);have q2:=fG HX5 (n:=8) (by rw [dW,hel]);clear hb5 c5 l1 l2 DL JA DT
     go_wp2_with fail
     refine (uh ET _).mono ?_;rintro e w6 ⟨rfl,hb6⟩;have HB6:=ah (HB5.trans (hb6.mono HB5.size));have HX6:=ah ((hb6.block _ (aO HX5)).trans HX5);clear hb6 d5 q1 q2 HB5 HX5 ET;go_wp2;go_roundw
     case rel=>exact ⟨k+1,om,gn,uh HB6,uh HX6,uh Hg1⟩
     case measure=>exact cO
    ·have hgF:GG=false:=by
      rw [uh CV]
      have:xC (Gv E) L0 0=false:=by
       rw [ad7];intro ht
       have:=(Ll _ _ _).1 ht k (nN _) om
       rw [hgd,gU hfk,QZ] at this;cases this
      rw [this];rfl
     have Hg:=ah hgF;have d0:(rZ E (bJ p.name) != (k:Int))=true:=by rw [nR];exact hfk
     generalize rZ E (bJ p.name)=fk at*;clear hgF hsn hgd hnb hfk q1 CV
     go_wp2_with fail
     refine (uh DT _).mono ?_;rintro e w5 ⟨rfl,hb5⟩;have HB5:=ah (DL.trans (hb5.mono DL.size));have HX5:=ah ((hb5.block _ (aO JA)).trans JA);have d5:w5.cell? ⟨wr.heap.size,0,none⟩=some (.string (bJ p.name)):=(hb5.cell sm).trans c5;have q1:=fD HX5 (n:=8) (by rw [dW,hel]);have q2:=fG HX5 (n:=8) (by rw [dW,hel]);clear hb5 c5 l1 l2 DL JA DT
     go_wp2_with fail
     refine (uh ET _).mono ?_;rintro e w6 ⟨rfl,hb6⟩;have HB6:=ah (HB5.trans (hb6.mono HB5.size));obtain ⟨t2,v2,g2⟩:=(HG.below HB6).err 2 om;clear hb6 d5 q1 q2 HB5 HX5 ET;go_wp2;go_ret;exact ⟨ay ⟨uh Hg,_,⟨_,_,rfl⟩,rfl⟩,uh HB6⟩
   ·have hnb:oC p.name=false:=by simpa using hnb
    rw [hnb] at DT;have hgF:GG=false:=by
     rw [uh CV]
     have:xC (Gv E) L0 0=false:=by
      rw [ad7];intro ht
      have:=(Ll _ _ _).1 ht k (nN _) om
      rw [hgd,hnb,Jr] at this;cases this
     rw [this];rfl
    have Hg:=ah hgF;clear hgF hsn hgd hnb CV ET
    go_wp2_with fail
    refine (uh DT _).mono ?_;rintro e w5 ⟨rfl,hb5⟩;have HB5:=ah (DL.trans (hb5.mono DL.size));obtain ⟨t2,v2,g2⟩:=(HG.below HB5).err 2 om;clear hb5 c5 l1 l2 DL JA DT;go_wp2;go_ret;exact ⟨ay ⟨uh Hg,_,⟨_,_,rfl⟩,rfl⟩,uh HB5⟩
  ·have xK:k=L0:=om;subst xK;rw [hA,tC] at CV;have HB:=ah hB;have HX:=ah hX;clear hA hB hX HB4 HX4
   by_cases hk4:k=4
   ·subst hk4;rw [Bf,xC] at CV;go_wp2
    go_loopw [8,50] (fun _ i wr=>i= .int .i64 0∧aC w wr) (fun _ _ _=>0)
    case atStart=>exact ⟨rfl,uh HB⟩
    case round=>
     obtain ⟨rfl,hB⟩:=hrel;have Zt:=ah hB;clear hB;go_wp2;go_ret;exact ⟨aA ⟨uh CV,rfl⟩,uh Zt⟩
   have hk3:k<4:=om;have hk5: ¬ 4 - k=0:=om;go_wp2
   go_loopw [8,50] (fun _ i wr=> ∃ j:Nat,j≤4 - k∧i= .int .i64 j∧aC w wr∧wr.heap[w1.heap.size]? = some (.cells (lv E).toArray 144 (0,0))∧xC (JQ E) j k=true) (fun _ i _=>4 - k - (intOf i).toNat)
   case atStart=>exact ⟨0,om,rfl,uh HB,uh HX,rfl⟩
   case round=>
    obtain ⟨j,hj,rfl,hB,hX,hA⟩:=hrel
    by_cases hjl:j<4 - k
    ·have hji:(j:Int)<((4 - k:Nat):Int):=om;have hjE:k+j<E.length:=om;have l1:=sV (n:=2) (Fe hX (k+j) hjE) rfl;have l2:=qX (n:=2) (Fe hX (k+j) hjE) rfl;rw [Nat.add_mul] at l1 l2;have hgd:JQ E (k+j)=(decide (bJ (E.getD (k+j) ze).name=bJ []) && decide ((E.getD (k+j) ze).first=0)):=rfl;have hsn:=Z9 (JQ E) j k;rw [hA,tC] at hsn;have hbad:JQ E (k+j)=false→GG=false:=fun he=>by
      rw [uh CV,ad7];intro ht
      have:=(Ll _ _ _).1 ht (k+j) om om
      rw [he] at this;cases this
     generalize JQ E (k+j)=eb at*;generalize E.getD (k+j) ze=p at*;have DL:=ah (hB.alloc hB.size (.cells (ev p).toArray 142));have JA:=ah ((jE wr (.cells (ev p).toArray 142) _ (aO hX)).trans hX);have m1:=fD (aW wr (.cells (ev p).toArray 142)) (n:=2) rfl;have m2:=fG (aW wr (.cells (ev p).toArray 142)) (n:=2) rfl;have hq:=as3 p (wr.alloc (.cells (ev p).toArray 142));have hnn:decide (bJ p.name=bJ [])=decide (p.name=[]):=decide_eq_decide.2 ⟨fun e=>by have:=FV ByteArray.toList e;rw [MH,MH] at this;exact this,fun e=>by rw [e]⟩;rw [hnn] at hgd;rw [← hgd] at hq;have Hsn:=ah hsn;have Zz:=ah hbad;clear hA hB hX HB HX hgd hnn hsn hbad;cases eb with
     | true=>
      clear Zz;go_wp2;go_roundw
      case rel=>exact ⟨j+1,om,gn,uh DL,uh JA,uh Hsn⟩
      case measure=>exact cO
     | false=>
      have Hg:=ah (uh Zz rfl);obtain ⟨t2,v2,g2⟩:=(HG.below DL).err 2 om;clear Zz Hsn CV;go_wp2;go_ret;exact ⟨ay ⟨uh Hg,_,⟨_,_,rfl⟩,rfl⟩,uh DL⟩
    ·have hjk:j=4 - k:=om;subst hjk;have Hg:=ah (CV.trans hA);have Zt:=ah hB;clear hA hB hX HB HX CV;go_wp2;go_ret;exact ⟨aA ⟨uh Hg,rfl⟩,uh Zt⟩
end
section
open Go.RowKit Go.Shelf
attribute [local go_sem ↓] dw fP fZ jJ kJ jY jU lD lH kQ
attribute [local go_sem] dK fO fV gK gy aV jK kH jX kZ kW iJ jW lq lC lu kF jc jd
attribute [local go_sem ↓] TU YG Y0
attribute [local go_sem] Uz Yi Yj Yk OG
attribute [local go_sem] pW pV Oper.semAt_some
theorem anj (w:World) (v:Nat) (Cv Lv:Value) (V:aB) (h:aN w v Cv Lv V) (hG:oQ w) (h5:5<V.C.length) (hC:V.C.length≤256) (hF: ∀ f ∈ bK V,gJ V f) (hT:num (cl V.C 0) 4=V.C.length):
  Calls Tryz.prog 95 #[.pointer (some ⟨v,0,none⟩)] w fun e w'=>((Ak (iE V) (aJ V.C) V.C.length 256 0= -1∧e= .returned .nilIface)∨ ∃ (n:Nat) (x:Value),Ak (iE V) (aJ V.C) V.C.length 256 0=(n:Int)∧isIface x∧e= .returned (kD n x))∧aC w w':=by
 have Hu:=ah (fun (W:World) (hB:aC w W)=>eY.1 (adK W v Cv Lv V (h.below hB) h5 hC hF));have hml:(iE V).length=256:=Oz V _;have hmm:=YU (V:=V) (bK V) hF;have hfl:(bK V).length≤5:=by
  unfold bK zZ
  have:=zU (aY (cl V.C 5))
  simp only [iQ,tH,xu];omega
 have Hh:=ah (fun (W:World) (hB:aC w W)=>IJ W v Cv Lv V (h.below hB) om);have Hc:=ah (fun (W:World) (hB:aC w W)=>Lr W v Cv Lv V (h.below hB) om);have hcl:=BI V.C h.kE om;have Ti: ∀ n,(iE V).getD n 0≤10000:=fun n=>by have:=hmm n;unfold iE;omega
 rw [hT] at Hh;have n6:=iD (cl V.C 0) 6;have HG:=ah hG;generalize num (cl V.C 0) 6=fst at*;generalize iE V=M at*;generalize aJ V.C=k at*;generalize V.C.length=cls at*;clear h hF hmm hG hT
 go_enter Tryz.func95,Tryz.ntmps95
 go_wp2_with fail
 refine (uh Hu w (bG _ _)).mono ?_;rintro e w1 ⟨rfl,b1⟩;have B1:=ah b1;clear b1 Hu
 go_wp2_with fail
 refine (uh Hh w1 B1).mono ?_;rintro e w2 ⟨rfl,b2⟩;have B2:=ah (B1.trans (b2.mono B1.size));have X2:=ah (aW w2 (.cells (nv M).toArray 161));have B2:=ah (B2.alloc B2.size (.cells (nv M).toArray 161));clear b2 Hh B1
 go_wp2_with fail
 refine (uh Hc _ B2).mono ?_;rintro e w3 ⟨rfl,b3⟩;have X3:=ah ((b3.block _ (aO X2)).trans X2);have B3:=ah (B2.trans (b3.mono B2.size));clear b3 Hc B2 X2;generalize w2.heap.size=bu at*;go_wp2
 go_loopw [5,6,14] (fun _ _ i w'=> ∃ j:Nat,j≤256∧i= .int .i64 j∧aC w w'∧w'.heap[bu]? = some (.cells (nv M).toArray 161 (0,0))∧Ak M k cls 256 0=Ak M k cls (256 - j) j) (fun _ _ i _=>256 - (intOf i).toNat)
 case atStart=>exact ⟨0,om,rfl,uh B3,uh X3,rfl⟩
 case round=>
  obtain ⟨j,hj,rfl,hB,hX,hP⟩:=hrel;clear B3 X3
  by_cases hlt:j<256
  ·have hji:(j:Int)<256:=om;have hix:=acU wr k hcl j hlt;have hbl:=tV k j;have hmj:=Ti j;have c1:wr.cell? ⟨bu,j,none⟩=some (.int .i64 ((M.getD j 0:Nat):Int)):=by rw [aG hX,bW,Kr _ _ (by rw [hml];exact hlt)]
   obtain ⟨t3,v3,g3⟩:=(HG.below hB).err 3 om;have hst:256 - j=(256 - (j+1))+1:=om;have e1:Ak M k cls (256 - (j+1)+1) j=if Sj M k cls j then (j:Int) else Ak M k cls (256 - (j+1)) (j+1):=rfl
   rw [hst,e1] at hP;clear e1;have hbc:Sj M k cls j=(decide (aI k j<M.getD j 0) || (decide (254<aI k j) || (decide (cls≤j) && decide (aI k j≠0)))):=rfl;rw [hbc] at hP;have HB:=ah hB;have HX:=ah hX;clear hbc;generalize aI k j=x at*;generalize M.getD j 0=m at*
   by_cases hA:x<m
   ·have dA:decide (((x:Nat):Int)<((m:Nat):Int))=true:=eH om;rw [eH hA,Bool.true_or,au rfl] at hP;have HF:=ah hP;clear hP hB hX hst;go_wp2;go_ret;exact ⟨ay ⟨j,_,uh HF,⟨_,_,rfl⟩,rfl⟩,uh HB⟩
   ·have dA:decide (((x:Nat):Int)<((m:Nat):Int))=false:=gU om;rw [gU hA,EO] at hP
    by_cases hB2:254<x
    ·have dB:decide ((254:Int)<((x:Nat):Int))=true:=eH om;rw [eH hB2,Bool.true_or,au rfl] at hP;have HF:=ah hP;clear hP hB hX hst;go_wp2;go_ret;exact ⟨ay ⟨j,_,uh HF,⟨_,_,rfl⟩,rfl⟩,uh HB⟩
    ·have dB:decide ((254:Int)<((x:Nat):Int))=false:=gU om;rw [gU hB2,EO] at hP
     by_cases hT2:cls≤j
     ·have dT:decide (((cls:Nat):Int)≤((j:Nat):Int))=true:=eH om;rw [eH hT2,tC] at hP
      by_cases h0:x=0
      ·subst h0;rw [ak dc] at hP;have HF:=ah hP;clear hP hB hX hst;go_wp2;go_roundw
       case rel=>exact ⟨j+1,om,gn,uh HB,uh HX,uh HF⟩
       case measure=>exact cO
      ·have d0:(((x:Nat):Int) != 0)=true:=by rw [nR];omega
       rw [eH h0,au rfl] at hP;have HF:=ah hP;clear hP hB hX hst;go_wp2;go_ret;exact ⟨ay ⟨j,_,uh HF,⟨_,_,rfl⟩,rfl⟩,uh HB⟩
     ·have dT:decide (((cls:Nat):Int)≤((j:Nat):Int))=false:=gU om;rw [gU hT2,Jr,ak dc] at hP;have HF:=ah hP;clear hP hB hX hst;go_wp2;go_roundw
      case rel=>exact ⟨j+1,om,gn,uh HB,uh HX,uh HF⟩
      case measure=>exact cO
  ·have hj6:j=256:=om;subst hj6;have HF:=ah hP;have HB:=ah hB;clear hP hB hX;go_wp2;go_ret;exact ⟨aA ⟨uh HF,rfl⟩,uh HB⟩
end
end Go.Proofs.YtknjjjenklfeoaaGreatDoor
