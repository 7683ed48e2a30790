import Derived.Test.YtknjjjenklfeoaaGreatDoorU49
import Derived.ChangeSame
import Derived.ProofKit
import Derived.Below
import Derived.Test.YtknjjjenklfeoaaGreatDoorChecked
set_option maxHeartbeats 8000000
set_option maxRecDepth 100000
set_option linter.all false
namespace Go.Proofs.YtknjjjenklfeoaaGreatDoor
open Go.RowKit
section
attribute [local go_sem ↓] O8 VX
def aaS (p b:Nat) (bv c:Value) (a:World):Prop:=a.cell? ⟨p,2,none⟩=some bv∧a.cell? ⟨b,5,none⟩=some c
def MkT (p q g k:Nat) (b c d:Value) (a:World):Prop:=a.cell? ⟨p,4,none⟩=some b∧a.cell? ⟨q,1,none⟩=some c∧a.cell? ⟨g,k,none⟩=some d
def ap9 (w:World) (p:Nat) (P:eP) (S:Nat→Prop) (N0:Nat) (E:List aW) (h:dL w p P S) (av:nI P N0 E) (hh:Gl P) (hG:oN w) (hL:P.V.L.length≤300000000) (ba:P.B.length≤1000) (ck:P.ms.length≤900000000) (o:lM) (hn: -9223372036854775808≤o.n∧o.n≤9223372036854775807) (ga:Option Addr) (gn gc:Nat) (gs:Nat→Bool) (bb:o.gone= .slice ga gn gc) (bd:MF w ga gn gs) (bf:gn≤4000000000000):
  Calls Tryz.prog 66 #[.pointer (some ⟨p,0,none⟩),.agg (dI o).toArray] w fun e w'=> ∃ q,e= .returned (.tuple #[.pointer (some ⟨q,0,none⟩),.bool true])∧(q=p∧aC w w'∨ ∃ Q R,Gp w w' q Q R):=by
 obtain ⟨l,ml,aw,cm,cp⟩:=hh.last;have ax:0<P.ms.length:=by rw [aw];simp
 have bh:=ah aw;clear aw;obtain ⟨N,az⟩: ∃ N,P.ms[0]? = some N:=⟨_,bJ ax⟩;have cq:N.log≤P.V.L.length:=hh.le N (afC az);obtain ⟨mg,Vw,bj,_⟩:=gy h.BP ax;have t:=av.bH;have an:=t.log.low;have qm:=t.file.most;have cr:=RH w o;have H:=ah (h.below (qG w o));have B0:Hid (Below w.heap.size w (w.alloc (.cells (dI o).toArray 80))):=qG w o;have X0:=ah (RH w o);have HG:=ah (hG.below (qG w o));have WV:=ah (bd.below (qG w o));have HS:=ah av;have HH:=ah hh;have aD:=ah az;have I:=ah bj;have c0:=H.c0;have zB:=h.ig.bH.zZ;clear h av hh hG bd t cr az bj
 go_enter Tryz.func66,Tryz.ntmps66
 go_wp2_with fail
 generalize w.alloc (.cells (dI o).toArray 80)=w0 at*;generalize bl:w.heap.size=A at*;refine (XO w0 _ _ _ _ _ H.ig om).mono ?_;rintro e w1 ⟨lv,rfl,aE,b1⟩;have H1:=ah (H.below b1);have u:=ah ((b1.block _ (aK X0)).trans X0);have B1:=ah (B0.trans (b1.mono (SN (aK X0))));have G1:=ah (HG.below b1);have bn:=ah (WV.below b1);have LR:Hid (Io w1 lv P.V.L):=⟨Ba aE (lX _),zB⟩;obtain ⟨la,jh,cu⟩:=gQ aE;subst cu;have c4:=H1.c4;rw [uh I] at c4;have k0:=(H1.mark I aD).1;have cn:w1.cell? ⟨A,1,none⟩=some (.int .i64 o.n):=(aF u 1).trans rfl;clear b1 aE H B0 X0 HG WV c0;have Nc:(N.log:Int)≤(P.V.L.length:Int):=om;have Ee:(P.V.L.length:Int)≤300000000:=om;generalize ch:N.log=first at*;have cw:(0:Int)<(P.ms.length:Int):=om
 go_wp2_with fail
 have aL:=ar8 o.n (P.V.L.length - first+1) om om w1 hn;rw [show (((P.V.L.length - first+1:Nat)):Int)=(P.V.L.length:Int) - (first:Int)+1 by omega] at aL;refine aL.mono ?_;rintro e O ⟨rfl,rfl⟩;have Nj:=ali o.n (n:=P.V.L.length - first+1) om;generalize JM o.n (P.V.L.length - first+1)=g at*;have bp:(first:Int)+(g:Int)≤300000000:=om;have bq:=ah (HH.cuts (first+g) gn gs (by
  have:P.ms.head? = some N:=by rw [List.head?_eq_getElem?];exact uh aD
  rw [this];show N.log≤_
  omega) om)
 have bt:first+g≤P.V.L.length:=om;have aM:o.gone= .slice ga gn gc:=bb;have a:aaS p A P.bv (.slice ga gn gc) O.drew:=⟨H1.c2,by rw [← aM];exact (aF (w:=O) u 5).trans rfl⟩;have TM:=ar9 O.drew P.bv (.slice la P.V.L.length jh) P.B P.V.L (H1.below (bG _ O).drew).Dw ba (LR.kept (S:=fun _=>False) (Kept.dQ (bG _ O).drew) (fun _ _=>id)) (first+g) bt om (fun x hx=>by have:=an x hx;omega) ga gn gc gs (bn.below (bG _ O).drew) bf;rw [show ((first+g:Nat):Int)=(first:Int)+(g:Int) by omega] at TM;have TM:=ah TM;clear aL c4 k0 cn Nj
 go_wp2_with fail
 refine xZ (aaS p A P.bv (.slice ga gn gc)) 9 kr ?_;refine tk 0 a ?_;refine tk 1 a ?_;refine tk 2 a ?_;refine tk 3 a ?_;refine tk 4 a ?_;refine tk 5 a ?_;refine tk 6 a ?_;refine tk 7 a ?_;refine wo 8 fun K8 bw=> ?_;go_simp;go_at_call 125;refine TM.mono ?_;rintro e w3 ⟨fv,rfl,bx,b3⟩;have Z:aC O w3:=((bG _ O).drew).trans b3;have bA:aaS p A P.bv (.slice ga gn gc) w3:=⟨(H1.below Z).c2,by rw [← aM];exact (aF ((Z.block _ (aK u)).trans u) 5).trans rfl⟩;have H3:=ah (H1.below Z);have X3:=ah ((Z.block _ (aK u)).trans u);have B3:=ah (B1.trans (Z.mono (SN (iL (aK u) (aO _)))));have G3:=ah (G1.below Z);have R3:=ah bx;clear b3 Z bx H1 u B1 G1 bn LR TM;refine bw _ _ (ay bA) ?_;refine wo 9 fun K9 bB=> ?_;go_simp;refine bB _ _ (aA rfl) ?_;refine sH kr ?_ _;clear a bA bB bw;clear K9 K8;obtain ⟨i,mk,hi,bE,T,N1,E1,af⟩:=uh bq;obtain ⟨ao,bL⟩:=af.opens
 have c7:=af.file.most;have o7:=af.file.lens;have cx:(replay P.B (qg P.V.L (uG P.V.L (first+g)) gn gs (first+g))).length≤1000:=by have:=af.file.le;omega
 have Hi:=ah hi;have uK:=ah bE;have Xb:=ah o7;have Oj:=ah ao;clear af hi bE bq o7 ao;generalize replay P.B (qg P.V.L (uG P.V.L (first+g)) gn gs (first+g))=file at*
 go_wp2_with fail
 refine (adW w3 fv file R3 G3 cx Oj).mono ?_;rintro e w4 ⟨q,Q,R,rfl,U⟩;have HF:=ah (U.fresh (w:=w) Xb Oj (by show Below w.heap.size w _;rw [bl];exact uh B3));have bN:Hid (∀ k,R k→A<k):=fun k hk=>iL (aK X3) (U.new k hk);have H4:=ah (H3.below U.below);have X4:=ah ((U.below.block _ (aK X3)).trans X3);have B4:=ah (B3.trans (U.below.mono (by have:=aK X3;omega)));have HQ:=ah U.at';have UH:Q.D=mk.D:=U.D.trans bL;clear U R3 G3 H3 X3 B3 Xb Oj bL;have cz:wQ P.ms (first+g)<P.ms.length:=by
  have:=(adf P.ms [] (first+g) ⟨ml,by rw [uh bh];simp,om⟩).2
  exact this
 have bO:=ah (ajF P.ms (first+g) cz);have bR:=ah (ajE P.ms (first+g));generalize wQ P.ms (first+g)=kk at*;have ad:=H4.c4;rw [uh I] at ad;have c8:(kk:Int)<(P.ms.length:Int):=om;have c9:(P.ms.length:Int)≤900000000:=om;go_wp2
 go_loopw [12] (fun k w'=> ∃ j:Nat,j≤kk∧k= .int .i64 j∧w'=w4) (fun k _=>kk - (intOf k).toNat)
 case atStart=>exact ⟨0,lX _,rfl,rfl⟩
 case round=>
  obtain ⟨j,hj,rfl,hw⟩:=hrel;have hw:=hw.symm;subst hw;have cA:(j:Int)<(P.ms.length:Int):=om;have da:decide ((j:Int)<(P.ms.length:Int))=true:=dZ cA
  by_cases cB:j<kk
  ·obtain ⟨mj,aR,cC⟩:=uh bR j cB;have cj:=(H4.mark I aR).1;have a5:(mj.log:Int)<(first:Int)+(g:Int):=om;have bS:decide ((mj.log:Int)<(first:Int)+(g:Int))=true:=dZ a5;generalize mj.log=lj at*;go_wp2;go_roundw
   case rel=>exact ⟨j+1,om,by go_num,trivial⟩
   case measure=>exact bW
  ·obtain rfl:j=kk:=om;obtain ⟨mj,aR,cC⟩:=uh bO;have cj:=(H4.mark I aR).1;have a5: ¬ (mj.log:Int)<(first:Int)+(g:Int):=om;have bS:decide ((mj.log:Int)<(first:Int)+(g:Int))=false:=gK a5;generalize mj.log=lj at*;have CX:Hid (Cx w w4 p q A P Q S R o):=⟨uh H4,uh HQ,uh X4,uh B4⟩;have db:(j:Int)≤900000000:=om;clear H4 HQ X4 B4
   go_upto_block 2 with fail
   clear cj bS ad
   go_cut [13,14,15] from 20 to 119 (fun r _ _ W=>r= .bool true∧Cx w W p q A P Q S R o)
   case first=>
    go_wp2_with fail
    go_loopw [13,14] (fun r v w'=> ∃ (s:Nat) (b:Bool),s≤2∧s≤j+1∧v= .int .i64 ((j:Int) - (s:Int))∧r= .bool b∧(j+1≤i+s→b=true)∧Cx w w' p q A P Q S R o) (fun _ v _=>((intOf v) - (j:Int)+2).toNat)
    case atStart=>exact ⟨0,false,om,om,sm,rfl,fun h=>by rcases uh Hi with e | e <;> omega,uh CX⟩
    case round=>
     obtain ⟨s,b,dd,de,rfl,rfl,hb,aa⟩:=hrel;have Hb:=ah hb;have K:=ah aa;clear hb aa CX;have df:(s:Int)≤2:=om
     by_cases dg:s≤1∧s≤j
     ·have g0:(0:Int)≤(j:Int) - (s:Int):=om;have g1:(j:Int) - 1≤(j:Int) - (s:Int):=om;obtain ⟨x,hx⟩: ∃ x,j - s=x:=⟨_,rfl⟩;have bX:(j:Int) - (s:Int)=(x:Int):=om;have cD:x<P.ms.length:=om;have cE:(x:Int)<(P.ms.length:Int):=om;obtain ⟨F,U7⟩: ∃ F,P.ms[x]? = some F:=⟨_,bJ cD⟩;have ad:=K.one.c4;rw [uh I] at ad;have cd:=(K.one.mark I U7).2;have cy:=K.two.c1;have Hx:=ah hx;have cF:=ah U7;have dx:decide ((x:Int)<(P.ms.length:Int))=true:=dZ cE;rw [bX] at g0 g1 ⊢;have ag:=afC U7;have h4:=HH.few F ag;have cG:Q.D.L.length≤4:=by rw [UH];exact HH.few mk (afC uK)
      have Hs:=ah (aeA wr.drew Q.y F.d _ _ _ _ (K.later (bG _ wr).drew).two.ref ((K.later (bG _ wr).drew).one.eM F ag) om om);have a:MkT p q mg (x*2+1) (.slice (some ⟨mg,0,none⟩) P.ms.length Vw) (.pointer (some ⟨Q.y,0,none⟩)) (.pointer (some ⟨F.d,0,none⟩)) wr.drew:=⟨ad,cy,cd⟩;have cH:Hid (x=i→Sm Q.D F.D=true):=fun e=>by
       have h5:P.ms[i]? = some F:=by rw [← e];exact U7
       rw [uh uK] at h5;injection h5 with h5;rw [UH,h5];exact aez.2 rfl
      clear hx U7 bX ag h4 cG
      go_wp2_with fail
      clear ad cy cd;refine xZ (MkT p q mg (x*2+1) (.slice (some ⟨mg,0,none⟩) P.ms.length Vw) (.pointer (some ⟨Q.y,0,none⟩)) (.pointer (some ⟨F.d,0,none⟩))) 22 kr ?_;refine tk 0 a ?_;refine tk 1 a ?_;refine tk 2 a ?_;refine tk 3 a ?_;refine tk 4 a ?_;refine tk 5 a ?_;refine tk 6 a ?_;refine tk 7 a ?_;refine tk 8 a ?_;refine tk 9 a ?_;refine tk 10 a ?_;refine tk 11 a ?_;refine tk 12 a ?_;refine tk 13 a ?_;refine tk 14 a ?_;refine tk 15 a ?_;refine tk 16 a ?_;refine tk 17 a ?_;refine tk 18 a ?_;refine tk 19 a ?_;refine wo 20 fun cI aq=> ?_;go_simp;go_at_call 59;refine Hs.mono ?_;rintro e m ⟨rfl,X⟩;have b4:aC wr m:=((bG _ wr).drew).trans X;have C5:=ah (K.later b4);have a6:=C5.one.c4;rw [uh I] at a6
      have a7:MkT p q mg (x*2+1) (.slice (some ⟨mg,0,none⟩) P.ms.length Vw) (.pointer (some ⟨Q.y,0,none⟩)) (.pointer (some ⟨F.d,0,none⟩)) m:=⟨a6,C5.two.c1,(C5.one.mark I cF).2⟩;clear X b4 K Hs;generalize Sm Q.D F.D=sm at*;refine aq _ _ (ay a7) ?_;refine wv 21 a7 ?_;refine wo 22 fun cJ ar=> ?_;go_simp;refine ar _ _ (aA rfl) ?_;refine sH kr ?_ _;clear a a7 a6 ar aq;clear cJ cI;cases b
      ·go_wp2;go_roundw
       case rel=>
        refine ⟨s+1,sm,om,om,?_,rfl,fun h=> ?_,uh C5⟩
        ·rw [show (x:Int) - 1=(j:Int) - ((s+1:Nat):Int) by have:=uh Hx;omega]
        ·have hx:=uh Hx
         by_cases e:x=i
         ·exact uh cH e
         ·have:=uh Hb om
          cases this
       case measure=>exact bW
      ·go_wp2;go_roundw
       case rel=>
        refine ⟨s+1,true,om,om,?_,rfl,fun _=>rfl,uh C5⟩;rw [show (x:Int) - 1=(j:Int) - ((s+1:Nat):Int) by have:=uh Hx;omega]
       case measure=>exact bW
     ·obtain rfl:b=true:=uh Hb (by rcases uh Hi with e | e <;> omega)
      by_cases h1:s≤j
      ·have g0:(0:Int)≤(j:Int) - (s:Int):=om;have g1: ¬ (j:Int) - 1≤(j:Int) - (s:Int):=om;go_wp2;go_meet;exact ⟨rfl,uh K⟩
      ·have g0: ¬ (0:Int)≤(j:Int) - (s:Int):=om;go_wp2;go_meet;exact ⟨rfl,uh K⟩
   case rest=>
    obtain ⟨rfl,aa⟩:=hcut;obtain ⟨NQ,EQ,a8⟩:=HF.stands;have F1:Hid (CJ w wc q Q R):={ uh HF with at':=aa.two,below:=by show Below w.heap.size w _;rw [bl];exact aa.below };have u:=ah aa.box;have t:=a8.bH;have h7:=t.file.seven;have h8:=t.file.most;have h0:Q.V.L.length=0:=HF.log;have cK:Q.B.length≤1000:=HF.base;have dh:Q.ms.length=2:=HF.marks;have Hf:Hid (∀ f ∈ bP Q.V,gU Q.V f):=fun f hf=>by rw [t.yE] at hf;exact t.sound.BF hf
    have cL:=ah t.YO.yE;have cM:=ah t.au2;have cN:=ah a8;have c0:=F1.at'.c0;clear a8 t HF CX Hi uK HH bh aD I HS bO bR aa
    go_wp2_with fail
    refine (XL wc _ _ _ _ Q.V F1.at'.ig om h8 Hf).mono ?_;rintro e m ⟨rfl,X⟩;generalize c6:yx Q.V=st at*;have Y:aC m (m.alloc (.cells (jG st).toArray 51)):=fC;have F5:=ah ((F1.later X).later Y);have X5:=ah ((Y.block _ (iL (aK u) X.size)).trans ((X.block _ (aK u)).trans u));have z5:Hid ((m.alloc (.cells (jG st).toArray 51)).heap[m.heap.size]? = some (.cells (jG st).toArray 51 (0,0))):=aX _ _;have b6:Hid (¬ R m.heap.size):=fun hk=>by have:=F1.at'.lt _ hk;have:=X.size;omega
    have cP:(LJ ⟨m.heap.size,0,none⟩ (.agg (jG st).toArray)).run Tryz.prog (m.alloc (.cells #[.int .i64 0,.int .i64 0,.int .i64 0,.int .i64 0,.int .i64 0] 51))= .ok () (m.alloc (.cells (jG st).toArray 51)):=aey (w:=m) (z:=zs5) st rfl;have cQ:=F5.at'.c0;have di:m.heap.size<(m.alloc (.cells (jG st).toArray 51)).heap.size:=aK z5;clear Y X F1 u c0
    go_wp2_with fail
    clear cP;generalize m.alloc (.cells (jG st).toArray 51)=w6 at*;generalize m.heap.size=bs at*;refine (ahS w6 _ _ _ _ Q.V F5.at'.ig om h8 om Hf cL).mono ?_;rintro e w7 ⟨rfl,Cq,Lq,hs⟩;obtain ⟨b7,ab⟩:=alQ F5.at' cN hs;have ai:=ah b7;have a9:=ah ab;have c3:=(F5.at'.step hs).c3;have z3:=(F5.at'.step hs).fz 3;have dj:(uV Q.V).L.length≤Q.V.L.length+100:=ab.log;have dk:A<w6.heap.size:=aK X5;have z8:=ah (ab.kept.aG b6 z5);have X8:=ah (ab.kept.aG (fun hk=>Nat.lt_irrefl _ (uh bN _ hk)) X5);have cR:Hid (¬ (fun k=>R k∨eX Q.v Cq Lq k) bs):=fun hk=>(ab.new _ hk).elim b6 (fun x=>om);have cS:Hid (¬ (fun k=>R k∨eX Q.v Cq Lq k) A):=fun hk=>(ab.new _ hk).elim (fun x=>Nat.lt_irrefl _ (uh bN _ x)) (fun x=>om);clear hs b7 ab cQ z5 X5;generalize al:({ Q with Cv:=Cq,Lv:=Lq,V:=uV Q.V,ex:=true }:eP)=M at*;have b8:M.V=uV Q.V:=by rw [← al]
    have cT:M.B=Q.B:=by rw [← al]
    have cU:M.ms=Q.ms:=by rw [← al]
    clear al;generalize (fun k=>R k∨eX Q.v Cq Lq k)=R1 at*
    go_wp2_with fail
    generalize w7.setCell ⟨q,3,none⟩ (.bool true)=w8 at*;refine (Sz w8 q M R1 NQ EQ a9.at' ai (by rw [b8];omega) (by rw [cT];exact cK) (by rw [cU];omega)).mono ?_;rintro e w9 ⟨rfl,dm,m2,b9,ca,R2,h2,k2,n2⟩;have N9:=ah (F5.as9 (bG _ _) a9 ai b9 ca h2 k2 n2);have z9:=ah (k2.aG cR z8);have X9:=ah (k2.aG cS X8);have cV:=h2.c0;have cW:Hid (∀ f ∈ bP M.V,gU M.V f):=fun f hf=>by have t:=ai.bH;rw [t.yE] at hf;exact t.sound.BF hf
    have cX:M.V.C.length≤256∧7≤M.V.C.length:=⟨ai.bH.file.most,ai.bH.file.seven⟩;clear h2 k2 n2 b9 ca a9 F5 z8 X8 c3 z3
    go_wp2_with fail
    refine (XL w9 _ _ _ _ M.V N9.at'.ig om cX.1 cW).mono ?_;rintro e G ⟨rfl,ae⟩;rw [b8,uh cM];have Y:aC G (G.alloc (.cells (jG ⟨st.Gt,st.used,0,0,0⟩).toArray 51)):=fC;have cb:=ah ((N9.later ae).later Y);have zA:=(Y.block _ (iL (aK z9) ae.size)).trans ((ae.block _ (aK z9)).trans z9);have xA:=(Y.block _ (iL (aK X9) ae.size)).trans ((ae.block _ (aK X9)).trans X9);have yA:(G.alloc (.cells (jG ⟨st.Gt,st.used,0,0,0⟩).toArray 51)).heap[G.heap.size]? = some (.cells (jG ⟨st.Gt,st.used,0,0,0⟩).toArray 51 (0,0)):=aX _ _;have cc:(LJ ⟨G.heap.size,0,none⟩ (.agg (jG ⟨st.Gt,st.used,0,0,0⟩).toArray)).run Tryz.prog (G.alloc (.cells #[.int .i64 0,.int .i64 0,.int .i64 0,.int .i64 0,.int .i64 0] 51))= .ok () (G.alloc (.cells (jG ⟨st.Gt,st.used,0,0,0⟩).toArray 51)):=aey (w:=G) (z:=zs5) ⟨st.Gt,st.used,0,0,0⟩ rfl;generalize cf:st.Gt=sc at*;generalize cg:st.used=su at*
    have cY:=ah cf;have c5:=ah cg;clear cf cg;have ZA:=ah zA;have XA:=ah xA;have YA:=ah yA;clear ae N9 z9 X9 Y zA xA yA
    go_upto_region 22 with fail
    clear cc cV;generalize G.alloc (.cells (jG ⟨sc,su,0,0,0⟩).toArray 51)=J at*;generalize G.heap.size=bm at*;have a0:J.cell? ⟨bm,0,none⟩=some (.int .i64 (sc:Nat)):=(aF YA 0).trans rfl;have a1:J.cell? ⟨bm,1,none⟩=some (.int .i64 (su:Nat)):=(aF YA 1).trans rfl;have a2:J.cell? ⟨bm,2,none⟩=some (.int .i64 0):=(aF YA 2).trans rfl;have a3:J.cell? ⟨bm,3,none⟩=some (.int .i64 0):=(aF YA 3).trans rfl;have a4:J.cell? ⟨bm,4,none⟩=some (.int .i64 0):=(aF YA 4).trans rfl;have s0:J.cell? ⟨bs,0,none⟩=some (.int .i64 (sc:Nat)):=(aF ZA 0).trans (by rw [← uh cY];rfl);have s1:J.cell? ⟨bs,1,none⟩=some (.int .i64 (su:Nat)):=(aF ZA 1).trans (by rw [← uh c5];rfl);have ct:J.cell? ⟨A,3,none⟩=some (.string o.text):=(aF XA 3).trans rfl;clear ZA XA YA hL ba ck hn bf cm cp ax qm an zB Ee cq Nc cw bp bt aM bb
    go_cut [19] from 140 to 166 (fun c W=>c= .bool true∧W=J)
    case first=>
     go_wp2;go_meet;exact ⟨rfl,rfl⟩
    case rest=>
     obtain ⟨rfl,hw⟩:=hcut;subst hw
     go_upto_region 23 with fail
     clear a0 a1 a2 a3 a4 s0 s1;generalize o.text=tx at ct;cases hte:tx.toList.isEmpty
     ·go_wp2;go_ret2;exact ⟨q,rfl,ay ⟨_,_,uh cb⟩⟩
     ·go_wp2;go_ret2;exact ⟨p,rfl,aA ⟨rfl,cb.below⟩⟩
end
section
attribute [local go_sem ↓] IZ
attribute [local go_sem] Jd jc jd
def av6 (w:World) (p b:Nat) (P:eP) (S U:Nat→Prop) (N0:Nat) (E:List aW) (V:oM) (B:nG) (h:dL w p P S) (ab:nI P N0 E) (hb:iY w b V B U) (oZ: ∀ k,S k→ ¬ U k) (hL:P.V.L.length≤300000000) (ax:P.B.length≤1000) (az:P.ms.length≤1000000000) (o:lM) (hn:o.name.size≤maxLen) (hk:o.kind=5):
  Calls Tryz.prog 34 (Bc p b o) w fun e w'=>e= .returned (.tuple #[.pointer (some ⟨p,0,none⟩),.bool true])∧Ends w w' p b P S B U:=by
 unfold Bc;have ck:=Lp w o;have l1:=Y5 w o;have l2:=Y4 w o;have hj:=O1 hk;have H:=ah h;have HB:=ah hb;have f:=ah ab;have B0:=ah (qG w o);clear h ab hk hb
 go_enter Tryz.func34,Tryz.ntmps34
 go_wp2_with fail
 have m:=f.bH;have h7:=m.file.seven;have qm:=m.file.most;have a7:P.D.L.length≤4:=by rw [← f.jw,Jw];exact m.file.iR.len
 have J:=ah (m.aqn o.name);rw [f.jw] at J;have Qp:=ah (fun he=>m.aqo (s:=o.name) he);have ad:=fun k hk=>H.lt k (H.Di k (ay hk));have Om:=ah ad;have X0:Hid ((w.alloc (.cells (dI o).toArray 80)).heap[w.heap.size]? = some (.cells (dI o).toArray 80 (0,0))):=aX _ _;clear m ad ck l1 l2;generalize w.alloc (.cells (dI o).toArray 80)=A at*;have u:=B0;have K:=X0;clear B0 X0;have n:Ku p w.heap.size P.d o.name A.drew:=⟨(H.below u.drew).c0,(aF (w:=A) K 2).trans rfl⟩;have Hw:=ah (aqc A.drew P.d P.v P.Cv P.Lv P.V (H.below u.drew).ig om qm om o.name hn Qp);have EL:Hid (jo P.V (zf P.V o.name).1 P.D (A8 P.D o.name).1):=by
  have ht:=f.bH.awL o.name;rw [f.jw] at ht;exact ht
 have aD:=f.bH.Jy;generalize hR:zf P.V o.name=R at*;have HR:=ah hR;clear hR;refine xZ (Ku p w.heap.size P.d o.name) 7 kr ?_;refine tk 0 n ?_;refine tk 1 n ?_;refine tk 2 n ?_;refine tk 3 n ?_;refine tk 4 n ?_;refine tk 5 n ?_;refine wo 6 fun K6 aE=> ?_;go_simp;go_at_call 29;refine Hw.mono ?_;rintro e i ⟨rfl,q,r,l⟩;have z:Hid (dF A i P.v P.Cv P.Lv q r R.1):=⟨l.at',⟨l.kept.os,l.kept.tape,l.kept.output,l.kept.size,l.kept.block⟩,l.new⟩;have ae: ∀ k,w.heap.size≤k→ ¬ eX P.v P.Cv P.Lv k:=fun k hk hf=>by have:=uh Om k hf;omega
 have C:=ah (z.kept.aG (ae _ (aO _)) K);have t:=ah ((H.below u).step z);have af:=t.c0;have ag:Ku p w.heap.size P.d o.name i:=⟨af,(aF C 2).trans rfl⟩;clear l ae;refine aE _ _ (ay ag) ?_;refine wo 7 fun K7 aL=> ?_;go_simp;refine aL _ _ (aA rfl) ?_;refine sH kr ?_ _;clear n ag af Hw K
 go_wp2_with fail
 have ai: ∃ M,(A8 P.D o.name).2=R.2∧R.1.L.length≤P.V.L.length+100∧P.V.L.length≤R.1.L.length∧ ∀ a,nI { P with Cv:=q,Lv:=r,V:=R.1,D:=(A8 P.D o.name).1,Pv:=a } N0 M:=by
  rcases uh J with ⟨c,hc,N,O⟩ | ⟨O,N,Q,hm,E',F⟩
  ·rw [N,O];exact ⟨E,rfl,afA _ _,aO _,fun a=>⟨f.bH,f.jw,f.exact⟩⟩
  ·rw [N,O];exact ⟨E',rfl,Q,hm,fun a=>⟨F.bH,F.holds,fun hx=>F.exact (f.exact hx)⟩⟩
 obtain ⟨M,aa,Q,hm,Y⟩:=ai;have al:=ah Y;have j:TS p w.heap.size P.y o.name i.drew:=⟨t.c1,(aF (w:=i) C 2).trans rfl⟩;have aM:=ah (fun W=>Ei ((R.2:Nat):Int) W);have T:=ah (auO i.drew P.y P.Pv P.D (t.ref.below ((bG _ i).drew)) om o.name hn);rw [aa] at T;have a6:=H.ref.lt;have Nj:=H.lt _ H.AL;have aR:=u.size;have a0:=z.kept.size;have Xf:=ah (fun (w6:World) (a:Value) (hr:WR i.drew w6 P.y P.Pv a (A8 P.D o.name).1)=>wz.did (w6:=w6) (D':=(A8 P.D o.name).1) H u z ⟨hr.kept.os,hr.kept.tape,hr.kept.output,hr.kept.size,hr.kept.block⟩ hr.at' (fun g m=>by
  rcases hr.new g m with x | x
  ·exact aA (H.iI g (aA x))
  ·exact ay (jL (jL aR a0) x)) Q)
 have an:=t.aiB;have ao:p<i.heap.size:=om;have aq:=t.c1;have ar:=ah (fun (w6:World) (hk:Kept (fun x=>x=P.y) i.drew w6)=>(show TS p w.heap.size P.y o.name w6 from
   ⟨(Md (hk.block p ao an)).trans aq,(aF (hk.aG (show ¬ w.heap.size=P.y by omega) C) 2).trans rfl⟩))
 clear an ao aq Y J;refine xZ (TS p w.heap.size P.y o.name) 10 kr ?_;refine tk 0 j ?_;refine tk 2 j ?_;refine tk 3 j ?_;refine tk 4 j ?_;refine tk 5 j ?_;refine tk 6 j ?_;refine tk 7 j ?_;refine wo 1 fun K1 a1=> ?_;go_simp;go_at_call 64;refine (uh aM _).mono ?_;rintro e a8 ⟨rfl,rfl⟩;refine a1 _ _ (ay j) ?_;refine wo 8 fun K8 a2=> ?_;go_simp;go_at_call 65;refine T.mono ?_;rintro e X ⟨rfl,a,G⟩;have H1:=ah (uh Xf X a G);have av:=ah (uh al a);have I:=uh ar X G.kept;clear G Xf al T ar;refine a2 _ _ (ay I) ?_;refine tk 9 I ?_;refine wo 10 fun a9 aw=> ?_;go_simp;refine aw _ _ (aA rfl) ?_;refine sH kr ?_ _;clear j I C t z;have ba:=H1.log;have a3:Hid (MB P.V ({ P with Cv:=q,Lv:=r,V:=R.1,D:=(A8 P.D o.name).1,Pv:=a }:eP).V P.D ({ P with Cv:=q,Lv:=r,V:=R.1,D:=(A8 P.D o.name).1,Pv:=a }:eP).D):=EL.Ul aD
 generalize { P with Cv:=q,Lv:=r,V:=R.1,D:=(A8 P.D o.name).1,Pv:=a }=P1 at*;generalize (fun k=>(S k∨eX P.v q r k)∨a.ownBlock=some k)=S1 at*
 go_wp2_with fail
 refine (Sz X p P1 S1 N0 M H1.at' av om (by rw [H1.base];exact ax) (by rw [H1.marks];exact az)).mono ?_;rintro e w2 ⟨rfl,bb,m2,a4,a5,S2,h2,k2,n2⟩;have Z:=(H1.made a3).ends av a4 a5 HB oZ h2 k2 n2;have CO:=ah Z;clear Z h2 k2 n2;go_wp2;go_ret2;exact ⟨rfl,uh CO⟩
end
def aum (G:eP→Prop) (t: ∀ P,G P→Holds P) (q: ∀ w a p b P S B U,G P→Ends w a p b P S B U→ ∃ P',G P'∧ ∃ u l m n,MN w a p b P S B U P' u l m n):Xk 9 true G agC:=by
 intro w p b P S V B U o h d i f hL v x y z A j r C;obtain ⟨⟨N0,E,c⟩,hB⟩:=t P d;have s:o.kind≤0∨o.kind=1∨o.kind=2∨o.kind=3∨o.kind=4∨o.kind=5∨o.kind=6∨o.kind=7∨o.kind=9:=by
  unfold GV at r;simp at r;omega
 rcases s with hk | hk | hk | hk | hk | hk | hk | hk | hk
 ·refine (av7 w p b o hk).mono ?_;rintro e a ⟨rfl,k⟩;exact ⟨p,rfl,P,d,S,V,B,U,(Stepped.none h i f k).Ez⟩
 ·refine (VW w p b o _ om (aoX _ p b P S N0 E (h.below (qG w o)) c o hk)).mono ?_;rintro e a ⟨rfl,k⟩;exact ⟨p,rfl,P,d,S,V,B,U,(Stepped.asked h i f k).Ez⟩
 ·refine (aeO w p b P S U V B i f om hB om c.bH.Jy o _ (aA ⟨hk,rfl⟩) ((axD _ p P S N0 E (h.below (qG w o)) c om o j.1).mono fun e a g=>⟨g.1,let ⟨P',hs,hr⟩:=g.2;⟨P',N0,E,hs,hr⟩⟩)).mono ?_;rintro e a ⟨rfl,g⟩;exact ⟨p,rfl,q _ _ _ _ _ _ _ _ d g⟩
 ·refine (aeO w p b P S U V B i f om hB om c.bH.Jy o _ (ay (aA ⟨hk,rfl⟩)) (avU _ p P S N0 E (h.below (qG w o)) c om o j.2 hk)).mono ?_;rintro e a ⟨rfl,g⟩;exact ⟨p,rfl,q _ _ _ _ _ _ _ _ d g⟩
 ·refine (aeO w p b P S U V B i f om hB om c.bH.Jy o _ (ay (ay ⟨hk,rfl⟩)) (avT _ p P S N0 E (h.below (qG w o)) c om o j.2 hk)).mono ?_;rintro e a ⟨rfl,g⟩;exact ⟨p,rfl,q _ _ _ _ _ _ _ _ d g⟩
 ·refine (av6 w p b P S U N0 E V B h c i f om hB om o j.2 hk).mono ?_;rintro e a ⟨rfl,g⟩;exact ⟨p,rfl,q _ _ _ _ _ _ _ _ d g⟩
 ·refine (VW w p b o _ om (aoV _ p b P S U N0 E V B (h.below (qG w o)) c (i.below (qG w o)) om om o hk)).mono ?_;rintro e a ⟨rfl,l,m,n,hs⟩;exact ⟨p,rfl,P,d,S,l,m,n,(hs.amr h f).Ez⟩
 ·refine (VW w p b o _ om (aoW _ p b P S N0 E (h.below (qG w o)) c o hk j.2)).mono ?_;rintro e a ⟨rfl,k⟩;exact ⟨p,rfl,P,d,S,V,B,U,(Stepped.asked h i f k).Ez⟩
 ·refine (VW w p b o _ om (aoU _ p b P S U N0 E V B (h.below (qG w o)) c (i.below (qG w o)) f om om om om o hk)).mono ?_;rintro e a ⟨rfl,l,m,n,hs⟩;exact ⟨p,rfl,P,d,S,l,m,n,(hs.amr h f).Ez⟩
structure Seen (w:World) (o:lM):Prop where
 texts:agC w o
 Ya:oN w
 raw: ∃ ra rn rc ss,o.raw= .slice ra rn rc∧Ov w ra rn ss∧rn≤maxLen
def atK (G:eP→Prop) (q: ∀ P,G P→Holds P) (r: ∀ w a p b P S B U,G P→Ends w a p b P S B U→ ∃ P',G P'∧ ∃ c A C D,MN w a p b P S B U P' c A C D) (s: ∀ w a f P' c,CJ w a f P' c→G P'):Xk 13 true G Seen:=by
 intro w p b P S V B U o h g d k hL u v x y z j n F;obtain ⟨⟨N0,E,l⟩,hB⟩:=q P g;have t:(GV 9 true o.kind=true)∨o.kind=10∨o.kind=11∨o.kind=12∨o.kind=13:=by
  unfold GV at n ⊢;simp at n ⊢;omega
 rcases t with hk | hk | hk | hk | hk
 ·exact aum G q r w p b P S V B U o h g d k hL u v x y z j.texts hk F
 ·refine (VW w p b o _ om (aoT _ p b P S N0 E (h.below (qG w o)) l o hk)).mono ?_;rintro e a ⟨rfl,m⟩;exact ⟨p,rfl,P,g,S,V,B,U,(Stepped.asked h d k m).Ez⟩
 ·refine (av9 w p b P S U N0 E V B h l d k om hB om o hk).mono ?_;rintro e a ⟨rfl,I⟩;exact ⟨p,rfl,r _ _ _ _ _ _ _ _ g I⟩
 ·refine (av4 w p b P S N0 E h l j.Ya o hk).mono ?_;rintro e a ⟨f,rfl,P',c,i⟩;exact ⟨f,rfl,P',s _ _ _ _ _ i,c,V,B,U,i.Ez d⟩
 ·obtain ⟨J,K,rc,L,hr,hs,hn⟩:=j.raw;refine (av8 w p b j.Ya o J K rc L hr hs hn hk).mono ?_;rintro e a (⟨rfl,m⟩ | ⟨f,rfl,P',c,i⟩)
  ·exact ⟨p,rfl,P,g,S,V,B,U,(Stepped.none h d k m).Ez⟩
  ·exact ⟨f,rfl,P',s _ _ _ _ _ i,c,V,B,U,i.Ez d⟩
def Seen.below {w a:World} {o:lM} (h:Seen w o) (b:aC w a):Seen a o:=
 ⟨h.texts,h.Ya.below b,let ⟨c,d,rc,e,f,g,i⟩:=h.raw;⟨c,d,rc,e,f,g.below b,i⟩⟩
section
attribute [local go_sem ↓] IZ
attribute [local go_sem] Jd jc jd
def Gp.from {w b c:World} {q:Nat} {Q:eP} {R:Nat→Prop} (h:Gp b c q Q R) (a:aC w b):Gp w c q Q R:=
 { h with new:=fun k hk=>jL a.size (h.new k hk),below:=a.trans (h.below.mono a.size) }
def av5 (w:World) (p b:Nat) (P:eP) (S:Nat→Prop) (N0:Nat) (E:List aW) (h:dL w p P S) (g:nI P N0 E) (k:Gl P) (l:oN w) (hL:P.V.L.length≤300000000) (t:P.B.length≤1000) (u:P.ms.length≤900000000) (o:lM) (hn: -9223372036854775808≤o.n∧o.n≤9223372036854775807) (f:Option Addr) (gn gc:Nat) (gs:Nat→Bool) (i:o.gone= .slice f gn gc) (j:MF w f gn gs) (v:gn≤4000000000000) (hk:o.kind=14):
  Calls Tryz.prog 34 (Bc p b o) w fun e m=> ∃ q,e= .returned (.tuple #[.pointer (some ⟨q,0,none⟩),.bool true])∧(q=p∧aC w m∨ ∃ Q R,Gp w m q Q R):=by
 unfold Bc;have x:=Lp w o;have y:=Y5 w o;have z:=Y4 w o;have hj:=O1 hk;have a:=qG w o;have r:=ah (ap9 _ p P S N0 E (h.below a) g k (l.below a) hL t u o hn f gn gc gs i (j.below a) v);have c:=ah a;clear hk l j i h g k a
 go_enter Tryz.func34,Tryz.ntmps34
 go_wp2_with fail
 refine r.mono ?_;rintro e s ⟨q,rfl,d⟩;have A:Hid (q=p∧aC w s∨ ∃ Q R,Gp w s q Q R):=by
  rcases d with ⟨e,C⟩ | ⟨Q,R,d⟩
  ·exact aA ⟨e,c.trans (C.mono c.size)⟩
  ·exact ay ⟨Q,R,d.from c⟩
 clear d r c x y z;go_wp2;go_ret2;exact ⟨q,rfl,uh A⟩
structure Ou (w:World) (o:lM):Prop where
 seen:Seen w o
 num: -9223372036854775808≤o.n∧o.n≤9223372036854775807
 gone: ∃ ga gn gc gs,o.gone= .slice ga gn gc∧MF w ga gn gs∧gn≤4000000000000
def Ou.below {w b:World} {o:lM} (h:Ou w o) (d:aC w b):Ou b o:=
 ⟨h.seen.below d,h.num,let ⟨a,n,c,s,e,f,g⟩:=h.gone;⟨a,n,c,s,e,f.below d,g⟩⟩
def Oo (P:eP):Prop:=Holds P∧Gl P
def nI.Ul {P:eP} {N0:Nat} {E:List aW} (a:nI P N0 E):MB P.V P.V P.D P.D:=⟨⟨[],sm⟩,fun base gn gs b n d e=>by
 have:=Um (fun C=>C=P.V.C) base gn gs (V:=P.V) (L:=P.V.L) (R:=[]) (ws:=[]) b a.bH.Jy sm (fun f c=>by rw [N8.1 c];rfl) n om (by simp;omega)
 rw [this];exact ⟨_,N0,E,_,aA rfl,by rw [← a.jw];exact a.bH.ok⟩⟩
def arG:agB Oo:=by
 intro w p P S h c hL b;obtain ⟨⟨⟨N0,E,a⟩,hB⟩,d⟩:=c;refine (Sz w p P S N0 E h a om hB b).mono ?_;rintro e k ⟨rfl,Mv,m,f,g,i,j,hk,hn⟩;exact ⟨rfl,{ P with Mv:=Mv,ms:=P.ms++[m] },⟨⟨⟨N0,E,a.bH,a.jw,a.exact⟩,hB⟩,d.grow (P':={ P with Mv:=Mv,ms:=P.ms++[m] }) a.Ul a.bH.log rfl rfl f g (by show P.D.L.length≤4;rw [← a.jw];exact a.bH.file.iR.ig)⟩,rfl,sm,i,j,hk,hn⟩
def arF (d v y:Nat) (Cv Lv Mv:Value) (m:yV) (b:m.log=xP.L.length) (c:m.D=⟨zD,[]⟩):Oo (VA d v y Cv Lv Mv m):=
 ⟨arH d v y Cv Lv Mv m b c,Gl.fresh (P:=VA d v y Cv Lv Mv m) (N0:=6) (E:=[]) ⟨akM,akI,fun _=>akJ⟩ (by simp [VA]) (fun x a=>by rw [iP.1 a];exact b) (fun x a=>by rw [iP.1 a];exact c)⟩
def Ends.aqU {w g:World} {p b:Nat} {P:eP} {S:Nat→Prop} {B:nG} {U:Nat→Prop} (i:Oo P) (h:Ends w g p b P S B U): ∃ P',Oo P'∧ ∃ c d e f,MN w g p b P S B U P' c d e f:=by
 obtain ⟨P',j,k,a,hc,⟨m,hm,l,n⟩,c,d,e,f,hs⟩:=h;obtain ⟨⟨⟨N0,E,o⟩,hB⟩,q⟩:=i;exact ⟨P',⟨⟨⟨j,k,a⟩,by rw [hs.base];exact hB⟩,q.grow hc o.bH.log hs.base hm l n (by rw [← a.jw];exact a.bH.file.iR.ig)⟩,c,d,e,f,hs.Ez⟩
def aqa:Xk 14 true Oo Ou:=by
 intro w p b P S V B U o h c d n hL i r s t u a j z
 by_cases hk:o.kind=14
 ·obtain ⟨⟨⟨N0,E,k⟩,hB⟩,f⟩:=c;obtain ⟨A,gn,gc,gs,C,D,F⟩:=a.gone;refine (av5 w p b P S N0 E h k f a.seen.Ya hL hB i o a.num A gn gc gs C D F hk).mono ?_;rintro e J ⟨q,rfl,G⟩;rcases G with ⟨rfl,v⟩ | ⟨P',I,g⟩
  ·exact ⟨q,rfl,P,⟨⟨⟨N0,E,k⟩,hB⟩,f⟩,S,V,B,U,(Stepped.none h d n v).Ez⟩
  ·have x:0<P.ms.length:=by obtain ⟨l,m,e,_⟩:=f.last;rw [e];simp
   exact ⟨q,rfl,P',⟨g.holds,g.Yi⟩,I,V,B,U,g.Ez d x⟩
 ·have y:GV 13 true o.kind=true:=by
   unfold GV at j ⊢;simp at j ⊢;omega
  exact atK Oo (fun _ h=>h.1) (fun _ _ _ _ _ _ _ _ c h=>h.aqU c) (fun _ _ _ _ _ h=>⟨⟨h.stands,h.base⟩,h.Yi⟩) w p b P S V B U o h c d n hL i r s t u a.seen y z
def ap8 (w:World) (a:Option Addr) (n cap:Nat) (ops:Nat→lM) (hs:abr w a n ops) (d: ∀ i,i<n→Ou w (ops i)) (hn:n≤1048000):
  Calls Tryz.prog 8 #[.slice a n cap] w fun e c=>e= .returned (.bool true)∧aC w c:=by
 have H:=ah (aup 14 true Oo arF arG Ou aqa w a n cap ops hs (fun i hi c b=>(d i hi).below b) hn);clear hs d
 go_enter Tryz.func8,Tryz.ntmps8
 go_wp2_with fail
 refine H.mono ?_;rintro e c ⟨rfl,b⟩;have B:=ah b;clear b;go_wp2;go_ret;exact ⟨rfl,uh B⟩
end
end Go.Proofs.YtknjjjenklfeoaaGreatDoor
namespace Go.Proofs.YtknjjjenklfeoaaGreatDoor.Row1
open Go.ChangeShapes Go.WideShapes Go.RowKit
def aeI (P:Program) (t:TypeId):Bool:=
 match P.underlying t with
 | some (.slice e)=>decide (0<P.cellsOf e) && decide (e<P.types.size)
 | some (.pointer e)=>decide (e<P.types.size)
 | some (.struct fs)=>fs.toList.all fun f=>decide (f.type<P.types.size)
 | some (.array _ e)=>decide (e<P.types.size)
 | some (.map _ e)=>decide (e<P.types.size)
 | _=>true
def Shut (P:Program):Prop:= ∀ t,t<P.types.size→aeI P t=true
def avV {P:Program} (h:((List.range P.types.size).all (aeI P))=true):Shut P:=fun t a=>Tq.1 h t (G9.2 a)
def shut:Shut Tryz.prog:=avV kr
section
variable {H:Type} {enc:TypeId × Value→H} {P:Program} {w:World} {base:Nat} {sp:Nat→Bool}
def awc (m:Shut P) {r u:TypeId→List Value→Option (DataW H × List MemPlace)}
  (hr: ∀ t cs x,t<P.types.size→r t cs=some x→(∀ p ∈ x.2,sp p.block=true)→u t cs=some x) {t:TypeId} {cs:List Value} {x:DataW H × List MemPlace} (J:t<P.types.size)
  (h:DataW.trodStep enc P w base (fun _=>true) true r t cs=some x) (hs: ∀ p ∈ x.2,sp p.block=true):
  DataW.trodStep enc P w base sp true u t cs=some x:=by
 have d:=m t J;unfold aeI at d;unfold DataW.trodStep at h ⊢
 split at h
 case h_6 e a ht=>
  rw [ht] at d;have g:e<P.types.size:=by simpa using d
  simp only [SS,Tn] at h ⊢;obtain ⟨y,⟨s,hc,c⟩,rfl⟩:=h;exact ⟨y,⟨s,hc,hr _ _ _ g c (fun p l=>hs p (by simp [l]))⟩,rfl⟩
 case h_8 e a len cap ht=>
  rw [ht] at d;obtain ⟨D,g⟩:0<P.cellsOf e∧e<P.types.size:=by simpa using d
  simp only [xk] at h ⊢
  split at h
  ·rename_i hc;rw [au hc];simp only [SS,Tn] at h ⊢;obtain ⟨elems,he,rest,z,rfl⟩:=h;have E:rest.length=cap - len:=by simpa using mapM_some_length z
   have one: ∀ (i:Nat) (y:DataW H × List MemPlace),y ∈ elems++rest→
     (w.cells? base (a.add (i*P.cellsOf e)) (P.cellsOf e)).bind (r e)=some y→(w.cells? base (a.add (i*P.cellsOf e)) (P.cellsOf e)).bind (u e)=some y:=by
    intro i y c hv;simp only [Tn] at hv ⊢;obtain ⟨s,F,G⟩:=hv;refine ⟨s,F,hr _ _ _ g G (fun p l=>hs p ?_)⟩;simp only [fK,zT];exact ay ⟨y,by simpa using c,l⟩
   refine ⟨elems,WI he (fun i y _ c=>one i y (by simp [c])),rest,?_,rfl⟩
   by_cases A:cap - len=0
   ·have I:rest=[]:=aaw (E.trans A);subst I;simp [A]
   ·have B:sp a.block=true:=by
     refine hs (.cell a.block (a.off+0)) ?_;refine fK.2 (aA (MemPlace.mem_row.2 ⟨0,?_,rfl⟩));exact Nat.mul_pos om D
    rw [au B];exact WI z (fun j y _ c=>one (len+j) y (by simp [c]))
  ·cases h
 case h_9 _ fs ht=>
  rw [ht] at d;have g: ∀ f ∈ fs.toList,f.type<P.types.size:=fun f n=>by simpa using Tq.1 d f n
  split at h
  ·rename_i hc;rw [au hc];simp only [SS] at h ⊢;obtain ⟨xs,o,rfl⟩:=h;exact ⟨xs,WI o (fun f y n c hv=>hr _ _ _ (g f n) hv (fun p l=>hs p (zT.2 ⟨y,c,l⟩))),rfl⟩
  ·cases h
 case h_10 _ _ e ht=>
  rw [ht] at d;have g:e<P.types.size:=by simpa using d
  split at h
  ·rename_i hc;rw [au hc];simp only [SS] at h ⊢;obtain ⟨xs,o,rfl⟩:=h;exact ⟨xs,WI o (fun f y _ c hv=>hr _ _ _ g hv (fun p l=>hs p (zT.2 ⟨y,c,l⟩))),rfl⟩
  ·cases h
 case h_14 k e b ht=>
  rw [ht] at d;have g:e<P.types.size:=by simpa using d
  split at h
  ·rename_i es clock B
   split at h
   ·rename_i hc;simp only [Tn] at h;obtain ⟨entries,he,v⟩:=h
    split at v
    ·rename_i C;have o:=Tj v;subst o;simp only [au hc,Tn];refine ⟨entries,WI he (fun x y _ c hv=> ?_),by simp [C]⟩;simp only [Tn] at hv ⊢;obtain ⟨key,hk,m⟩:=hv;refine ⟨key,hk,?_⟩
     split at m
     ·rename_i n;rw [au n];simp only [SS] at m ⊢;obtain ⟨q,K,rfl⟩:=m;exact ⟨q,hr _ _ _ g K (fun p l=>hs p (by simp only [cO,zT];exact ay ⟨_,c,l⟩)),rfl⟩
     ·cases m
    ·cases v
   ·cases h
  ·cases h
 all_goals first | exact h | cases h
def awX (a:Shut P): ∀ (n:Nat) (t:TypeId) (cs:List Value) (x:DataW H × List MemPlace),t<P.types.size→
  DataW.trod enc P w base (fun _=>true) true n t cs=some x→(∀ p ∈ x.2,sp p.block=true)→DataW.trod enc P w base sp true n t cs=some x:=by
 intro n
 induction n with
 | zero=>intro t cs x _ h;simp [DataW.trod] at h
 | succ n ih=>
  intro t cs x b h hs;rw [DataW.trod_step] at h ⊢;exact awc a ih b h hs
def amT {g:World} (i:Shut P) (hB:aC w g):
  ∀ {d:List TypeId} {vs:List Value} {j:List (DataW H)} {f:List MemPlace},(∀ t ∈ d,t<P.types.size)→DataW.TrodAll enc P w base (fun _=>true) true d vs j f→
   (∀ p ∈ f,sp p.block=true)→DataW.TrodAll enc P g base sp true d vs j f
 | [],[],[],_,_,h,_=>h
 | _ :: _,_ :: _,_ :: _,_,k,⟨a,b,⟨n,m⟩,o,e⟩,hs=>by
  subst e;refine ⟨a,b,⟨n,?_⟩,amT i hB (fun t q=>k t (LX _ q)) o (fun p c=>hs p (List.mem_append_right _ c)),rfl⟩;have l:=awX (sp:=sp) i n _ _ _ (k _ Oa) m (fun p c=>hs p (List.mem_append_left _ c));exact DataW.trod_carry n _ _ _ l (fun p c=>hB.same (DataW.trod_lt n _ _ _ l p c))
end
end Go.Proofs.YtknjjjenklfeoaaGreatDoor.Row1
