import Derived.Test.YtknjjjenklfeoaaGreatDoorU23
import Derived.Deep.CutRange
set_option maxHeartbeats 8000000
set_option maxRecDepth 100000
set_option linter.all false
namespace Go.Proofs.YtknjjjenklfeoaaGreatDoor
open Go.RowKit
section
def dH.acU {L:List aj} {rs:List bI} (h:dH L rs) {r:bI} (hr:r ∈ rs): ∀ u ∈ mF L r.N,6≤u∧u<L.length:=fun u hu=>by
 rcases cO.1 hu with x | x
 ·rw [x];exact h.fst r hr
 ·obtain ⟨j,hj,h0,y | ⟨k,hk,b,y⟩⟩:=YM (fun i c d=>h.zero r hr i c d) x
  ·exact h.sec _ ⟨r,hr,j,hj,h0,y⟩
  ·exact h.aG _ ⟨_,⟨r,hr,j,hj,h0,rfl⟩,k,hk,b,y⟩
def amx {α:Type} (g:α→Nat): ∀ (l:List α) (i:Nat) (h:i<l.length),((l.eraseIdx i).map g).sum+g l[i]=(l.map g).sum
 | a :: l,0,_=>by simp [Ci]
 | a :: l,i+1,h=>by
  have:=amx g l i (by simpa using h)
  simp only [List.eraseIdx_cons_succ,jU,Jk,List.getElem_cons_succ];omega
def ady {α β:Type} (g:α→β): ∀ (l:List α) (i:Nat),(l.eraseIdx i).map g=(l.map g).eraseIdx i
 | [],_=>sm
 | a :: l,0=>sm
 | a :: l,i+1=>by simp [ady g l i]
section
variable {base:List aj} {V:aB} {N0:Nat} {E:List aW} {f n i:Nat}
def QL (D:dR) (i:Nat):dR:={ D with L:=D.L.eraseIdx i }
def y9 (V:aB) (b:List aW):aB:=fF (bQ V 5 (og b))
def iZ.erase (h:iZ E) (i:Nat):iZ (E.eraseIdx i):=
 ⟨by have:=List.length_eraseIdx_le E i;have:=h.len;omega,fun e he=>h.all e (aaM he),by rw [ady];exact h.nodup.sublist (List.eraseIdx_sublist _ _)⟩
def aY.drop (h:aY base V N0 E) (hi:i<E.length):
  y9 V (E.eraseIdx i)=eH V [(5,og (E.eraseIdx i))]∧Ok (y9 V (E.eraseIdx i)).C V.C.length N0 (E.eraseIdx i) (QL (bD V.C N0 E) i)∧(y9 V (E.eraseIdx i)).C.length=V.C.length∧dH (y9 V (E.eraseIdx i)).C (aH N0 E)∧
   Lets (y9 V (E.eraseIdx i)) N0 (E.eraseIdx i) (mF (y9 V (E.eraseIdx i)).C (E.getD i ze).first)∧Qn base V N0 E (jQ (y9 V (E.eraseIdx i)) (mF (y9 V (E.eraseIdx i)).C (E.getD i ze).first)) N0 (E.eraseIdx i) (QL (bD V.C N0 E) i):=by
 have F:=h.file.seven;have hlen:=h.sound.len;have q:=h.file.iR.erase i;have d:y9 V (E.eraseIdx i)=eH V [(5,og (E.eraseIdx i))]:=by unfold y9 eH;rw [PD]
 have v:(y9 V (E.eraseIdx i)).C=dG V.C [(5,og (E.eraseIdx i))]:=by rw [d,uz]
 obtain ⟨c1,c2,c3⟩:=aea (C:=V.C) (p:=5) (c:=og (E.eraseIdx i)) om (ay rfl);rw [← v] at c1 c2 c3;have G:iJ V (y9 V (E.eraseIdx i)):=by rw [d];exact NH (iJ.refl V) _
 refine ⟨d,?_⟩;clear d;generalize y9 V (E.eraseIdx i)=W at*;have s0:=c1.sound h.sound;have y:(E.getD i ze)=E[i]:=by rw [aN,bJ hi];rfl
 have s:lU (E.getD i ze) ∈ aH N0 E:=by
  rw [y];exact Dx.2 (ay ⟨_,o9 hi,rfl⟩)
 have b: ∀ r ∈ aH N0 (E.eraseIdx i),r ∈ aH N0 E:=fun r hr=>by
  rcases Dx.1 hr with x | ⟨e,he,x⟩
  ·exact Dx.2 (aA x)
  ·exact Dx.2 (ay ⟨e,aaM he,x⟩)
 have l: ∀ m,dN (W).C (aH N0 (E.eraseIdx i)) m+lH (W).C (E.getD i ze).first m=dN V.C (aH N0 E) m:=fun m=>by
  rw [← (c1.shape h.sound).use m,y];unfold dN aH;rw [jU,Jk,jU,Jk,Qd,Qd]
  have:=amx ((fun r:bI=>lH (W).C r.N m) ∘ lU) E i hi
  have H:((fun r:bI=>lH (W).C r.N m) ∘ lU) E[i]=lH (W).C E[i].first m:=rfl;rw [H] at this;omega
 have s1:dH (W).C (aH N0 (E.eraseIdx i)):=by
  refine s0.roots (fun r hr=>⟨s0.fst r (b r hr),s0.fs _ ⟨r,b r hr,rfl⟩,s0.fb _ ⟨r,b r hr,rfl⟩,r,b r hr,fun j _=>rfl⟩) ?_ (fun m hm=> ?_)
  ·refine s0.nodup.sublist (List.Sublist.map _ ?_);unfold aH;exact (List.Sublist.map _ (List.eraseIdx_sublist _ _)).cons_cons _
  ·rw [c1.count m hm]
   have:=l m
   have:=h.sound.jI m hm
   omega
 have k:(W).C.length=V.C.length:=c1.len;have I:lK (W).C V.C.length N0 (E.eraseIdx i):=by
  refine ⟨?_,om,om,F,hlen,h.file.n0,by rw [c3 0 om];exact h.file.head,c2,q⟩;rw [v];exact RS _ _ h.file.lens (fun x o=>by rw [iP.1 o];exact q.length)
 have J:bD (W).C N0 (E.eraseIdx i)=QL (bD V.C N0 E) i:=by
  rw [acj (L:=V.C) (fun r hr=>c1.content h.sound (b r hr))];refine aci (by rw [ach]) ?_;rw [QJ,ady]
 have ok:Ok (W).C V.C.length N0 (E.eraseIdx i) (QL (bD V.C N0 E) i):=⟨I,by rw [sG k];exact s1,by rw [sG k];exact J⟩;have z: ∀ m,(mF (W).C (E.getD i ze).first).count m=lH (W).C (E.getD i ze).first m:=fun m=>XG (s0.zero _ s) m;have A:Lets (W) N0 (E.eraseIdx i) (mF (W).C (E.getD i ze).first):=by
  refine ⟨fun u hu=> ?_,fun m hm=> ?_⟩
  ·have:=s0.acU s u hu
   omega
  ·rw [z m,c1.count m hm]
   have:=l m
   have:=h.sound.jI m hm
   omega
 obtain ⟨B,D,K,M⟩:=ok.Vg k A;have t:=B.holds;rw [sG D] at t;refine ⟨ok,k,s0,A,B.bH D K (h.log.jr (LD G _)),t,fun o=>M fun m hm=> ?_⟩;rw [z m,c1.count m hm,o.eq m hm]
 have:=l m
 omega
def yM (V:aB) (f n:Nat):aB:=fF (bQ (copyV V f n) 0 (fG (num (cl (copyV V f n).C 0) 4) n))
def PE (D:dR) (i:Nat):dR:={ D with C:=(D.L.getD i ⟨[],[]⟩).C }
def aY.ret (h:aY base V N0 E) (hi:i<E.length) (hn:n<256) (h0:aQ V.C n=0) (G:oH (aJ V.C) (jA V.C (E.getD i ze).first)=true):
  yM V (E.getD i ze).first n=eH (copyV V (E.getD i ze).first n) [(0,fG (jq V.C [n]) n)]∧Ok (yM V (E.getD i ze).first n).C (jq V.C [n]) n E (PE (bD V.C N0 E) i)∧(yM V (E.getD i ze).first n).C.length=jq V.C [n]∧dH (yM V (E.getD i ze).first n).C (aH N0 E)∧
   Lets (yM V (E.getD i ze).first n) n E (mF (yM V (E.getD i ze).first n).C N0)∧Qn base V N0 E (jQ (yM V (E.getD i ze).first n) (mF (yM V (E.getD i ze).first n).C N0)) n E (PE (bD V.C N0 E) i):=by
 have X:(E.getD i ze)=E[i]:=by rw [aN,bJ hi];rfl
 have v:lU (E.getD i ze) ∈ aH N0 E:=by
  rw [X];exact Dx.2 (ay ⟨_,o9 hi,rfl⟩)
 have K:(E.getD i ze).first ∈ (aH N0 E).map (·.N):=gY.2 ⟨_,v,rfl⟩;have A:(⟨N0,0,[]⟩:bI) ∈ aH N0 E:=by simp [aH]
 obtain ⟨e,Y,d,M,Z,a5,a6,a7,a8⟩:=h.copied K hn h0 G;obtain ⟨b1,b2,b3,D,b5,O,b7⟩:=h.ahH K hn h0 G;have T:eu V.C (E.getD i ze).first=((bD V.C N0 E).L.getD i ⟨[],[]⟩).C:=by
  unfold bD;simp only [aN,jK,bJ hi,Gf,LZ]
 generalize H:(E.getD i ze).first=f at*;have h6:=h.sound.Fe hn h0;have hT:jq V.C [n]=max V.C.length (n+1):=rfl;have h7:=h.file.seven;have hlen:=h.sound.len;have q:yM V f n=eH (copyV V f n) [(0,fG (jq V.C [n]) n)]:=by
  unfold yM eH;rw [d.file.Ll,PD]
 have P:(yM V f n).C=dG (copyV V f n).C [(0,fG (jq V.C [n]) n)]:=by rw [q,uz]
 obtain ⟨c1,c2,c3⟩:=aea (C:=(copyV V f n).C) (p:=0) (c:=fG (jq V.C [n]) n) om (aA rfl);rw [← P] at c1 c2 c3;have U9:iJ V (yM V f n):=by rw [q];exact NH (Zj V f n) _
 refine ⟨q,?_⟩;clear q e Y a5 a6 a7;generalize yM V f n=W at*;generalize copyV V f n=U at*;have s0:=c1.sound b1;have BG: ∀ m,dN (U).C (aH n E) m+lH (U).C N0 m=dN V.C (aH N0 E) m+lH (U).C n m:=fun m=>by
  rw [← a8.use m];unfold dN aH;rw [jU,Jk,jU,Jk];dsimp only;omega
 have t: ∀ m,m<256→gZ m+dN (U).C (aH n E) m+lH (U).C N0 m≤aQ (U).C m∧(aQ V.C m=gZ m+dN V.C (aH N0 E) m→aQ (U).C m=gZ m+dN (U).C (aH n E) m+lH (U).C N0 m):=fun m hm=>by
  have F:=BG m;have h2:=h.sound.jI m hm;rw [Z m hm];rw [b3 m] at F
  by_cases z:n=m
  ·subst z;have h3:=JX h.sound (h.sound.untold hn h0);have h4:=wK n;rw [ak om] at h4;rw [au rfl] at F ⊢;omega
  ·rw [ak z] at F ⊢;omega
 have s1:dH (U).C (aH n E):=by
  refine b1.roots (fun r hr=> ?_) ?_ (fun m hm=> ?_)
  ·rcases Dx.1 hr with x | ⟨y,hy,x⟩
   ·rw [x];exact ⟨⟨h6,by rw [M];simp only;omega⟩,D.2.1,D.2.2,_,v,fun j hj=>by rw [b2 j hj,← H];rfl⟩
   ·have b:r ∈ aH N0 E:=Dx.2 (ay ⟨y,hy,x⟩);exact ⟨b1.fst r b,b1.fs _ ⟨r,b,rfl⟩,b1.fb _ ⟨r,b,rfl⟩,r,b,fun j _=>rfl⟩
  ·have B:=b1.nodup;unfold aH at B ⊢;rw [jU,afs] at B ⊢;refine ⟨fun z=> ?_,B.2⟩;obtain ⟨r',b,e2⟩:=gY.1 z;exact D.1 ⟨r',by unfold aH;exact cO.2 (ay b),e2⟩
  ·have:=(t m hm).1
   omega
 have s2:=c1.sound s1;have s:(W).C.length=jq V.C [n]:=by rw [c1.len,M]
 have OW:lK (W).C (jq V.C [n]) n E:=by
  refine ⟨?_,om,om,d.file.seven,d.file.most,om,c2,by rw [c3 5 om];exact d.file.list,d.file.iR⟩;rw [P];exact RS _ _ d.file.lens (fun x k=>by rw [iP.1 k];exact JC _ _)
 have hD:bD (W).C n E=PE (bD V.C N0 E) i:=by
  have g: ∀ r ∈ aH n E,eu (W).C r.N=eu (U).C r.N:=fun r hr=>c1.content s1 hr;have gn:=g ⟨n,0,[]⟩ (by simp [aH]);simp only at gn;have hA:eu (W).C n=((bD V.C N0 E).L.getD i ⟨[],[]⟩).C:=by
   have I:=O _ v;simp only [lU] at I;rw [gn,b5,← T,← H,I]
  have hB:(E.map fun e=>(⟨e.name,eu (W).C e.first⟩:kD))=(bD V.C N0 E).L:=by
   rw [QJ];apply Ji;intro x k;have l:=g (lU x) (Dx.2 (ay ⟨x,k,rfl⟩));have o:=O (lU x) (Dx.2 (ay ⟨x,k,rfl⟩));simp only [lU] at l o;rw [l,o]
  exact aci hA hB
 have ok:Ok (W).C (jq V.C [n]) n E (PE (bD V.C N0 E) i):=⟨OW,by rw [sG s];exact s2,by rw [sG s];exact hD⟩;have R: ∀ m,(mF (W).C N0).count m=lH (U).C N0 m:=fun m=>by
  rw [XG (s0.zero _ A) m];exact c1.tree b1 A m
 have S:Lets (W) n E (mF (W).C N0):=by
  refine ⟨fun u hu=> ?_,fun m hm=> ?_⟩
  ·have:=s0.acU A u hu
   have:=s0.len
   omega
  ·rw [R m,c1.count m hm,(c1.shape s1).use];exact (t m hm).1
 obtain ⟨l,o,g3,g4⟩:=ok.Vg s S;have J:=l.holds;rw [sG o] at J;refine ⟨ok,s,s0,S,l.bH o g3 (h.log.jr (LD U9 _)),J,fun k=>g4 fun m hm=> ?_⟩;rw [R m,c1.count m hm,(c1.shape s1).use];exact (t m hm).2 (k.eq m hm)
end
end
section
attribute [local go_sem ↓] kV ng nD nJ
attribute [local go_sem] kZ mX nN
def ZH (L:List fZ) (last gn:Nat) (gs:Nat→Bool): ∀ k,k≤L.length→ ∀ x ∈ qg L last gn gs k,x ∈ L
 | 0,_,x,b=>by cases b
 | k+1,hk,x,b=>by
  rw [qg] at b
  split at b
  ·exact ZH L last gn gs k om x b
  ·rcases fK.1 b with y | y
   ·exact ZH L last gn gs k om x y
   ·rw [iP.1 y];exact aao om
def amj (L:List fZ) (last gn:Nat) (gs:Nat→Bool): ∀ k,(qg L last gn gs k).length≤k
 | 0=>aO _
 | k+1=>by
  have:=amj L last gn gs k
  rw [qg];split
  ·omega
  ·simp;omega
def ar9 (w:World) (bv lv:Value) (B:List aj) (log:List fZ) (hB:kK w bv B) (ai:B.length≤1000) (M:Io w lv log) (n:Nat) (hn:n≤log.length) (a5:log.length≤1000000000) (Z: ∀ x ∈ log,x.cl<1000) (N:Option Addr) (gn al:Nat) (gs:Nat→Bool) (d:MF w N gn gs) (a6:gn≤4000000000000):
  Calls Tryz.prog 125 #[bv,lv,.int .i64 (n:Nat),.slice N gn al] w fun e h=> ∃ v,e= .returned v∧kK h v (replay B (qg log (uG log n) gn gs n))∧aC w h:=by
 obtain ⟨la,jh,rfl⟩:=gQ M.row;obtain ⟨ba,a7,an⟩:=gQ hB.row;subst an;obtain ⟨i0,ao,aq,ar,av⟩:=qw Tryz.OZ;have j:=ah M;have HB:=ah hB;have WV:=ah d;have DR:=ah Z;clear M d hB Z;have a8:(n:Int)≤(log.length:Int):=om
 go_enter Tryz.func125,Tryz.ntmps125
 go_wp2
 go_loopw [9,10] (fun l i h=> ∃ k:Nat,k≤n∧i= .int .i64 k∧l= .int .i64 (uG log k:Nat)∧h=w) (fun _ i _=>n - (intOf i).toNat)
 case atStart=>exact ⟨0,om,rfl,rfl,rfl⟩
 case round=>
  obtain ⟨k,hk,rfl,rfl,hw⟩:=hrel;have hw:=hw.symm;subst hw
  by_cases ad:k<n
  ·obtain ⟨g,F,u,_⟩:=gy j.row om;obtain ⟨rfl,rfl⟩:la=some ⟨g,0,none⟩∧jh=F:=by injection u with O x2 P;exact ⟨O,P⟩
   have aw:k<log.length:=om;have ax:(k:Int)<(n:Int):=om;have a9:(k:Int)<(log.length:Int):=om;have c0:w.cell? ⟨g,k*65,none⟩=some (.int .i64 (rP log k).cl):=j.range k aw 0 _ rfl;have b:Hid (uG log (k+1)=if (rP log k).cl<0 then k+1 else uG log k):=rfl;have bb:=adh log k;generalize uG log k=lf at*;generalize (rP log k).cl=R at*;clear u
   by_cases D:R<0
   ·have dn:decide (R<0)=true:=by simpa using D
    rw [au D] at b;go_wp2;go_roundw
    case rel=>exact ⟨k+1,om,by go_num,by rw [uh b];go_num,trivial⟩
    case measure=>exact bW
   ·have dn:decide (R<0)=false:=by simpa using D
    rw [ak D] at b;go_wp2;go_roundw
    case rel=>exact ⟨k+1,om,by go_num,by rw [uh b],trivial⟩
    case measure=>exact bW
  ·have ae:k=n:=om;have ax: ¬ (k:Int)<(n:Int):=om;have bd:=adh log n;rw [show uG log k=uG log n by rw [ae]];clear ae;generalize af:uG log n=lf at*;have az:=ah af;clear af;go_wp2;generalize Value.int .i64 (k:Int)=s8
   go_loopw [11,12] (fun v i h=> ∃ m:Nat,m≤n∧i= .int .i64 m∧h.ownsRow 0 104 65 v (qg log lf gn gs m).length (jg (qg log lf gn gs m))∧(∀ g,v.ownBlock=some g→w.heap.size≤g)∧aC w h) (fun _ i _=>n - (intOf i).toNat)
   case atStart=>exact ⟨0,om,rfl,wH _ _ _ _,fun g d=>(by cases d),bG _ _⟩
   case round=>
    obtain ⟨m,hm,rfl,r,hv,o⟩:=hrel;have bf:=amj log lf gn gs m
    by_cases a4:m<n
    ·have H:=j.kept (S:=fun _=>False) (Kept.dQ o) (fun _ _=>id);obtain ⟨g,F,u,_⟩:=gy j.row om;obtain ⟨rfl,rfl⟩:la=some ⟨g,0,none⟩∧jh=F:=by injection u with O x2 P;exact ⟨O,P⟩
     have I:m<log.length:=om;have J:=j.lens _ (aao I);have l1:=sU (n:=65) (H.range m I) (tN J);have l2:=qU (n:=65) (H.range m I) (tN J);have Nc:(m:Int)<(log.length:Int):=om;have bh:(m:Int)<(n:Int):=om;have b:Hid (qg log lf gn gs (m+1)=if Bv lf gn gs m=true then qg log lf gn gs m else qg log lf gn gs m++[rP log m]):=rfl;have bj:=Nb (qg log lf gn gs m) (fun x z=>j.lens _ (ZH log lf gn gs m om x z));have ag: ∀ W,aC w W→0<gn→ ∃ A go,N=some ⟨A,go,none⟩∧ ∀ i,i<gn→W.cell? ⟨A,go+i,none⟩=some (.bool (gs i)):=fun W hB h0=>by
      obtain ⟨A,go,e,ad,hc⟩:=WV.some h0;exact ⟨A,go,e,fun i hi=>(Md (hB.block _ ad)).trans (hc i hi)⟩
     have aD:=ah (ag wr o);obtain ⟨T,U,K⟩:=gQ r;subst K;have fA:=ah r;have p:=ah o;have X:=ah hv;clear r o H u hv ag;generalize qg log lf gn gs m=l at*;generalize rP log m=x at*;have bl:(m:Int)≤1000000000:=om;have bm:(gn:Int)≤4000000000000:=om
     go_upto_region 11 with fail
     go_cut [13] from 32 to 50 (fun s wx=>s= .bool (Bv lf gn gs m)∧wx=wr)
     case first=>
      clear l1 l2
      by_cases hA:lf≤m
      ·have aE:(lf:Int)≤(m:Int):=om
       by_cases h0:0<gn
       ·obtain ⟨A,go,rfl,hc⟩:=uh aD h0;have aL:(0:Int)<(gn:Int):=om;have Y:=WB (m - lf) h0;have hc:=hc _ Y;have he:Bv lf gn gs m=gs ((m - lf)%gn):=by unfold Bv;rw [dZ hA,dZ h0];rfl
        have C:=ah he;clear he;have hr:((m:Int) - (lf:Int)).tmod (gn:Int)=(((m - lf)%gn:Nat):Int):=by
         rw [show ((m:Int) - (lf:Int))=((m - lf:Nat):Int) by omega,anx om];exact (Int.natCast_emod _ _).symm
        generalize (m - lf)%gn=q at*;have bn:(q:Int)<(gn:Int):=om;go_wp2;go_meet;exact ⟨by rw [uh C],rfl⟩
       ·have C:Hid (Bv lf gn gs m=false):=by show Bv _ _ _ _=_;unfold Bv;rw [gK h0];simp
        have aL: ¬ (0:Int)<(gn:Int):=om;go_wp2;go_meet;exact ⟨by rw [uh C],rfl⟩
      ·have aE: ¬ (lf:Int)≤(m:Int):=om;have C:Hid (Bv lf gn gs m=false):=by show Bv _ _ _ _=_;unfold Bv;rw [gK hA];rfl
       go_wp2;go_meet;exact ⟨by rw [uh C],rfl⟩
     case rest=>
      obtain ⟨rfl,L⟩:=hcut;have L:=L.symm;subst L
      by_cases c:Bv lf gn gs m=true
      ·rw [au c] at b;rw [c];clear l1 l2 c;go_wp2;go_roundw
       case rel=>exact ⟨m+1,om,by go_num,by rw [uh b];exact uh fA,uh X,uh p⟩
       case measure=>exact bW
      ·rw [ak c] at b;have c:Bv lf gn gs m=false:=by simpa using c
       rw [c];clear c;have bo:=p.size
       go_wp2_with (at_builtin;refine yc _ rfl _ _ _ rfl 0 104 i0 _ 65 72 Tryz.underlying58 ao aq ar av (by simp [Value.cells,bT,bC,aV]) om (.slice T l.length U) l.length (jg l) rfl (fA.alloc _) ⟨wr.heap.size,0,none⟩ 1 1 (bT x) rfl (by rw [tN J]) (pJ (cs:=(bT x).toArray) (t:=104) (fr:=(0,0)) (aX wr _)) (NU x) om (by unfold maxLen;omega) om om (wr.heap.size+1) sm ?_;intro g5 cap5 w5 aa ab aM uP)
       go_roundw
       case rel=>
        refine ⟨m+1,om,by go_num,?_,?_,?_⟩
        ·rw [uh b,XY,oL];exact aa
        ·intro g d;simp only [Value.ownBlock,jH] at d;subst d;rcases aM with y | y
         ·exact uh X _ y
         ·omega
        ·exact (p.alloc p.size (.cells (bT x).toArray 104)).grown ab (by simp;omega) (fun q Y=>uh X q Y)
       case measure=>exact bW
    ·have bp: ¬ (m:Int)<(n:Int):=om;have aR:Hid (m=n):=by unfold Hid;omega
     have G:=ZH log lf gn gs m om;obtain ⟨T,U,K⟩:=gQ r;subst K;have a0:Hid (Io wr (.slice T (qg log lf gn gs m).length U) (qg log lf gn gs m)):=⟨r,fun x z=>j.lens _ (G x z)⟩;have a1:Hid (∀ x ∈ qg log lf gn gs m,x.cl<1000):=fun x z=>uh DR x (G x z);have a2:=ah (HB.kept (S:=fun _=>False) (Kept.dQ o) (fun _ _=>id));have p:=ah o;clear r hv o G
     go_wp2_with fail
     refine (alS wr _ _ B (qg log lf gn gs m) a2 a0 ai om a1).mono ?_;rintro e w2 ⟨rv,rfl,rr,lens,b2⟩;have HR:Hid (kK w2 rv (replay B (qg log (uG log n) gn gs n))):=by rw [uh az,← uh aR];exact ⟨Ba rr (lX _),lens⟩
     have a3:=ah (p.trans (b2.mono p.size));clear rr lens b2;go_wp2;go_ret;exact ⟨rv,rfl,uh HR,uh a3⟩
end
section
open Go.RowKit Go.Shelf
def QC {α:Type} (n gf:Nat) (lb:Array Value) (h:α→Array Value) (j:World→World→Prop) (S k:List α→Prop) (N B:Nat) (w:World):Prop:=
 ∀ (l:Nat) (J c:List α→World→Prop) (W:World),aC w W→B≤W.heap.size→OwnFrom W.heap.size J→OwnFrom W.heap.size c→
  (∀ pre x d,J pre d→pre.length<N→YieldAt Fence.wide (n - 1) Tryz.prog l (h x) d fun e b=>j d b∧((e= .returned (.bool true)∧J (pre++[x]) b)∨(e= .returned (.bool false)∧c (pre++[x]) b)))→
  J [] W→CallsIn Fence.wide n Tryz.prog gf (#[.func (.yield l) #[] #[]]++lb) W fun e b=>(∃ v,e= .returned v)∧((∃ xs,S xs∧J xs b)∨ ∃ pre,k pre∧c pre b)
def QC.all {α:Type} {n gf:Nat} {lb:Array Value} {c:α→Array Value} {d:World→World→Prop} {S k:List α→Prop} {N B:Nat} {w:World} (h:QC n gf lb c d S k N B w):ML n gf lb c d S N B w:=
 fun l J W m hB o p h0=>(h l J (fun _ _=>False) W m hB o (fun _ _ _ _ hs _ _=>hs)
  (fun pre x q j r=>aas (p pre x q j r) (fun e s b=>⟨b.2.2,aA ⟨b.1,b.2.1⟩⟩)) h0).mono (by
  rintro e s ⟨t,u | ⟨pre,_,v⟩⟩
  ·exact ⟨t,u⟩
  ·exact v.elim)
def abx {α:Type} (B:Nat) (c:World→World→Prop) (I d:List α→World→Prop) (xs:List α) (W:World):Exit→Act→World→Prop
 | .normal,_,b=>KeepsFrom B W b∧c W b∧I xs b
 | .ret,_,b=>KeepsFrom B W b∧c W b∧d xs b
 | .exit _,_,_=>False
 | .goto _,_,_=>False
 | .panic _,_,_=>False
 | .outgrown,_,_=>False
section
variable {α:Type} {g:Operand} {ps:Array Tmp} {assign body:Code} {Q:Exit→Act→World→Prop} {a:Act} {w:World} {n:Nat}
def aeg (fn:FuncId) (a:Act) (ps:Array Tmp) (assign body:Code) (d:Nat):Loop:={ state:= .done,pending:=some .ret,fn:=fn,tmps:=a.tmps,params:=ps,assign:=assign,body:=body,defers:=d }
structure aaT (fn:FuncId) (a:Act) (ps:Array Tmp) (assign body:Code) (d:Nat) (W:World):Prop where
 pY:W.heap[d+1]? = some (.loop (aeg fn a ps assign body d))
 Jv:W.heap[d]? = some (.deferred (some []))
def aee (h1:1≤n) {gf:Nat} {lb:Array Value} (hg:a.eval g= .func (.func gf) #[] lb) (eg: ∀ args w,(callFunc gf args).run Tryz.prog w= .ok (.enter gf args) w)
  {H:α→Array Value} {k:World→World→Prop} {S Sp:List α→Prop} {N:Nat} {T:World} (af:QC (n - 1) gf lb H k S Sp N (w.heap.size+2) T)
  (q: ∀ A B C:World,k A B→k B C→k A C) (L: ∀ (W:World) (o o':Obj),W.heap[w.heap.size+1]? = some o→o.isCells=false→k W (W.putObj (w.heap.size+1) o')) (Z:aC T w) (al: ∀ x,(H x).size=ps.size)
  (I F:List α→World→Prop) (u:OwnFrom w.heap.size I) (M:OwnFrom w.heap.size F) (h0:I [] w) (U:α→Act→World→Prop) (an: ∀ x h,OwnFrom w.heap.size (fun (_:Unit) W=>U x h W))
  (aa: ∀ (l:Nat) (pre:List α) (x:α) (W:World) (K:Act→World→Prop),I pre W→(∀ h G,KeepsFrom w.heap.size W G→k W G→I pre G→U x h G→K h G)→
   assign.wpIn (Fence.wide.inRound l) (n - 1 - 1) Tryz.prog (Exit.then K (fun _ _ _=>False)) { tmps:=(ps.zip (H x)).foldl (fun t (p,v)=>t.setIfInBounds p v) a.tmps,defers:=[] } W)
  (ab: ∀ (l:Nat) (pre:List α) (x:α) (h:Act) (W:World),w.heap.size≤l→(∃ r,W.heap[l]? = some (.loop r))→I pre W→U x h W→pre.length<N→body.wpIn (Fence.wide.inRound l) (n - 1 - 1) Tryz.prog (abx w.heap.size k I F (pre++[x]) W) h W)
  (ad: ∀ (D:Nat) (xs:List α) (W:World),w.heap.size≤D→S xs→I xs W→W.heap[D]? = some (.deferred (some []))→Q .normal { a with defers:={ target:= .collected D,args:= #[] } :: a.defers } W)
  (ae: ∀ (D:Nat) (pre:List α) (W:World),w.heap.size≤D→Sp pre→F pre W→W.heap[D]? = some (.deferred (some []))→Code.ret.wpIn Fence.wide n Tryz.prog Q { a with defers:={ target:= .collected D,args:= #[] } :: a.defers } W):
  (Code.rangeFunc g ps assign body).wpIn Fence.wide n Tryz.prog Q a w:=by
 refine wpIn_rangeFunc fun fn ao=> ?_
 let d:=w.heap.size
 let b:=(w.alloc (.deferred (some []))).alloc (.loop (Eo fn a ps assign body d .ready))
 have aq:Bj fn a ps assign body d .ready b:=
  ⟨by have:=aX (w.alloc (.deferred (some []))) (.loop (Eo fn a ps assign body d .ready));rwa [jV] at this,(jX _ _ _ (by simp [d])).trans (aX w _)⟩
 have ar:I [] b:=u.alloc _ (u.alloc _ h0);have aE:b.heap.size=d+2:=by simp [b,d]
 have av:aC T b:=Z.trans ((((bG _ w).alloc (aO _) _).alloc sm _).mono Z.size);refine ⟨d+1,[{ target:= .collected d,args:= #[] }],b,{ target:= .fn (.func gf) lb,args:= #[.func (.yield (d+1)) #[] #[]] },b,gf,#[.func (.yield (d+1)) #[] #[]]++lb,b,
  run_enterLoop_outer _ _ _ _ _,?_,fun _ _=>trivial,?_,fun _=>h1,?_⟩
 ·simp only [resolve,hg];simp [go_sem]
 ·simp [invoke,go_sem,eg]
 have hJ:OwnFrom b.heap.size (fun (pre:List α) W=>I pre W∧Bj fn a ps assign body d .ready W):=fun s A B row hs m hr=>
  ⟨u s A B row hs.1 m (fun r e=>⟨by have:=(hr r e).1;omega,(hr r e).2⟩),sQ m hr hs.2.pY om,sQ m hr hs.2.Jv om⟩
 have aw:OwnFrom b.heap.size (fun (pre:List α) W=>F pre W∧aaT fn a ps assign body d W):=fun s A B row hs m hr=>
  ⟨M s A B row hs.1 m (fun r e=>⟨by have:=(hr r e).1;omega,(hr r e).2⟩),sQ m hr hs.2.pY om,sQ m hr hs.2.Jv om⟩
 refine (af (d+1) (fun pre W=>I pre W∧Bj fn a ps assign body d .ready W) (fun pre W=>F pre W∧aaT fn a ps assign body d W) b av om hJ aw ?_ ⟨ar,aq⟩).mono ?_
 ·rintro pre x W ⟨hi,j⟩ hlen;refine ⟨fn,_,assign,body,run_yield j.pY (al x),roundIn_of_wpIn ao (aa (d+1) pre x W _ hi fun h X GH ag ax az=> ?_)⟩;have z:=j.xI GH;refine ⟨_,run_beginRound z.pY rfl,?_⟩;have O:Bj fn a ps assign body d .busy (X.putObj (d+1) (.loop (Eo fn a ps assign body d .busy))):=z.turn;have ai:k X (X.putObj (d+1) (.loop (Eo fn a ps assign body d .busy))):=L _ _ _ z.pY rfl;refine Wv (ab (d+1) pre x h _ om ⟨_,O.pY⟩ (u.putObj _ ax om z.pY rfl) ((an x h).putObj (s:=()) _ az om z.pY rfl) hlen) ?_;rintro e a3 W3 y;cases e with
  | normal=>
   obtain ⟨Y,J,P⟩:=y;have c:=O.xI Y;have R:Bj fn a ps assign body d .ready (W3.putObj (d+1) (.loop (Eo fn a ps assign body d .ready))):=c.turn;exact ⟨_,_,run_endRound none c.pY,q _ _ _ ag (q _ _ _ ai (q _ _ _ J (L _ _ _ c.pY rfl))),.inl ⟨rfl,u.putObj _ P om c.pY rfl,R⟩⟩
  | ret=>
   obtain ⟨Y,J,P⟩:=y;have c:=O.xI Y;have R:aaT fn a ps assign body d (W3.putObj (d+1) (.loop (aeg fn a ps assign body d))):=⟨World.putObj_heap_same (aK c.pY),(World.putObj_heap_other om).trans c.Jv⟩;exact ⟨_,_,run_endRound (some .ret) c.pY,q _ _ _ ag (q _ _ _ ai (q _ _ _ J (L _ _ _ c.pY rfl))),.inr ⟨rfl,M.putObj _ P om c.pY rfl,R⟩⟩
  | exit id=>exact y.elim
  | goto t=>exact y.elim
  | panic ch=>exact y.elim
  | outgrown=>exact y.elim
 ·rintro e W2 ⟨⟨v,rfl⟩,(⟨xs,hS,hi,j⟩ | ⟨pre,aD,hi,j⟩)⟩
  ·exact ⟨none,_,run_endLoop j.pY (by simp [Eo]),ad d xs _ (aO _) hS (u.putObj _ hi om j.pY rfl) ((World.putObj_heap_other om).trans j.Jv)⟩
  ·exact ⟨some .ret,_,run_endLoop j.pY (by simp [aeg]),ae d pre _ (aO _) aD (M.putObj _ hi om j.pY rfl) ((World.putObj_heap_other om).trans j.Jv)⟩
end
end
end Go.Proofs.YtknjjjenklfeoaaGreatDoor
