import Derived.Test.YtknjjjenklfeoaaGreatDoorO32
set_option maxHeartbeats 8000000
set_option maxRecDepth 100000
set_option linter.all false
namespace Go.Proofs.YtknjjjenklfeoaaGreatDoor
open Go.RowKit
section
structure BD (L L':List aj):Prop where
 len:L'.length=L.length
 same: ∀ t,t≠0→t≠5→cl L' t=cl L t
section
variable {L L':List aj} {rs:List bC}
theorem BD.nm (h:BD L L') {t:Nat} (h6:6≤t) (q:Nat):nm L' t q=nm L t q:=by
 unfold Go.Proofs.YtknjjjenklfeoaaGreatDoor.nm;rw [h.same t om om]
theorem BD.count (h:BD L L') (n:Nat) (hn:n<256):aS L' n=aS L n:=by
 unfold aS;rw [h.same _ om om]
theorem BD.shape (h:BD L L') (hs:cZ L rs):Shape L L' rs:=
 Shape.of_same (fun r hr=>h.same _ (by have:=hs.fst r hr;omega) (by have:=hs.fst r hr;omega)) (fun s hx=>h.same _ (by have:=hs.sec s hx;omega) (by have:=hs.sec s hx;omega))
theorem BD.sound (h:BD L L') (hs:cZ L rs):cZ L' rs:=by
 have hlen:=hs.len;refine hs.shape (h.shape hs) (by rw [h.len];exact aP _) (by rw [h.len];exact hs.len) (fun n hn=>by rw [h.count n hn];exact hs.jy n hn) (fun n hn=>by rw [h.count n hn];exact hs.top n hn) (fun n hn hl=>by rw [h.count n hn];exact hs.none n hn (by rw [← h.len];exact hl)) (fun r hr j hj hm=> ?_) (fun s hx k hk hm=> ?_)
 ·have h6:=hs.fst r hr;rw [h.nm h6.1] at hm ⊢
  have:=hs.zh (aA ⟨r,hr,rfl⟩) j om om
  rw [h.count _ om];exact hs.BU r hr j hj hm
 ·have h6:=hs.sec s hx;rw [h.nm h6.1] at hm ⊢
  have:=hs.zh (ay hx) k hk om
  rw [h.count _ om];exact hs.AB s hx k hk hm
theorem BD.content (h:BD L L') (hs:cZ L rs) {r:bC} (hr:r ∈ rs):dZ L' r.N=dZ L r.N:=
 (h.shape hs).content (fun n hn=>h.same n (by have:=hs.aF n hn;omega) (by have:=hs.aF n hn;omega)) hr
theorem BD.tree (h:BD L L') (hs:cZ L rs) {r:bC} (hr:r ∈ rs) (m:Nat):kK L' r.N m=kK L r.N m:=(h.shape hs).tree hr m
theorem BD.exact (h:BD L L') (hs:cZ L rs) (hx:wI L rs):wI L' rs:=by
 have hlen:=hs.len;refine ⟨fun n hn=>by rw [h.count n hn,(h.shape hs).use];exact hx.eq n hn,fun r hr j hj h0 h1=> ?_,fun s hx' k hk h0 h1=> ?_⟩
 ·have h6:=hs.fst r hr;rw [h.nm h6.1] at h0 h1 ⊢
  have:=hs.zh (aA ⟨r,hr,rfl⟩) j om h0
  rw [h.count _ om] at h1;exact hx.Xg r hr j hj h0 h1
 ·rw [(h.shape hs).rJ] at hx';have h6:=hs.sec s hx';rw [h.nm h6.1] at h0 h1 ⊢
  have:=hs.zh (ay hx') k hk h0
  rw [h.count _ om] at h1;exact hx.Xh s hx' k hk h0 h1
end
theorem acE {C:List aj} {p:Nat} {c:aj} (hp:p<C.length) (h:p=0∨p=5):BD C (dV C [(p,c)])∧cl (dV C [(p,c)]) p=c∧ ∀ t,t≠p→cl (dV C [(p,c)]) t=cl C t:=by
 have e:dV C [(p,c)]=lS C (p,c):=rfl;have hl:(lS C (p,c)).length=C.length:=by rw [Kw];simp only;omega
 have ho: ∀ t,t≠p→cl (lS C (p,c)) t=cl C t:=fun t ht=>by
  by_cases htl:t<C.length
  ·rw [← lV om,yS,ak (fun z=>ht z.symm),lV htl]
  ·rw [Dc om,Dc om]
 rw [e];exact ⟨⟨hl,fun t h0 h5=>ho t om⟩,by rw [← lV om,yS,au rfl],ho⟩
section
variable {base:List aj} {V:aB} {N0:Nat} {E:List aX} {f n:Nat}
structure O1 (base:List aj) (V:aB) (N0:Nat) (E:List aX) (V':aB) (N1:Nat) (E':List aX) (D':dY):Prop where
 bP:bD base V' N1 E'
 holds:bU V'.C N1 E'=D'
 exact:wI V.C (aH N0 E)→wI V'.C (aH N1 E')
theorem aoj {L L':List aj} (hh:bU L' N0 E=bU L N0 E): ∀ r ∈ aH N0 E,dZ L' r.N=dZ L r.N:=by
 intro r hr;rcases Cj.1 hr with z | ⟨x,hx,z⟩
 ·rw [z];exact FV dY.C hh
 ·rw [z];obtain ⟨i,hi,rfl⟩:=Rn hx;have h2:(E.map fun e=>(⟨e.name,dZ L' e.first⟩:jQ))=E.map fun e=>⟨e.name,dZ L e.first⟩:=FV dY.L hh;have h3:=FV (fun l=>l[i]?) h2;simp only [jD,bI hi,EM,jv] at h3;exact FV jQ.C h3
theorem XY (V:aB) (f n:Nat):iF V (copyV V f n):=by
 unfold copyV jF;exact ((XZ (ajF (acH (iF.refl V) [n]) uy _).flush _ 4).put _ _).flush
theorem bD.af4 (h:bD base V N0 E) (hf:f ∈ (aH N0 E).map (·.N)) (hn:n<256) (h0:aS V.C n=0) (hfit:oz (aJ V.C) (jf V.C f)=true):
  cZ (copyV V f n).C (aH N0 E)∧(∀ j,j<32→nm (copyV V f n).C n j=nm (copyV V f n).C f j)∧(∀ m,kK (copyV V f n).C n m=(if n=m then 1 else 0)+(jf V.C f).count m)∧
   (¬ ng (aH N0 E) n∧ ¬ fB (copyV V f n).C (aH N0 E) n∧ ¬ oK (copyV V f n).C (aH N0 E) n)∧dZ (copyV V f n).C n=dZ (copyV V f n).C f∧(∀ r ∈ aH N0 E,dZ (copyV V f n).C r.N=dZ V.C r.N)∧(jf V.C f).count n=0:=by
 obtain ⟨e,a1,a2,a3,a4,a5,a6,a7,a8⟩:=h.copied hf hn h0 hfit;obtain ⟨k1,k2,k3⟩:=h.af5 hf hn hfit;have hun:=h.sound.untold hn h0;obtain ⟨r,hr,rfl⟩:=gQ.1 hf;have hr6:=h.sound.fst r hr;have hrn:r.N≠n:=fun z=>hun.1 ⟨r,hr,z⟩;have ec:cl (copyV V r.N n).C n=cl (copyV V r.N n).C r.N:=by rw [a5,a6 r.N om hr6.2 hrn (by unfold yK;simp)]
 have en: ∀ j,nm (copyV V r.N n).C n j=nm (copyV V r.N n).C r.N j:=fun j=>by unfold nm;rw [ec]
 have hs:=a2.sound;rw [rP a3] at hs;have apz: ¬ ng (aH N0 E) n∧ ¬ fB (copyV V r.N n).C (aH N0 E) n∧ ¬ oK (copyV V r.N n).C (aH N0 E) n:=⟨hun.1,fun x=>hun.2.1 ((a8.rJ n).1 x),fun x=>hun.2.2 ((a8.zS n).1 x)⟩;have hh:=a2.holds;rw [rP a3] at hh;refine ⟨hs,fun j _=>en j,fun m=> ?_,apz,anS (fun j _=>en j),fun r' hr'=> ?_,?_⟩
 ·have h1:kK (copyV V r.N n).C r.N m=kK V.C r.N m:=a8.tree hr m;have h2:=V9 (h.sound.zero r hr) m;unfold kK at h1 ⊢;have h3: ∀ j,nJ (copyV V r.N n).C n j m=nJ (copyV V r.N n).C r.N j m:=fun j=>by unfold nJ;rw [en j]
  rw [h3 0,h3 1,h2];omega
 ·exact aoj hh r' hr'
 ·refine FU.2 fun x=> ?_;obtain ⟨j,hj,hj0,y | ⟨k,hk,hk0,y⟩⟩:=Xt (h.sound.zero r hr) x
  ·exact hun.2.1 ⟨r,hr,j,hj,hj0,y⟩
  ·exact hun.2.2 ⟨_,⟨r,hr,j,hj,hj0,rfl⟩,k,hk,hk0,y⟩
theorem bD.anW (h:bD base V N0 E) (hf:f ∈ (aH N0 E).map (·.N)) (hn:n<256) (h0:aS V.C n=0) (hfit:oz (aJ V.C) (jf V.C f)=true) (hx:wI V.C (aH N0 E)) {t:Nat} (ht:ng (aH N0 E) t∨fB V.C (aH N0 E) t) (q:Nat) (hq:q<32) (hne:nm (copyV V f n).C t q≠0)
  (h1:aS (copyV V f n).C (nm (copyV V f n).C t q%32768)=1):32768≤nm (copyV V f n).C t q:=by
 obtain ⟨e,a1,a2,a3,a4,a5,a6,a7,a8⟩:=h.copied hf hn h0 hfit;have hun:=h.sound.untold hn h0;have hlen:=h.sound.len;have ht6:=h.sound.KH ht;have htn:t≠n:=fun z=>by
  rw [z] at ht;rcases ht with y | y
  ·exact hun.1 y
  ·exact hun.2.1 y
 obtain ⟨r,hr,rfl⟩:=gQ.1 hf;have same:kN (nm (copyV V r.N n).C t q) (nm V.C t q):=by
  rcases ht with ⟨r',hr',rfl⟩ | y
  ·exact a8.t1 r' hr' q hq
  ·exact a8.t2 t y q hq
 have hv0:nm V.C t q≠0:=fun z=>hne (same.1.2 z);have hin:=h.sound.zh ht q hq hv0;have hus:=h.sound.adI ht q hq hv0;have hcn:=h.sound.jy _ (show nm V.C t q%32768<256 by omega);have hcc:nm V.C t q%32768≠n:=fun z=>by rw [z] at hcn hus;omega
 rw [same.2,a4 _ om,ak (fun z=>hcc z.symm)] at h1
 by_cases ho:yK V.C r.N t
 ·exfalso;have hmem:nm V.C t q%32768 ∈ jf V.C r.N:=by
   rcases dD.1 ho with z | z
   ·rw [z] at hv0 ⊢;have hq2:q<2:=by
     by_cases x:q<2
     ·exact x
     ·exact absurd (h.sound.zero r hr q om hq) hv0
    exact aun hq2 hv0
   ·obtain ⟨i,hi,hi0,e2⟩:=Xu z;have hi2:i<2:=by
     by_cases x:i<2
     ·exact x
     ·exact absurd (h.sound.zero r hr i om hi) hi0
    have e3:nm V.C r.N i%32768=t:=e2
    have:=auo (C:=V.C) (f:=r.N) (j:=i) (k:=q) hi2 hi0 hq (by rw [e3];exact hv0)
    rw [e3] at this;exact this
  have:=Za.2 hmem
  omega
 ·have e2:nm (copyV V r.N n).C t q=nm V.C t q:=by unfold nm;rw [a7 t om ht6.2 htn ho]
  rw [e2];rcases ht with ⟨r',hr',rfl⟩ | y
  ·have hq2:q<2:=by
    by_cases x:q<2
    ·exact x
    ·exact absurd (h.sound.zero r' hr' q om hq) hv0
   exact hx.Xg r' hr' q hq2 hv0 om
  ·exact hx.Xh t y q hq hv0 om
theorem aaP (L:List aj) (N1:Nat) (E1:List aX):(bU L N1 E1).C=dZ L N1:=by simp only [bU]
theorem PL (L:List aj) (N1:Nat) (E1:List aX):(bU L N1 E1).L=E1.map fun e=>(⟨e.name,dZ L e.first⟩:jQ):=by simp only [bU]
theorem aaQ {L:List aj} {N1:Nat} {E1:List aX} {c:List aj} {l:List jQ} (hA:dZ L N1=c) (hB:(E1.map fun e=>(⟨e.name,dZ L e.first⟩:jQ))=l):bU L N1 E1=⟨c,l⟩:=by rw [← hA,← hB];rfl
def Jh (V:aB) (f n:Nat) (E':List aX):aB:=fJ (bT (copyV V f n) 5 (nG E'))
def adn (D:dY) (s:List UInt8):dY:={ D with L:=D.L++[⟨s,D.C⟩] }
theorem asR (N0:Nat) (E:List aX) (e:aX):aH N0 (E++[e])=aH N0 E++[kV e]:=by simp [aH]
theorem akV (L:List aj) (rs:List bC) (r:bC) (m:Nat):dM L (rs++[r]) m=dM L rs m+kK L r.N m:=by simp [dM]
theorem iL.snoc (h:iL E) {s:List UInt8} (hs:oC s=true) (hnew:s ∉ E.map (·.name)) (h4:E.length<4) (h6:n≠0) (hn:n<65536):iL (E++[⟨s,n⟩]):=by
 refine ⟨by simp;omega,fun e he=> ?_,?_⟩
 ·rcases gq.1 he with x | x
  ·exact h.all e x
  ·rw [jw.1 x];exact ⟨hs,h6,hn⟩
 ·rw [rE,ad4];refine ⟨h.nodup,sm,fun a ha b hb=> ?_⟩;simp only [jC,KN,jw] at hb;rw [hb];exact fun z=>hnew (by rw [← z];exact ha)
theorem bD.take (h:bD base V N0 E) {s:List UInt8} (hs:oC s=true) (hnew:s ∉ E.map (·.name)) (h4:E.length<4) (hn:n<256) (h0:aS V.C n=0) (hfit:oz (aJ V.C) (jf V.C N0)=true):
  Jh V N0 n (E++[⟨s,n⟩])=jR (copyV V N0 n) [(5,nG (E++[⟨s,n⟩]))]∧O1 base V N0 E (Jh V N0 n (E++[⟨s,n⟩])) N0 (E++[⟨s,n⟩]) (adn (bU V.C N0 E) s):=by
 have hf:N0 ∈ (aH N0 E).map (·.N):=by simp [aH]
 have hr0:(⟨N0,0,[]⟩:bC) ∈ aH N0 E:=by simp [aH]
 obtain ⟨e,a1,a2,a3,a4,a5,a6,a7,a8⟩:=h.copied hf hn h0 hfit;obtain ⟨b1,b2,b3,b4,b5,b6,b7⟩:=h.af4 hf hn h0 hfit;have h6:=h.sound.Fg hn h0;have hT:je V.C [n]=max V.C.length (n+1):=rfl;have h7:=h.file.seven;have hlen:=h.sound.len;have hE':=h.file.jT.snoc hs hnew h4 (show n≠0 by omega) om;have e1:Jh V N0 n (E++[⟨s,n⟩])=jR (copyV V N0 n) [(5,nG (E++[⟨s,n⟩]))]:=by unfold Jh jR;rw [Oh]
 have hC:(Jh V N0 n (E++[⟨s,n⟩])).C=dV (copyV V N0 n).C [(5,nG (E++[⟨s,n⟩]))]:=by rw [e1,y5]
 obtain ⟨c1,c2,c3⟩:=acE (C:=(copyV V N0 n).C) (p:=5) (c:=nG (E++[⟨s,n⟩])) om (ay rfl);rw [← hC] at c1 c2 c3;have aph:(Jh V N0 n (E++[⟨s,n⟩])).loose=false:=by rw [e1];exact SQ _
 have TL:iF V (Jh V N0 n (E++[⟨s,n⟩])):=by rw [e1];exact QE (XY V N0 n) _
 have abw:=fun (hx:wI V.C (aH N0 E)) {t:Nat} ht q hq=>h.anW hf hn h0 hfit hx (t:=t) ht q hq;refine ⟨e1,?_⟩;clear e1 e a1 a5 a6 a7;generalize Jh V N0 n (E++[⟨s,n⟩])=W at*;generalize copyV V N0 n=U at*;have hrs:aH N0 (E++[⟨s,n⟩])=aH N0 E++[⟨n,5,s⟩]:=asR _ _ _;have hcnt: ∀ m,m<256→aS (U).C m=gX m+dM (U).C (aH N0 (E++[⟨s,n⟩])) m∨gX m+dM V.C (aH N0 E) m<aS V.C m:=fun m hm=>by
  rw [hrs,akV,a8.use,a4 m hm];simp only;rw [b3 m]
  by_cases z:n=m
  ·subst z
   left
   rw [au rfl,au rfl,Jj h.sound (h.sound.untold hn h0),b7,vV,ak om]
  ·rw [ak z,ak z]
   have:=h.sound.jy m hm
   omega
 have s1:cZ (U).C (aH N0 (E++[⟨s,n⟩])):=by
  refine b1.roots (fun r' hr'=> ?_) ?_ (fun m hm=> ?_)
  ·rw [hrs] at hr';rcases gq.1 hr' with x | x
   ·exact ⟨b1.fst r' x,b1.fs _ ⟨r',x,rfl⟩,b1.fb _ ⟨r',x,rfl⟩,r',x,fun j _=>rfl⟩
   ·rw [jw.1 x];exact ⟨⟨h6,by rw [a3];simp only;omega⟩,b4.2.1,b4.2.2,_,hr0,fun j hj=>b2 j hj⟩
  ·rw [hrs,rE,ad4];refine ⟨b1.nodup,sm,fun a ha b hb=> ?_⟩;simp only [jC,KN,jw] at hb;rw [hb];intro z;obtain ⟨r',hr',e2⟩:=gQ.1 ha;exact b4.1 ⟨r',hr',e2.trans z⟩
  ·rw [hrs,akV,a8.use,a4 m hm];simp only;rw [b3 m]
   have:=h.sound.jy m hm
   by_cases z:n=m
   ·subst z;rw [au rfl,au rfl,Jj h.sound (h.sound.untold hn h0),b7,vV,ak om];exact aP _
   ·rw [ak z,ak z];omega
 have s2:=c1.sound s1;have Ei:(W).C.length=je V.C [n]:=by rw [c1.len,a3]
 have NQ:kM (W).C (je V.C [n]) N0 (E++[⟨s,n⟩]):=by
  refine ⟨?_,om,om,a2.file.seven,a2.file.most,a2.file.n0,by rw [c3 0 om];exact a2.file.head,c2,hE'⟩;rw [hC];exact QD _ _ a2.file.lens (fun x hx=>by rw [jw.1 hx];exact hE'.length)
 have hD:bU (W).C N0 (E++[⟨s,n⟩])=adn (bU V.C N0 E) s:=by
  have g: ∀ r ∈ aH N0 (E++[⟨s,n⟩]),dZ (W).C r.N=dZ (U).C r.N:=fun r hr=>c1.content s1 hr;have gn:=g ⟨n,5,s⟩ (by rw [hrs];simp);have g0:=g ⟨N0,0,[]⟩ (by rw [hrs];simp [aH]);simp only at gn g0;have hb0:=b6 _ hr0;simp only at hb0;have hA:dZ (W).C N0=(bU V.C N0 E).C:=by rw [aaP,g0,hb0]
  have hB:((E++[(⟨s,n⟩:aX)]).map fun e:aX=>(⟨e.name,dZ (W).C e.first⟩:jQ))=(bU V.C N0 E).L++[⟨s,(bU V.C N0 E).C⟩]:=by
   have h1:(E.map fun e=>(⟨e.name,dZ (W).C e.first⟩:jQ))=E.map fun e=>(⟨e.name,dZ V.C e.first⟩:jQ):=by
    apply Ii;intro x hx;have hx1:kV x ∈ aH N0 E:=Cj.2 (ay ⟨x,hx,rfl⟩);have g1:=g (kV x) (by rw [hrs];exact gq.2 (aA hx1));have g2:=b6 (kV x) hx1;simp only [kV] at g1 g2;rw [g1,g2]
   rw [rE,h1,PL,aaP,jC,KN];simp only;rw [gn,b5,hb0]
  exact aaQ hA hB
 have ok:Ok W.C (je V.C [n]) N0 (E++[⟨s,n⟩]) (adn (bU V.C N0 E) s):=⟨NQ,by rw [rP Ei];exact s2,by rw [rP Ei];exact hD⟩;refine ⟨ok.bP Ei aph (h.log.o7 TL),hD,fun hx=>c1.exact s1 ⟨fun m hm=> ?_,fun r' hr' j hj hne h1=> ?_,fun s' hs' k hk hne h1=> ?_⟩⟩
 ·rcases hcnt m hm with z | z
  ·exact z
  ·have:=hx.eq m hm;omega
 ·rw [hrs] at hr';rcases gq.1 hr' with x | x
  ·exact abw hx (aA ⟨r',x,rfl⟩) j om hne h1
  ·rw [jw.1 x] at hne h1 ⊢;simp only at hne h1 ⊢;rw [b2 j om] at hne h1 ⊢;exact abw hx (aA ⟨_,hr0,rfl⟩) j om hne h1
 ·have:fB V.C (aH N0 E) s':=by
   rw [← a8.rJ];obtain ⟨r',hr',j,hj,q0,q1⟩:=hs';rw [hrs] at hr';rcases gq.1 hr' with x | x
   ·exact ⟨r',x,j,hj,q0,q1⟩
   ·rw [jw.1 x] at q0 q1;simp only at q0 q1;rw [b2 j om] at q0 q1;exact ⟨_,hr0,j,hj,q0,q1⟩
  exact abw hx (ay this) k hk hne h1
end
theorem cZ.abo {L:List aj} {rs:List bC} (h:cZ L rs) {r:bC} (hr:r ∈ rs): ∀ u ∈ mZ L r.N,6≤u∧u<L.length:=fun u hu=>by
 rcases dD.1 hu with x | x
 ·rw [x];exact h.fst r hr
 ·obtain ⟨j,hj,h0,y | ⟨k,hk,hk0,y⟩⟩:=Xt (fun i h1 h2=>h.zero r hr i h1 h2) x
  ·exact h.sec _ ⟨r,hr,j,hj,h0,y⟩
  ·exact h.aF _ ⟨_,⟨r,hr,j,hj,h0,rfl⟩,k,hk,hk0,y⟩
theorem akx {α:Type} (g:α→Nat): ∀ (l:List α) (i:Nat) (h:i<l.length),((l.eraseIdx i).map g).sum+g l[i]=(l.map g).sum
 | a :: l,0,_=>by simp [Bh]
 | a :: l,i+1,h=>by
  have:=akx g l i (by simpa using h)
  simp only [List.eraseIdx_cons_succ,jC,Il,List.getElem_cons_succ];omega
theorem abT {α β:Type} (g:α→β): ∀ (l:List α) (i:Nat),(l.eraseIdx i).map g=(l.map g).eraseIdx i
 | [],_=>sm
 | a :: l,0=>sm
 | a :: l,i+1=>by simp [abT g l i]
section
variable {base:List aj} {V:aB} {N0:Nat} {E:List aX} {f n i:Nat}
def Ws (D:dY) (i:Nat):dY:={ D with L:=D.L.eraseIdx i }
def Ap (V:aB) (E':List aX):aB:=fJ (bT V 5 (nG E'))
theorem iL.erase (h:iL E) (i:Nat):iL (E.eraseIdx i):=
 ⟨by have:=List.length_eraseIdx_le E i;have:=h.len;omega,fun e he=>h.all e (Zm he),by rw [abT];exact h.nodup.sublist (List.eraseIdx_sublist _ _)⟩
theorem bD.drop (h:bD base V N0 E) (hi:i<E.length):
  Ap V (E.eraseIdx i)=jR V [(5,nG (E.eraseIdx i))]∧Ok (Ap V (E.eraseIdx i)).C V.C.length N0 (E.eraseIdx i) (Ws (bU V.C N0 E) i)∧(Ap V (E.eraseIdx i)).C.length=V.C.length∧cZ (Ap V (E.eraseIdx i)).C (aH N0 E)∧
   Lets (Ap V (E.eraseIdx i)) N0 (E.eraseIdx i) (mZ (Ap V (E.eraseIdx i)).C (E.getD i ze).first)∧O1 base V N0 E (oD (Ap V (E.eraseIdx i)) (mZ (Ap V (E.eraseIdx i)).C (E.getD i ze).first)) N0 (E.eraseIdx i) (Ws (bU V.C N0 E) i):=by
 have h7:=h.file.seven;have hlen:=h.sound.len;have hE':=h.file.jT.erase i;have e1:Ap V (E.eraseIdx i)=jR V [(5,nG (E.eraseIdx i))]:=by unfold Ap jR;rw [Oh]
 have hC:(Ap V (E.eraseIdx i)).C=dV V.C [(5,nG (E.eraseIdx i))]:=by rw [e1,y5]
 obtain ⟨c1,c2,c3⟩:=acE (C:=V.C) (p:=5) (c:=nG (E.eraseIdx i)) om (ay rfl);rw [← hC] at c1 c2 c3;have TL:iF V (Ap V (E.eraseIdx i)):=by rw [e1];exact QE (iF.refl V) _
 refine ⟨e1,?_⟩;clear e1;generalize Ap V (E.eraseIdx i)=W at*;have s0:=c1.sound h.sound;have hg:(E.getD i ze)=E[i]:=by rw [aK,bI hi];rfl
 have hre:kV (E.getD i ze) ∈ aH N0 E:=by
  rw [hg];exact Cj.2 (ay ⟨_,oP hi,rfl⟩)
 have hsub: ∀ r ∈ aH N0 (E.eraseIdx i),r ∈ aH N0 E:=fun r hr=>by
  rcases Cj.1 hr with x | ⟨e,he,x⟩
  ·exact Cj.2 (aA x)
  ·exact Cj.2 (ay ⟨e,Zm he,x⟩)
 have Az: ∀ m,dM (W).C (aH N0 (E.eraseIdx i)) m+kK (W).C (E.getD i ze).first m=dM V.C (aH N0 E) m:=fun m=>by
  rw [← (c1.shape h.sound).use m,hg];unfold dM aH;rw [jC,Il,jC,Il,OM,OM]
  have:=akx ((fun r:bC=>kK (W).C r.N m) ∘ kV) E i hi
  have e2:((fun r:bC=>kK (W).C r.N m) ∘ kV) E[i]=kK (W).C E[i].first m:=rfl;rw [e2] at this;omega
 have s1:cZ (W).C (aH N0 (E.eraseIdx i)):=by
  refine s0.roots (fun r hr=>⟨s0.fst r (hsub r hr),s0.fs _ ⟨r,hsub r hr,rfl⟩,s0.fb _ ⟨r,hsub r hr,rfl⟩,r,hsub r hr,fun j _=>rfl⟩) ?_ (fun m hm=> ?_)
  ·refine s0.nodup.sublist (List.Sublist.map _ ?_);unfold aH;exact (List.Sublist.map _ (List.eraseIdx_sublist _ _)).cons_cons _
  ·rw [c1.count m hm]
   have:=Az m
   have:=h.sound.jy m hm
   omega
 have Ei:(W).C.length=V.C.length:=c1.len;have NQ:kM (W).C V.C.length N0 (E.eraseIdx i):=by
  refine ⟨?_,om,om,h7,hlen,h.file.n0,by rw [c3 0 om];exact h.file.head,c2,hE'⟩;rw [hC];exact QD _ _ h.file.lens (fun x hx=>by rw [jw.1 hx];exact hE'.length)
 have hD:bU (W).C N0 (E.eraseIdx i)=Ws (bU V.C N0 E) i:=by
  rw [aaR (L:=V.C) (fun r hr=>c1.content h.sound (hsub r hr))];refine aaQ (by rw [aaP]) ?_;rw [PL,abT]
 have ok:Ok (W).C V.C.length N0 (E.eraseIdx i) (Ws (bU V.C N0 E) i):=⟨NQ,by rw [rP Ei];exact s1,by rw [rP Ei];exact hD⟩;have TD: ∀ m,(mZ (W).C (E.getD i ze).first).count m=kK (W).C (E.getD i ze).first m:=fun m=>V8 (s0.zero _ hre) m;have hl:Lets (W) N0 (E.eraseIdx i) (mZ (W).C (E.getD i ze).first):=by
  refine ⟨fun u hu=> ?_,fun m hm=> ?_⟩
  ·have:=s0.abo hre u hu
   omega
  ·rw [TD m,c1.count m hm]
   have:=Az m
   have:=h.sound.jy m hm
   omega
 obtain ⟨g1,g2,g3,g4⟩:=ok.TR Ei hl;have hD2:=g1.holds;rw [rP g2] at hD2;refine ⟨ok,Ei,s0,hl,g1.bP g2 g3 (h.log.o7 (Ky TL _)),hD2,fun hx=>g4 fun m hm=> ?_⟩;rw [TD m,c1.count m hm,hx.eq m hm]
 have:=Az m
 omega
def AV (V:aB) (f n:Nat):aB:=fJ (bT (copyV V f n) 0 (fE (num (cl (copyV V f n).C 0) 4) n))
def Ur (D:dY) (i:Nat):dY:={ D with C:=(D.L.getD i ⟨[],[]⟩).C }
theorem bD.ret (h:bD base V N0 E) (hi:i<E.length) (hn:n<256) (h0:aS V.C n=0) (hfit:oz (aJ V.C) (jf V.C (E.getD i ze).first)=true):
  AV V (E.getD i ze).first n=jR (copyV V (E.getD i ze).first n) [(0,fE (je V.C [n]) n)]∧Ok (AV V (E.getD i ze).first n).C (je V.C [n]) n E (Ur (bU V.C N0 E) i)∧(AV V (E.getD i ze).first n).C.length=je V.C [n]∧cZ (AV V (E.getD i ze).first n).C (aH N0 E)∧
   Lets (AV V (E.getD i ze).first n) n E (mZ (AV V (E.getD i ze).first n).C N0)∧O1 base V N0 E (oD (AV V (E.getD i ze).first n) (mZ (AV V (E.getD i ze).first n).C N0)) n E (Ur (bU V.C N0 E) i):=by
 have hg:(E.getD i ze)=E[i]:=by rw [aK,bI hi];rfl
 have hre:kV (E.getD i ze) ∈ aH N0 E:=by
  rw [hg];exact Cj.2 (ay ⟨_,oP hi,rfl⟩)
 have hf:(E.getD i ze).first ∈ (aH N0 E).map (·.N):=gQ.2 ⟨_,hre,rfl⟩;have hr0:(⟨N0,0,[]⟩:bC) ∈ aH N0 E:=by simp [aH]
 obtain ⟨e,a1,a2,a3,a4,a5,a6,a7,a8⟩:=h.copied hf hn h0 hfit;obtain ⟨b1,b2,b3,b4,b5,b6,b7⟩:=h.af4 hf hn h0 hfit;have hDe:dZ V.C (E.getD i ze).first=((bU V.C N0 E).L.getD i ⟨[],[]⟩).C:=by
  unfold bU;simp only [aK,jD,bI hi,EM,KR]
 generalize hfe:(E.getD i ze).first=f at*;have h6:=h.sound.Fg hn h0;have hT:je V.C [n]=max V.C.length (n+1):=rfl;have h7:=h.file.seven;have hlen:=h.sound.len;have e1:AV V f n=jR (copyV V f n) [(0,fE (je V.C [n]) n)]:=by
  unfold AV jR;rw [a2.file.Qq,Oh]
 have hC:(AV V f n).C=dV (copyV V f n).C [(0,fE (je V.C [n]) n)]:=by rw [e1,y5]
 obtain ⟨c1,c2,c3⟩:=acE (C:=(copyV V f n).C) (p:=0) (c:=fE (je V.C [n]) n) om (aA rfl);rw [← hC] at c1 c2 c3;have TL:iF V (AV V f n):=by rw [e1];exact QE (XY V f n) _
 refine ⟨e1,?_⟩;clear e1 e a1 a5 a6 a7;generalize AV V f n=W at*;generalize copyV V f n=U at*;have s0:=c1.sound b1;have Az: ∀ m,dM (U).C (aH n E) m+kK (U).C N0 m=dM V.C (aH N0 E) m+kK (U).C n m:=fun m=>by
  rw [← a8.use m];unfold dM aH;rw [jC,Il,jC,Il];dsimp only;omega
 have hall: ∀ m,m<256→gX m+dM (U).C (aH n E) m+kK (U).C N0 m≤aS (U).C m∧(aS V.C m=gX m+dM V.C (aH N0 E) m→aS (U).C m=gX m+dM (U).C (aH n E) m+kK (U).C N0 m):=fun m hm=>by
  have h1:=Az m;have h2:=h.sound.jy m hm;rw [a4 m hm];rw [b3 m] at h1
  by_cases z:n=m
  ·subst z;have h3:=Jj h.sound (h.sound.untold hn h0);have h4:=vV n;rw [ak om] at h4;rw [au rfl] at h1 ⊢;omega
  ·rw [ak z] at h1 ⊢;omega
 have s1:cZ (U).C (aH n E):=by
  refine b1.roots (fun r hr=> ?_) ?_ (fun m hm=> ?_)
  ·rcases Cj.1 hr with x | ⟨y,hy,x⟩
   ·rw [x];exact ⟨⟨h6,by rw [a3];simp only;omega⟩,b4.2.1,b4.2.2,_,hre,fun j hj=>by rw [b2 j hj,← hfe];rfl⟩
   ·have hr':r ∈ aH N0 E:=Cj.2 (ay ⟨y,hy,x⟩);exact ⟨b1.fst r hr',b1.fs _ ⟨r,hr',rfl⟩,b1.fb _ ⟨r,hr',rfl⟩,r,hr',fun j _=>rfl⟩
  ·have hnd:=b1.nodup;unfold aH at hnd ⊢;rw [jC,adX] at hnd ⊢;refine ⟨fun z=> ?_,hnd.2⟩;obtain ⟨r',hr',e2⟩:=gQ.1 z;exact b4.1 ⟨r',by unfold aH;exact dD.2 (ay hr'),e2⟩
  ·have:=(hall m hm).1
   omega
 have s2:=c1.sound s1;have Ei:(W).C.length=je V.C [n]:=by rw [c1.len,a3]
 have NQ:kM (W).C (je V.C [n]) n E:=by
  refine ⟨?_,om,om,a2.file.seven,a2.file.most,om,c2,by rw [c3 5 om];exact a2.file.list,a2.file.jT⟩;rw [hC];exact QD _ _ a2.file.lens (fun x hx=>by rw [jw.1 hx];exact II _ _)
 have hD:bU (W).C n E=Ur (bU V.C N0 E) i:=by
  have g: ∀ r ∈ aH n E,dZ (W).C r.N=dZ (U).C r.N:=fun r hr=>c1.content s1 hr;have gn:=g ⟨n,0,[]⟩ (by simp [aH]);simp only at gn;have hA:dZ (W).C n=((bU V.C N0 E).L.getD i ⟨[],[]⟩).C:=by
   have hb0:=b6 _ hre;simp only [kV] at hb0;rw [gn,b5,← hDe,← hfe,hb0]
  have hB:(E.map fun e=>(⟨e.name,dZ (W).C e.first⟩:jQ))=(bU V.C N0 E).L:=by
   rw [PL];apply Ii;intro x hx;have g1:=g (kV x) (Cj.2 (ay ⟨x,hx,rfl⟩));have g2:=b6 (kV x) (Cj.2 (ay ⟨x,hx,rfl⟩));simp only [kV] at g1 g2;rw [g1,g2]
  exact aaQ hA hB
 have ok:Ok (W).C (je V.C [n]) n E (Ur (bU V.C N0 E) i):=⟨NQ,by rw [rP Ei];exact s2,by rw [rP Ei];exact hD⟩;have TD: ∀ m,(mZ (W).C N0).count m=kK (U).C N0 m:=fun m=>by
  rw [V8 (s0.zero _ hr0) m];exact c1.tree b1 hr0 m
 have hl:Lets (W) n E (mZ (W).C N0):=by
  refine ⟨fun u hu=> ?_,fun m hm=> ?_⟩
  ·have:=s0.abo hr0 u hu
   have:=s0.len
   omega
  ·rw [TD m,c1.count m hm,(c1.shape s1).use];exact (hall m hm).1
 obtain ⟨g1,g2,g3,g4⟩:=ok.TR Ei hl;have hD2:=g1.holds;rw [rP g2] at hD2;refine ⟨ok,Ei,s0,hl,g1.bP g2 g3 (h.log.o7 (Ky TL _)),hD2,fun hx=>g4 fun m hm=> ?_⟩;rw [TD m,c1.count m hm,(c1.shape s1).use];exact (hall m hm).2 (hx.eq m hm)
end
end
section
open Go.RowKit Go.Shelf
attribute [local go_sem ↓] dw fP fZ kS mP mV jJ kJ jY jU lD lH kQ ku kT mQ mW lZ ny jG qc qP qQ qF
attribute [local go_sem] dK fO fV gK gy aV kX mG mM mJ mF gI jK kH jX kZ kW iJ jW lq lC lu kF jc jd lY l7 kG kY mO nI lT mD nH qh qM qO qN qL
attribute [local go_sem] pW pV
theorem aty (n:Nat) (hn:n<65536) (w:World):Calls Tryz.prog 147 #[.int .u16 (n:Nat)] w fun e w'=>e= .returned (.int .u16 ((uy n:Nat):Int))∧w'=w:=by
 go_enter Tryz.func147,Tryz.ntmps147
 go_wp2;go_ret;exact ⟨Us (ae4 n hn),rfl⟩
theorem atx (M:Nat):Zq 147 #[] [] uy M:=fun W n _ hn _ _=>aty n hn W
theorem afG (V:aB) (F:List Nat) (t:Nat) (ht:t≠0) (h0:0<V.C.length):cl (dQ V F).C t=cl V.C t:=by
 unfold dQ;split
 ·rw [zK]
  by_cases htl:t<V.C.length
  ·exact SE _ _ _ _ htl (fun e=>ht e.symm)
  ·rw [Dc (by rw [yN];omega),Dc om]
 ·rfl
theorem qW.same {A B:aB} (hl:B.C.length=A.C.length) (hc: ∀ t,t≠0→cl B.C t=cl A.C t) {t:Nat} (h:qW A t):qW B t:=by
 have e:tK B=tK A:=by funext c;unfold tK;rw [hl]
 unfold qW Ai;rw [e,hc t (by have:=h.1.1;omega)];exact h
theorem gJ.same {A B:aB} (hl:B.C.length=A.C.length) (hc: ∀ t,t≠0→cl B.C t=cl A.C t) {t:Nat} (h:gJ A t):gJ B t:=by
 refine ⟨h.1.same hl hc,fun i=> ?_⟩;rw [hc t (by have:=h.1.1.1;omega)];exact ⟨(h.2 i).1,fun h0=>((h.2 i).2 h0).same hl hc⟩
def iy (V:aB) (f:Nat):aB × Nat × Nat:=
 if 0<(dG (aJ V.C) 1).length∧oz (aJ V.C) (jf V.C f)=true then (copyV V f ((dG (aJ V.C) 1).getD 0 0),(dG (aJ V.C) 1).getD 0 0,0) else (V,0,5)
theorem anU (w:World) (v:Nat) (Cv Lv:Value) (V:aB) (h:aN w v Cv Lv V) (h5:5<V.C.length) (hC:V.C.length≤256) (f:Nat) (hF:gJ V f)
  (hbad: ¬ (0<(dG (aJ V.C) 1).length∧oz (aJ V.C) (jf V.C f)=true)):
  Calls Tryz.prog 86 #[.pointer (some ⟨v,0,none⟩),.int .i64 (f:Nat)] w fun e w'=>e= .returned (.tuple #[.int .i64 0,.int .i64 5])∧aC w w':=by
 have Hf:=ah (Xl w v Cv Lv V h om 1 om);have Hs:Hid (∀ W,aN W v Cv Lv V→_):=fun W hW=>eY.1 (akk W v Cv Lv V hW h5 hC f hF);have H:=ah h;have SV:=(NY (aJ V.C) 1 256).1;change (dG (aJ V.C) 1).length≤1 at SV;have hsl:(FP V.C f).1.length=256:=by
  unfold FP;split
  ·rw [QA];exact BI V.C h.kE om
  ·exact iJ
 have hs2:(FP V.C f).2=oz (aJ V.C) (jf V.C f):=by
  unfold FP;split
  ·rename_i e;rw [e]
  ·rename_i e;simp at e;rw [e]
 clear h;generalize dG (aJ V.C) 1=F at*;generalize oz (aJ V.C) (jf V.C f)=b at*;generalize FP V.C f=R at*;obtain ⟨k,b'⟩:=R;dsimp only at hsl hs2 Hs;subst hs2
 go_enter Tryz.func86,Tryz.ntmps86
 go_wp2_with fail
 refine Hf.mono ?_;rintro e w1 ⟨x,rfl,hx,hb1⟩;obtain ⟨fa,yB,rfl⟩:=iq hx;have B1:=ah hb1;clear hx hb1 Hf
 go_wp2_with fail
 refine (uh Hs _ (H.below B1)).mono ?_;rintro e w2 ⟨rfl,hb2⟩;have B2:=B1.trans (hb2.mono B1.size);have B3:=ah (B2.alloc B2.size (.cells (cv k).toArray 123));clear B2 hb2 Hs B1
 by_cases hl:0<F.length
 ·have hb:b'=false:=by
   cases b' with
   | false=>rfl
   | true=>exact absurd ⟨hl,rfl⟩ hbad
  subst hb;have hl1:((F.length:Nat):Int)=1:=om;go_wp2;go_ret2;exact ⟨rfl,uh B3⟩
 ·have hl1:((F.length:Nat):Int)=0:=om;go_wp2;go_ret2;exact ⟨rfl,uh B3⟩
theorem asO {w1:World} {base g cap k:Nat} {xs:List Value} (hx:w1.ownsRow base 3 1 (.slice (some ⟨g,0,none⟩) k cap) k xs):
  ∃ cur,base≤g∧w1.heap[g]? = some (.cells cur 3 (0,0))∧ ∀ W:World,W.heap[g]? = some (.cells cur 3 (0,0))→W.ownsRow 0 3 1 (.slice (some ⟨g,0,none⟩) k cap) k xs:=by
 obtain ⟨h1,h2⟩:=hx;rcases h2 with ⟨h2,_⟩ | ⟨g',cap',cur,e,hg,hb,r⟩
 ·cases h2
 ·injection e with e1 e2 e3;injection e1 with e1;injection e1 with e1;subst e1 e3;exact ⟨cur,hg,hb,fun W hW=>⟨h1,ay ⟨_,_,cur,rfl,nN _,hW,r⟩⟩⟩
theorem Env.with {w W:World} {v g:Nat} {o:Obj} {Cv Lv C1 L1:Value} {V:aB} {bs:List (Nat × Obj)} (h:Env w W v Cv Lv C1 L1 V bs) (hg:W.heap[g]? = some o) (hw:w.heap.size≤g) (hf: ¬ eX v C1 L1 g):Env w W v Cv Lv C1 L1 V ((g,o) :: bs):=
 ⟨h.step,fun x hx=>by
  rcases dD.1 hx with rfl | hx
  ·exact ⟨hg,hw,hf⟩
  ·exact h.qg x hx⟩
theorem anY (k:List UInt8) (n:Nat):(cv k).toArray.setIfInBounds n (.int .u8 1)=(cv (k.set n 1)).toArray:=by
 rw [Af];exact FV List.toArray (Ls k n 1 om).symm
theorem anV (w:World) (v:Nat) (Cv Lv:Value) (V:aB) (h:aN w v Cv Lv V) (h5:5<V.C.length) (hC:V.C.length≤256) (hL:V.L.length≤400000000) (f:Nat) (hF:gJ V f) (n:Nat) (hn:n<256)
  (hlow:dG (aJ V.C) 1=[n]) (hfit:oz (aJ V.C) (jf V.C f)=true):
  Calls Tryz.prog 86 #[.pointer (some ⟨v,0,none⟩),.int .i64 (f:Nat)] w fun e w'=>e= .returned (.tuple #[.int .i64 (n:Nat),.int .i64 0])∧ ∃ C1 L1,bZ w w' v Cv Lv C1 L1 (copyV V f n):=by
 have Hf:=ah (Xl w v Cv Lv V h om 1 om);rw [hlow] at Hf;have hR:FP V.C f=(plus (aJ V.C) (jf V.C f),true):=by unfold FP;rw [au hfit]
 have Hs:Hid (∀ W,aN W v Cv Lv V→_):=fun W hW=>eY.1 (akk W v Cv Lv V hW h5 hC f hF);rw [hR] at Hs;dsimp only at Hs;have hkl:(plus (aJ V.C) (jf V.C f)).length=256:=by rw [QA];exact BI V.C h.kE om
 have IL:=TQ V [n] om;have Aw:=Xd V [n];have hF1:gJ (dQ V [n]) f:=hF.same IL (fun t ht=>afG V [n] t ht om);have HL:Hid (∀ W C1 L1 x,aN W v C1 L1 V→W.ownsRow 0 3 1 x [n].length (iv [n])→_):=fun W C1 L1 x hW hx=>ah2 W v C1 L1 V hW [n] sm sm (by rw [TP];exact hn) x hx om om om;have H1:Hid (jF V f n=fJ (qY uy (dQ V [n]) (sN (dQ V [n]) f))):=rfl;have H2:Hid (copyV V f n=fJ (bT (kU (jF V f n) (rY V.C f n) 4) n (cl (kU (jF V f n) (rY V.C f n) 4).C f))):=rfl;have H3:Hid (rY V.C f n=(plus (aJ V.C) (jf V.C f)).set n 1):=rfl;generalize dQ V [n]=V1 at*;have HR:Hid (∀ W C1 L1,aN W v C1 L1 V1→_):=fun W C1 L1 hW=>eY.1 (ajR W v C1 L1 V1 hW f hF1.1 hF1.2 om om 147 #[] [] uy ac2 (atx _) (enters_of Tryz.func147 kr rfl) (fun x hx=>by cases hx));have hrC:=(QI ac2 (sN V1 f) V1 (YJ hF1)).len;have hrL:=Uo uy (sN V1 f) V1;have hrT:=adl V1 f;generalize qY uy V1 (sN V1 f)=V2 at*;have hf2:=yD V2
 have NP:(fJ V2).C.length=V2.C.length:=by rw [zK]
 have HF2:Hid (∀ W C1 L1,aN W v C1 L1 V2→_):=fun W C1 L1 hW=>zL W v C1 L1 V2 hW om;rw [← uh H1] at hf2 NP HF2;have hset:=anY (plus (aJ V.C) (jf V.C f)) n;rw [← uh H3] at hset;have hcl:(rY V.C f n).length=256:=by rw [uh H3,rG];exact hkl
 generalize rY V.C f n=kk at*;generalize plus (aJ V.C) (jf V.C f)=k at*;generalize jF V f n=V3 at*;have HP:Hid (∀ W C1 L1,aN W v C1 L1 V3→_):=fun W C1 L1 hW=>Uk W v C1 L1 V3 hW kk hcl om om;have TK:=XU V3 kk om;have hpL:=Oc V3 kk 4;generalize kU V3 kk 4=V4 at*;have hf4:f<V4.C.length:=by have:=hF.1.1.2;omega
 have HA:Hid (∀ W C1 L1,aN W v C1 L1 V4→_):=fun W C1 L1 hW=>Np W v C1 L1 V4 hW f hf4;have HPu:Hid (∀ W C1 L1,aN W v C1 L1 V4→(cl V4.C f).length=64→_):=fun W C1 L1 hW hd=>FK W v C1 L1 V4 hW n om (cl V4.C f) hd om om;have Hd:Hid (∀ W C1 L1,aN W v C1 L1 V4→(cl V4.C f).length=64):=fun W C1 L1 hW=>hW.kE _ (by
  unfold cl;rw [aK,bI hf4];exact oP _)
 have hqL:=tZ V4 n (cl V4.C f);generalize cl V4.C f=dd at*;generalize bT V4 n dd=V5 at*;have HF5:Hid (∀ W C1 L1,aN W v C1 L1 V5→_):=fun W C1 L1 hW=>zL W v C1 L1 V5 hW om;rw [← uh H2] at HF5;generalize copyV V f n=V6 at*;have H:=ah h;clear h H1 H2 H3 hR hfit hlow hF hF1
 go_enter Tryz.func86,Tryz.ntmps86
 go_wp2_with fail
 refine Hf.mono ?_;rintro e w1 ⟨x,rfl,hx,hb1⟩;obtain ⟨g,cap,rfl,_⟩:=gB hx sm;obtain ⟨cur,hgw,hgb,hrow⟩:=asO hx;have E1:=ah (((Env.start H).later hb1).with hgb hgw (fun hf=>by have:=H.qG _ hf;omega));have Hc:Hid (∀ W:World,W.heap[g]? = some (.cells cur 3 (0,0))→W.cell? ⟨g,0,none⟩=some (.int .i64 (n:Nat))):=fun W hW=>Xb (F:=[n]) (hrow W hW) 0 sm;have fA:=ah hrow;clear hx hb1 Hf hrow hgb
 go_wp2_with fail
 refine (uh Hs _ E1.at').mono ?_;rintro e w2 ⟨rfl,hb2⟩;have E2:=ah ((E1.later hb2).lay (.cells (cv k).toArray 123));have hgk:g≠w2.heap.size:=by have:=aO (E1.later hb2).o0;omega
 clear E1 hb2 Hs
 go_wp2_with fail
 refine (uh HL _ _ _ _ E2.at' (uh fA _ E2.o1)).mono ?_;rintro e w3 ⟨rfl,C3,L3,hS3⟩;have E3:=ah (E2.fQ hS3);clear hS3 E2 HL fA
 go_wp2_with fail
 refine (uh HR _ _ _ E3.at').mono ?_;rintro e w4 ⟨rfl,C4,L4,hS4⟩;have E4:=ah (E3.fQ hS4);clear hS4 E3 HR
 go_wp2_with fail
 refine (uh HF2 _ _ _ E4.at').mono ?_;rintro e w5 ⟨rfl,C5,L5,hS5⟩;have E5:=E4.fQ hS5;have c5:=uh Hc w5 E5.o1;have hni:(n:Int)<256:=om;have k5:w5.cell? ⟨w2.heap.size,n,none⟩=some (.int .u8 (aI k n:Nat)):=by
  rw [aG E5.o0,bW,uO _ _ om]
 have f5:=eG E5.o0 n;have E6:=E5.put (by rintro x hx;rw [jw.1 hx];exact hgk) (Kept.only _ w2.heap.size n (.int .u8 1)) (heap_setCell_same _ _ _ _ _ _ _ E5.o0);rw [hset] at E6;have l1:=fD E6.o0 (n:=256) (by rw [bg,hcl]);have l2:=fG E6.o0 (n:=256) (by rw [bg,hcl]);have E6:=ah E6;clear E5 hS5 E4 HF2;generalize aI k n=bb at*
 go_wp2_with fail
 refine (uh HP _ _ _ E6.at').mono ?_;rintro e w7 ⟨rfl,C7,L7,hS7⟩;have E7:=E6.fQ hS7;have c7:w7.drew.cell? ⟨g,0,none⟩=some (.int .i64 (n:Nat)):=uh Hc w7 E7.o1;have hdd:=uh Hd _ _ _ E7.at';have Ha:=ah (uh HA _ _ _ E7.drew.at');have E7:=ah E7;clear hS7 E6 HP l1 l2 k5 f5 c5 HA;go_wp2
 go_region_law (first
  | (
   go_simp;go_at_call 142;refine Ha.mono ?_;rintro e w8 ⟨rfl,hb8⟩;have E8:=ah (E7.drew.later hb8);have c8:w8.cell? ⟨g,0,none⟩=some (.int .i64 (n:Nat)):=uh Hc w8 E8.o1)
  | (
   go_simp;go_at_call 70;refine (uh HPu _ _ _ E8.at' hdd).mono ?_;rintro e w9 ⟨rfl,C9,L9,hS9⟩;have E9:=ah (E8.fQ hS9);clear hS9))
 all_goals
  go_wp2_with fail
  refine (uh HF5 _ _ _ E9.at').mono ?_;rintro e w10 ⟨rfl,C10,L10,hS10⟩;have E10:=E9.fQ hS10;have c10:=uh Hc w10 E10.o1;have ES:=ah E10.step;clear E10 hS10;go_wp2;go_ret2;exact ⟨rfl,C10,L10,uh ES⟩
theorem af0 (w:World) (v:Nat) (Cv Lv:Value) (V:aB) (h:aN w v Cv Lv V) (h5:5<V.C.length) (hC:V.C.length≤256) (hL:V.L.length≤400000000) (f:Nat) (hF:gJ V f):
  Calls Tryz.prog 86 #[.pointer (some ⟨v,0,none⟩),.int .i64 (f:Nat)] w fun e w'=>e= .returned (.tuple #[.int .i64 ((iy V f).2.1:Nat),.int .i64 ((iy V f).2.2:Nat)])∧ ∃ C1 L1,bZ w w' v Cv Lv C1 L1 (iy V f).1:=by
 by_cases hg:0<(dG (aJ V.C) 1).length∧oz (aJ V.C) (jf V.C f)=true
 ·obtain ⟨n,hn,hlt,_⟩:=NW hg.1;have e:iy V f=(copyV V f n,n,0):=by
   unfold iy;rw [au hg,hn,DF]
  have hc:=anV w v Cv Lv V h h5 hC hL f hF n hlt hn hg.2;rw [e];generalize copyV V f n=U at*;exact hc
 ·have e:iy V f=(V,0,5):=by
   unfold iy;rw [ak hg]
  rw [e];refine (anU w v Cv Lv V h h5 hC f hF hg).mono ?_;rintro e w' ⟨rfl,hb⟩;exact ⟨rfl,Cv,Lv,(bZ.refl h).later hb⟩
end
section
attribute [local go_sem ↓] dw fP fZ kS mP mV jJ kJ jY jU lD lH kQ ku kT mQ mW lZ ny jG qc qP qQ qF xM EF EI ED DZ
attribute [local go_sem] dK fO fV gK gy aV kX mG mM mJ mF gI jK kH jX kZ kW iJ jW lq lC lu kF jc jd lY l7 kG kY mO nI lT mD nH qh qM qO qN qL xX Ey EC Ez Ew Dz
attribute [local go_sem] pW pV Oper.semAt_some
attribute [local go_sem ↓] IV Jl
attribute [local go_sem] I9 Jb Ja
def xI (E:List aX) (s:ByteArray):Nat→Nat→Int
 | 0,_=> -1
 | m+1,k=>if bJ (E.getD k ze).name=s then (k:Int) else xI E s m (k+1)
def rZ (E:List aX) (s:ByteArray):Int:=xI E s (lenOf E) 0
theorem aa1 (w:World) (E:List aX) (hE:E.length=4) (s:ByteArray):
  Calls Tryz.prog 84 #[.agg (lv E).toArray,.string s] w fun e w'=>e= .returned (.int .i64 (rZ E s))∧aC w w':=by
 have L0:=ah (dU.one w (.cells (lv E).toArray 144));have l1:=fD L0.o0 (n:=8) (by rw [dW,hE]);have l2:=fG L0.o0 (n:=8) (by rw [dW,hE]);have Hn:=ah (NT (w.alloc (.cells (lv E).toArray 144)) E hE);have hl4:=zU E;have QY:zl.length=4:=rfl;have hF:rZ E s=xI E s (lenOf E) 0:=rfl;have HF:=ah hF;clear hF
 go_enter Tryz.func84,Tryz.ntmps84
 go_wp2_with fail
 refine Hn.mono ?_;rintro e W5 ⟨rfl,hb5⟩;have L1:=ah (L0.later hb5);clear Hn L0 l1 l2 hb5;generalize lenOf E=n0 at*;have Fv:(n0:Int)≤4:=om;go_wp2
 go_loopw [11] (fun i wr=> ∃ k:Nat,k≤n0∧i= .int .i64 k∧dU w wr [.cells (lv E).toArray 144]∧rZ E s=xI E s (n0 - k) k) (fun i _=>n0 - (intOf i).toNat)
 case atStart=>exact ⟨0,om,rfl,uh L1,uh HF⟩
 case round=>
  obtain ⟨k,hk,rfl,hL,hl⟩:=hrel;clear L1 HF
  by_cases hlt:k<n0
  ·have hki:(k:Int)<(n0:Int):=om;have yF:k<E.length:=om;have l1:=sV (n:=2) (Fe hL.o0 k yF) rfl;have l2:=qX (n:=2) (Fe hL.o0 k yF) rfl;have hs:xI E s (n0 - k) k=if bJ (E.getD k ze).name=s then (k:Int) else xI E s (n0 - (k+1)) (k+1):=by
    rw [show n0 - k=(n0 - (k+1))+1 by omega,xI]
   rw [hs] at hl;generalize E.getD k ze=p at*;have hLa:=ah (hL.alloc (.cells (ev p).toArray 142));have HB:=ah hLa.below;have c5:(wr.alloc (.cells (ev p).toArray 142)).cell? ⟨wr.heap.size,0,none⟩=some (.string (bJ p.name)):=(vX wr _ _ _ 0).trans rfl;clear hL hs;generalize bJ p.name=q at*
   by_cases h0:q=s
   ·rw [au h0] at hl;have Hl:=ah hl;subst h0;clear hl;go_wp2;go_ret;exact ⟨by rw [uh Hl];rfl,uh HB⟩
   ·rw [ak h0] at hl;have Hl:=ah hl;have d0:(q.toList == s.toList)=false:=lI.2 (fun he=>h0 (adO (by rw [← Zk,← Zk];exact he)));clear hl;go_wp2;go_roundw
    case rel=>exact ⟨k+1,om,gn,uh hLa,uh Hl⟩
    case measure=>exact cO
  ·have hk4:k=n0:=om;subst hk4;rw [Bf] at hl;have HB:=ah hL.below;have Hl:=ah hl;clear hl hL;go_wp2;go_ret;exact ⟨by rw [uh Hl];rfl,uh HB⟩
end
end Go.Proofs.YtknjjjenklfeoaaGreatDoor
