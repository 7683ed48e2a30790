import Derived.Test.YtknjjjenklfeoaaGreatDoorU21
set_option maxHeartbeats 8000000
set_option maxRecDepth 100000
set_option linter.all false
namespace Go.Proofs.YtknjjjenklfeoaaGreatDoor
open Go.RowKit
section
variable {base:List aj} {V:aB} {N0:Nat} {E:List aW} {b:Nat} {data:aj}
def aeF (T:List Nat) (d: ∀ i,T.getD i 0<65536) (f:T.length=32) (i x q:Nat) (g:x<65536) (a:q<32):num (bytesOf (T.set i x)) (2*q)=if i=q then x else T.getD q 0:=by
 have c: ∀ j,(T.set i x).getD j 0=if i=j∧j<32 then x else T.getD j 0:=fun j=>by
  rw [aN,uI,f]
  by_cases e:i=j
  ·subst e
   by_cases hj:i<32
   ·rw [au rfl,au hj,au ⟨rfl,hj⟩];rfl
   ·rw [au rfl,ak hj,ak (fun z=>hj z.2),aN,eG om]
  ·rw [ak e,ak (fun z=>e z.1),aN]
 rw [YZ _ (fun j=>by rw [c j];split;exact g;exact d j) q a,c q]
 by_cases e:i=q
 ·rw [au ⟨e,a⟩,au e]
 ·rw [ak (fun z=>e z.1),ak e]
def ab9 (c:List Nat) (m:Nat):(dJ c).count m=(c.map fun x=>iT x m).sum:=by
 induction c with
 | nil=>rfl
 | cons x r ih=>
  rw [jU,Jk,← ih];unfold dJ;rw [aaK]
  by_cases e:x=0
  ·rw [ak (by simp [e]),e,UW];omega
  ·rw [au (by simpa using e),jU,EH];unfold iT
   by_cases a:x%32768=m
   ·have d:(x%32768 == m)=true:=by simpa using a
    rw [d,au rfl,au ⟨e,a⟩];omega
   ·have d:(x%32768 == m)=false:=by simpa using a
    rw [d,ak dc,ak (fun z=>a z.2)];omega
def abU (V:aB) (F:List Nat):xG V F=jr (dS V F) (jv (gI (aJ (dS V F).C) F)):=by unfold xG;exact alu _ _
def PD (V:aB) (x:Nat × aj):jr V [x]=bQ V x.1 x.2:=rfl
def auC (V:aB) (x y:Nat × aj):jr V [x,y]=bQ (bQ V x.1 x.2) y.1 y.2:=rfl
def O6 (n:Nat):qF [n]=n:=rfl
def adi (s n:Nat):qF [s,n]=n:=rfl
def alx {C:List aj} {T s k x:Nat} (j:C.length=T) (hs:s<T) (hk:k<32) (c:x<65536):TR C (dG C [(s,bytesOf ((numsOf (cl C s)).set k x))]) s k x:=by
 have h:dG C [(s,bytesOf ((numsOf (cl C s)).set k x))]=iV C (s,bytesOf ((numsOf (cl C s)).set k x)):=rfl;have hlen:(iV C (s,bytesOf ((numsOf (cl C s)).set k x))).length=C.length:=by rw [LC];simp only;omega
 have a:cl (iV C (s,bytesOf ((numsOf (cl C s)).set k x))) s=bytesOf ((numsOf (cl C s)).set k x):=by rw [← ny om,zQ,au rfl]
 rw [h];refine ⟨hlen,?_,fun q d f=> ?_,fun t i=> ?_⟩
 ·unfold nm;rw [a,aeF _ (Pm _) (numsOf_length _) _ _ _ c hk,au rfl]
 ·unfold nm;rw [a,aeF _ (Pm _) (numsOf_length _) _ _ _ c d,ak (fun e=>f e.symm),vJ _ _ d]
 ·by_cases g:t<C.length
  ·rw [← ny om,zQ,ak (fun e=>i e.symm),ny g]
  ·rw [D7 om,D7 om]
def lK.alq {C:List aj} {T:Nat} (h:lK C T N0 E) {s:Nat} {c:aj} (a:s<T) (d:s≠0) (e:s≠5) (hc:c.length=64):lK (dG C [(s,c)]) T N0 E:=
 h.jr _ (fun x f=>by rw [iP.1 f];exact ⟨a,d,e,hc⟩)
structure Xm (base:List aj) (V V':aB) (N0:Nat) (E:List aW) (D':dR):Prop where
 bH:aY base V' N0 E
 holds:bD V'.C N0 E=D'
 exact:wJ V.C (aH N0 E)→wJ V'.C (aH N0 E)
def aY.XF (h:aY base V N0 E) (F:List Nat) (a:qF F<256) (m:Nat) (hm:m<256):aQ (dS V F).C m=aQ V.C m:=by
 unfold aQ;rw [(h.longer F a).2.2.2.1 _ om]
def aY.agR (h:aY base V N0 E) {n:Nat} (g:dD (aJ V.C) 1=[n]) (hn:n<256) (h0:aQ V.C n=0) (i:data.length=64):
  rC V data=eH (dS V [n]) (jv (gI (aJ (dS V [n]).C) [n])++[(n,data)])∧Ok (rC V data).C (jq V.C [n]) N0 E (bD V.C N0 E)∧(rC V data).C.length=jq V.C [n]∧
   (∀ m,m<256→aQ (rC V data).C m=if m=n then 1 else aQ V.C m)∧cl (rC V data).C n=data∧(∀ t,5≤t→t<V.C.length→t≠n→cl (rC V data).C t=cl V.C t)∧Shape V.C (rC V data).C (aH N0 E):=by
 obtain ⟨j,k,v,l,w⟩:=h.longer [n] (by rw [O6];exact hn);have hc:=fun m hm=>h.XF [n] (by rw [O6];exact hn) m hm;have e:rC V data=eH (dS V [n]) (jv (gI (aJ (dS V [n]).C) [n])++[(n,data)]):=by
  unfold rC;rw [g];unfold eH;rw [Zi,← abU,PD];simp only [EG]
 have y:jq V.C [n]=max V.C.length (n+1):=rfl;have A:=h.sound.Fe hn h0;obtain ⟨b1,b2,o,p,B,F⟩:=j.ahs [n] (fun m hm=>by rw [iP.1 hm];exact ⟨om,by rw [hc n hn];exact h0⟩) [(n,data)] (fun x a=>by rw [iP.1 a];exact ⟨sm,i⟩) (by
  rw [k]
  by_cases a:V.C.length≤n
  ·exact ay ⟨(n,data),sm,by simp only;omega⟩
  ·exact aA om)
 rw [e];have d:=h.sound.untold hn h0;have c: ∀ t,5≤t→t<V.C.length→t≠n→cl (eH (dS V [n]) (jv (gI (aJ (dS V [n]).C) [n])++[(n,data)])).C t=cl V.C t:=fun t q G f=>by
  rw [p t q om (fun x a=>by rw [iP.1 a];exact fun z=>f z.symm),l t om]
 refine ⟨rfl,b1,b2,fun m hm=> ?_,?_,c,Shape.of_same (fun r hr=>c _ ?_ ?_ ?_) (fun s hs=>c _ ?_ ?_ ?_)⟩
 ·rw [o m hm,hc m hm];simp
 ·rw [← ny (by rw [b2];omega),uz];have u:dG (dS V [n]).C (jv (gI (aJ (dS V [n]).C) [n])++[(n,data)])=iV (dG (dS V [n]).C (jv (gI (aJ (dS V [n]).C) [n]))) (n,data):=by simp [dG]
  rw [u,zQ,au rfl]
 ·have:=h.sound.fst r hr;omega
 ·exact (h.sound.fst r hr).2
 ·exact fun z=>d.1 ⟨r,hr,z⟩
 ·have:=h.sound.sec s hs;omega
 ·exact (h.sound.sec s hs).2
 ·exact fun z=>d.2.1 (by rw [← z];exact hs)
def VE (b:Nat):(cZ V.C N0 b).second=nm V.C N0 (b / 32)∧(cZ V.C N0 b).block=bU V.C N0 b∧(cZ V.C N0 b).oJ=b%32∧(cZ V.C N0 b).BH=b / 32∧(cZ V.C N0 b).first=N0:=⟨rfl,rfl,rfl,rfl,rfl⟩
def aY.Xr (h:aY base V N0 E) {n:Nat} (H:b<64) (p:dD (aJ V.C) 1=[n]) (hn:n<256) (h0:aQ V.C n=0) (w:data.length=64) (q:32768≤nm V.C N0 (b / 32)):
  tJ V (cZ V.C N0 b) data=eH (rC V data) [(nm V.C N0 (b / 32)%32768,bytesOf ((numsOf (cl (rC V data).C (nm V.C N0 (b / 32)%32768))).set (b%32) (n+32768)))]∧
  Ok (tJ V (cZ V.C N0 b) data).C (jq V.C [n]) N0 E (wZ (bD V.C N0 E) b data)∧(tJ V (cZ V.C N0 b) data).C.length=jq V.C [n]∧
   (∀ m,m<256→aQ (tJ V (cZ V.C N0 b) data).C m=if m=n then 1 else aQ V.C m)∧(∀ m,dN (tJ V (cZ V.C N0 b) data).C (aH N0 E) m+iT (bU V.C N0 b) m=dN V.C (aH N0 E) m+if n=m then 1 else 0):=by
 obtain ⟨_,b1,b2,f,y,s,g⟩:=h.agR (data:=data) p hn h0 w;have a:(⟨N0,0,[]⟩:bI) ∈ aH N0 E:=by simp [aH]
 have I:jq V.C [n]=max V.C.length (n+1):=rfl;have J:=h.file.most;have z:=h.sound.Fe hn h0;have c:=h.sound.untold hn h0;have hs:fD V.C (aH N0 E) (nm V.C N0 (b / 32)%32768):=⟨_,a,b / 32,om,by show nm V.C N0 (b / 32)≠0;omega,rfl⟩;have i:=h.sound.sec _ hs;have u:aQ V.C (nm V.C N0 (b / 32)%32768)=1:=h.sound.Dl _ a (b / 32) om q;have j:nm V.C N0 (b / 32)%32768≠n:=fun e=>c.2.1 (by rw [← e];exact hs);have A:=h.sound.fst _ a;simp only at A;have v:N0≠n:=fun e=>c.1 ⟨_,a,e⟩;have e:tJ V (cZ V.C N0 b) data=eH (rC V data) [(nm V.C N0 (b / 32)%32768,bytesOf ((numsOf (cl (rC V data).C (nm V.C N0 (b / 32)%32768))).set (b%32) (n+32768)))]:=by
  unfold tJ eH Dt;rw [p,PD];simp only [EG];obtain ⟨B,K,F,L,M⟩:=VE (V:=V) (N0:=N0) b;rw [B,F]
 have s2:=b1.sound;rw [sG b2] at s2;have d:=alx (x:=n+32768) (k:=b%32) b2 (show nm V.C N0 (b / 32)%32768<jq V.C [n] by omega) om om;have l:(tJ V (cZ V.C N0 b) data).C=dG (rC V data).C [(nm V.C N0 (b / 32)%32768,bytesOf ((numsOf (cl (rC V data).C (nm V.C N0 (b / 32)%32768))).set (b%32) (n+32768)))]:=by rw [e,uz]
 rw [← l] at d;have t:nm (rC V data).C N0 (b / 32)=nm V.C N0 (b / 32):=by unfold nm;rw [s N0 om om v]
 have hB:yT (rC V data).C (tJ V (cZ V.C N0 b) data).C (aH N0 E) ⟨N0,0,[]⟩ (b / 32) (nm V.C N0 (b / 32)%32768) (b%32) n:=by
  refine ⟨d,a,om,om,by show nm (rC V data).C N0 (b / 32)≠0;rw [t];omega,by show nm (rC V data).C N0 (b / 32)%32768=_;rw [t],?_,⟨z,om⟩,by rw [f n hn,au rfl],c.1,fun x=>c.2.1 ((g.rZ n).1 x),fun x=>c.2.2 ((g.AO n).1 x)⟩;rw [f _ om,ak j];exact u
 have s3:=hB.sound s2;have hlen:(tJ V (cZ V.C N0 b) data).C.length=jq V.C [n]:=by rw [d.len,b2]
 refine ⟨e,⟨?_,by rw [sG hlen];exact s3,?_⟩,hlen,fun m hm=>by rw [d.count i.1 m hm,f m hm],fun m=> ?_⟩
 ·rw [l];exact b1.file.alq om om om (bytesOf_length _)
 ·rw [sG hlen];have o:=b1.holds;rw [sG b2] at o;rw [← o];refine acn s2 fun r hr=> ?_
  have:=hB.content s2 hr
  rw [this,y,show 32*(b / 32)+b%32=b by omega]
 ·have:=hB.use s2 m
  rw [g.use] at this;have G:nm (rC V data).C (nm V.C N0 (b / 32)%32768) (b%32)=bU V.C N0 b:=by
   unfold nm bU;rw [ak (by unfold nm at q;omega),s _ om i.2 j]
  rw [G] at this;exact this
def aY.aap (h:aY base V N0 E) {n:Nat} (g:b<64) (o:dD (aJ V.C) 1=[n]) (hn:n<256) (h0:aQ V.C n=0) (p:data.length=64) (q:32768≤nm V.C N0 (b / 32)):
  Lets (tJ V (cZ V.C N0 b) data) N0 E (dJ [bU V.C N0 b])∧Xm base V (jQ (tJ V (cZ V.C N0 b) data) (dJ [bU V.C N0 b])) N0 E (wZ (bD V.C N0 E) b data):=by
 obtain ⟨e,c1,c2,c3,c4⟩:=h.Xr g o hn h0 p q;have w:=h.sound.Fe hn h0;have y:=h.file.most;have v:=JX h.sound (h.sound.untold hn h0);have d: ∀ m,(dJ [bU V.C N0 b]).count m=iT (bU V.C N0 b) m:=fun m=>by rw [ab9];simp
 have i:Lets (tJ V (cZ V.C N0 b) data) N0 E (dJ [bU V.C N0 b]):=by
  refine ⟨fun u hu=> ?_,fun m hm=> ?_⟩
  ·unfold dJ at hu;obtain ⟨x,c,rfl⟩:=gY.1 hu;obtain ⟨l,f⟩:=SY.1 c;rw [iP.1 l] at f ⊢
   have:=h.sound.aG _ (Rz (r:=⟨N0,0,[]⟩) (by simp [aH]) g (by simpa using f))
   simp only at this;omega
  ·have:=c4 m
   rw [d,c3 m hm]
   by_cases a:m=n
   ·subst a;rw [au rfl] at this;rw [au rfl,wK,ak om];omega
   ·rw [ak (fun z=>a z.symm)] at this;rw [ak a]
    have:=h.sound.jI m hm
    omega
 obtain ⟨j,k,s,t⟩:=c1.Vg c2 i;refine ⟨i,j.bH k s (h.log.jr (LD (alE (iJ.refl V) _ _) _)),?_,fun c=>t fun m hm=> ?_⟩
 ·have:=j.holds
  rw [sG k] at this;exact this
 ·have:=c4 m
  rw [d,c3 m hm]
  by_cases a:m=n
  ·subst a;rw [au rfl] at this;rw [au rfl,wK,ak om];omega
  ·rw [ak (fun z=>a z.symm)] at this;rw [ak a,c.eq m hm];omega
end
section
variable {base:List aj} {V:aB} {N0:Nat} {E:List aW} {b:Nat} {data:aj}
def axN (i:Nat):zt.getD i 0=0:=by
 unfold zt;rw [aN,rG]
 split <;> rfl
def awm (q:Nat) (a:q<32):(cZ V.C N0 b).tab.getD q 0=AY V.C N0 (b / 32) q:=by
 unfold cZ AY nm;dsimp only
 by_cases e:num (cl V.C N0) (2*(b / 32))=0
 ·rw [au e,au e,axN]
 ·rw [ak e,ak e,vJ _ _ a]
def aY.amB (h:aY base V N0 E) {s n:Nat} (p:sO) (i:dD (aJ V.C) 2=[s,n]) (H:s<n) (hn:n<256) (h0:aQ V.C s=0) (j:aQ V.C n=0) (u:data.length=64):
  rD V p data=eH (dS V [s,n]) (jv (gI (aJ (dS V [s,n]).C) [s,n])++[(s,bytesOf (p.tab.set p.oJ (n+32768))),(n,data)])∧Ok (rD V p data).C (jq V.C [s,n]) N0 E (bD V.C N0 E)∧(rD V p data).C.length=jq V.C [s,n]∧
   (∀ m,m<256→aQ (rD V p data).C m=if m=s∨m=n then 1 else aQ V.C m)∧cl (rD V p data).C n=data∧cl (rD V p data).C s=bytesOf (p.tab.set p.oJ (n+32768))∧(∀ t,5≤t→t<V.C.length→t≠s→t≠n→cl (rD V p data).C t=cl V.C t)∧Shape V.C (rD V p data).C (aH N0 E):=by
 obtain ⟨v,w,I,y,J⟩:=h.longer [s,n] (by rw [adi];exact hn);have hc:=fun m hm=>h.XF [s,n] (by rw [adi];exact hn) m hm;have A:NS V p=p.tab.set p.oJ (n+32768):=by unfold NS;rw [i];rfl
 have e:rD V p data=eH (dS V [s,n]) (jv (gI (aJ (dS V [s,n]).C) [s,n])++[(s,bytesOf (p.tab.set p.oJ (n+32768))),(n,data)]):=by
  unfold rD;rw [A,i];unfold eH;rw [Zi,← abU,auC];simp only [EG,J5]
 have K:jq V.C [s,n]=max V.C.length (n+1):=rfl;have L:=h.sound.Fe om h0;have o:(bytesOf (p.tab.set p.oJ (n+32768))).length=64:=bytesOf_length _;generalize bytesOf (p.tab.set p.oJ (n+32768))=c at*;obtain ⟨b1,b2,B,F,M,N⟩:=v.ahs [s,n] (fun m hm=>by
  simp only [cO,jM,jO] at hm;rcases hm with rfl | rfl
  ·exact ⟨om,by rw [hc _ om];exact h0⟩
  ·exact ⟨om,by rw [hc _ hn];exact j⟩) [(s,c),(n,data)] (fun x a=>by
  simp only [cO,jM,jO] at a;rcases a with rfl | rfl
  ·exact ⟨sm,o⟩
  ·exact ⟨sm,u⟩) (by
  rw [w]
  by_cases a:V.C.length≤n
  ·exact ay ⟨(n,data),sm,by simp only;omega⟩
  ·exact aA om)
 have f:=h.sound.untold om h0;have g:=h.sound.untold hn j;have d: ∀ t,5≤t→t<V.C.length→t≠s→t≠n→cl (eH (dS V [s,n]) (jv (gI (aJ (dS V [s,n]).C) [s,n])++[(s,c),(n,data)])).C t=cl V.C t:=fun t G O q l=>by
  rw [F t G om (fun x a=>by
   simp only [cO,jM,jO] at a;rcases a with rfl | rfl
   ·exact fun z=>q z.symm
   ·exact fun z=>l z.symm),y t om]
 have k:dG (dS V [s,n]).C (jv (gI (aJ (dS V [s,n]).C) [s,n])++[(s,c),(n,data)])=iV (iV (dG (dS V [s,n]).C (jv (gI (aJ (dS V [s,n]).C) [s,n]))) (s,c)) (n,data):=by simp [dG]
 rw [e];refine ⟨rfl,b1,b2,fun m hm=> ?_,?_,?_,d,Shape.of_same (fun r hr=>d _ ?_ ?_ ?_ ?_) (fun x hs=>d _ ?_ ?_ ?_ ?_)⟩
 ·rw [B m hm,hc m hm];simp
 ·rw [← ny (by rw [b2];omega),uz,k,zQ,au rfl]
 ·rw [← ny (by rw [b2];omega),uz,k,zQ,ak (by simp only;omega),zQ,au rfl]
 ·have:=h.sound.fst r hr;omega
 ·exact (h.sound.fst r hr).2
 ·exact fun z=>f.1 ⟨r,hr,z⟩
 ·exact fun z=>g.1 ⟨r,hr,z⟩
 ·have:=h.sound.sec x hs;omega
 ·exact (h.sound.sec x hs).2
 ·exact fun z=>f.2.1 (by rw [← z];exact hs)
 ·exact fun z=>g.2.1 (by rw [← z];exact hs)
def aY.ZX (h:aY base V N0 E) {s n:Nat} (Q:b<64) (t:dD (aJ V.C) 2=[s,n]) (B:s<n) (hn:n<256) (h0:aQ V.C s=0) (u:aQ V.C n=0) (K:data.length=64):
  tK V (cZ V.C N0 b) data=eH (rD V (cZ V.C N0 b) data) [(N0,bytesOf ((numsOf (cl (rD V (cZ V.C N0 b) data).C N0)).set (b / 32) (s+32768)))]∧
  Ok (tK V (cZ V.C N0 b) data).C (jq V.C [s,n]) N0 E (wZ (bD V.C N0 E) b data)∧(tK V (cZ V.C N0 b) data).C.length=jq V.C [s,n]∧
   (∀ m,m<256→aQ (tK V (cZ V.C N0 b) data).C m=if m=s∨m=n then 1 else aQ V.C m)∧(∀ m,dN (tK V (cZ V.C N0 b) data).C (aH N0 E) m+(iT (nm V.C N0 (b / 32)) m+iT (bU V.C N0 b) m)=dN V.C (aH N0 E) m+((if s=m then 1 else 0)+if n=m then 1 else 0)):=by
 obtain ⟨_,b1,b2,j,L,F,v,g⟩:=h.amB (data:=data) (cZ V.C N0 b) t B hn h0 u K;have c:(⟨N0,0,[]⟩:bI) ∈ aH N0 E:=by simp [aH]
 have R:jq V.C [s,n]=max V.C.length (n+1):=rfl;have S:=h.file.most;have M:=h.sound.Fe om h0;have d:=h.sound.untold om h0;have f:=h.sound.untold hn u;have w:=h.sound.fst _ c;simp only at w;have G:N0≠s:=fun e=>d.1 ⟨_,c,e⟩;have H:N0≠n:=fun e=>f.1 ⟨_,c,e⟩;have e:tK V (cZ V.C N0 b) data=eH (rD V (cZ V.C N0 b) data) [(N0,bytesOf ((numsOf (cl (rD V (cZ V.C N0 b) data).C N0)).set (b / 32) (s+32768)))]:=by
  unfold tK eH Dt;rw [t,PD];simp only [EG];obtain ⟨U,W,X,N,O⟩:=VE (V:=V) (N0:=N0) b;rw [N,O]
 have s2:=b1.sound;rw [sG b2] at s2;have i:=alx (x:=s+32768) (k:=b / 32) b2 (show N0<jq V.C [s,n] by omega) om om;have l:(tK V (cZ V.C N0 b) data).C=dG (rD V (cZ V.C N0 b) data).C [(N0,bytesOf ((numsOf (cl (rD V (cZ V.C N0 b) data).C N0)).set (b / 32) (s+32768)))]:=by rw [e,uz]
 rw [← l] at i;have y: ∀ q,nm (rD V (cZ V.C N0 b) data).C N0 q=nm V.C N0 q:=fun q=>by unfold nm;rw [v N0 om om G H]
 have A: ∀ q,q<32→AY (rD V (cZ V.C N0 b) data).C N0 (b / 32) q=AY V.C N0 (b / 32) q:=fun q a=>by
  unfold AY;rw [y]
  by_cases z:nm V.C N0 (b / 32)=0
  ·rw [au z,au z]
  ·rw [ak z,ak z];have hs:fD V.C (aH N0 E) (nm V.C N0 (b / 32)%32768):=⟨_,c,b / 32,om,z,rfl⟩;have I:=h.sound.sec _ hs;unfold nm;rw [v _ om I.2 (fun z=>d.2.1 (by rw [← z];exact hs)) (fun z=>f.2.1 (by rw [← z];exact hs))]
 have o: ∀ q,q<32→nm (rD V (cZ V.C N0 b) data).C s q=if b%32=q then n+32768 else AY V.C N0 (b / 32) q:=fun q a=>by
  unfold nm;rw [F,show (cZ V.C N0 b).oJ=b%32 from rfl,aeF _ (aic V.C N0 b).2.2 (acB _ _ _) _ _ _ om a,awm q a]
 have hB:yY (rD V (cZ V.C N0 b) data).C (tK V (cZ V.C N0 b) data).C (aH N0 E) ⟨N0,0,[]⟩ (b / 32) s (b%32) n:=by
  refine ⟨i,c,om,om,by rw [o _ om,au rfl],fun q a J=> ?_,om,⟨M,om⟩,⟨om,om⟩,by rw [j _ om,au (aA rfl)],by rw [j _ hn,au (ay rfl)],⟨d.1,fun x=>d.2.1 ((g.rZ s).1 x),fun x=>d.2.2 ((g.AO s).1 x)⟩,f.1,fun x=>f.2.1 ((g.rZ n).1 x),fun x=>f.2.2 ((g.AO n).1 x)⟩;rw [o q a,ak (fun z=>J z.symm)];exact (A q a).symm
 have s3:=hB.sound s2;have hlen:(tK V (cZ V.C N0 b) data).C.length=jq V.C [s,n]:=by rw [i.len,b2]
 refine ⟨e,⟨?_,by rw [sG hlen];exact s3,?_⟩,hlen,fun m hm=>by rw [i.count w.1 m hm,j m hm],fun m=> ?_⟩
 ·rw [l];exact b1.file.alq om om om (bytesOf_length _)
 ·rw [sG hlen];have p:=b1.holds;rw [sG b2] at p;rw [← p];refine acn s2 fun r hr=> ?_
  have:=hB.content s2 hr
  rw [this,L,show 32*(b / 32)+b%32=b by omega]
 ·have:=hB.use s2 m
  rw [g.use] at this;simp only at this;rw [y,A _ om] at this;have P:AY V.C N0 (b / 32) (b%32)=bU V.C N0 b:=rfl;rw [P] at this;exact this
def aY.aaq (h:aY base V N0 E) {s n:Nat} (j:b<64) (t:dD (aJ V.C) 2=[s,n]) (q:s<n) (hn:n<256) (h0:aQ V.C s=0) (k:aQ V.C n=0) (v:data.length=64):
  Lets (tK V (cZ V.C N0 b) data) N0 E (dJ [nm V.C N0 (b / 32),bU V.C N0 b])∧Xm base V (jQ (tK V (cZ V.C N0 b) data) (dJ [nm V.C N0 (b / 32),bU V.C N0 b])) N0 E (wZ (bD V.C N0 E) b data):=by
 obtain ⟨e,c1,c2,c3,c4⟩:=h.ZX j t q hn h0 k v;have B:=h.sound.Fe om h0;have F:=h.file.most;have z:=JX h.sound (h.sound.untold om h0);have A:=JX h.sound (h.sound.untold hn k);have f: ∀ m,(dJ [nm V.C N0 (b / 32),bU V.C N0 b]).count m=iT (nm V.C N0 (b / 32)) m+iT (bU V.C N0 b) m:=fun m=>by rw [ab9];simp
 have l:Lets (tK V (cZ V.C N0 b) data) N0 E (dJ [nm V.C N0 (b / 32),bU V.C N0 b]):=by
  refine ⟨fun u hu=> ?_,fun m hm=> ?_⟩
  ·unfold dJ at hu;obtain ⟨x,a,rfl⟩:=gY.1 hu;obtain ⟨g,i⟩:=SY.1 a;simp only [cO,jM,jO] at g;rcases g with rfl | rfl
   ·have:=h.sound.sec (nm V.C N0 (b / 32)%32768) ⟨⟨N0,0,[]⟩,by simp [aH],b / 32,om,by simpa using i,rfl⟩
    omega
   ·have:=h.sound.aG _ (Rz (r:=⟨N0,0,[]⟩) (by simp [aH]) j (by simpa using i))
    simp only at this;omega
  ·have:=c4 m
   rw [f,c3 m hm]
   by_cases c:m=s
   ·subst c;rw [au rfl,ak om] at this;rw [au (aA rfl),wK,ak om];omega
   ·by_cases d:m=n
    ·subst d;rw [ak om,au rfl] at this;rw [au (ay rfl),wK,ak om];omega
    ·rw [ak om,ak om] at this;rw [ak om]
     have:=h.sound.jI m hm
     omega
 obtain ⟨o,p,w,y⟩:=c1.Vg c2 l;refine ⟨l,o.bH p w (h.log.jr (LD (alF (iJ.refl V) _ _) _)),?_,fun a=>y fun m hm=> ?_⟩
 ·have:=o.holds
  rw [sG p] at this;exact this
 ·have:=c4 m
  rw [f,c3 m hm]
  by_cases c:m=s
  ·subst c;rw [au rfl,ak om] at this;rw [au (aA rfl),wK,ak om];omega
  ·by_cases d:m=n
   ·subst d;rw [ak om,au rfl] at this;rw [au (ay rfl),wK,ak om];omega
   ·rw [ak om,ak om] at this;rw [ak om,a.eq m hm];omega
def dH.aiC {C:List aj} {rs:List bI} (h:dH C rs) (i: ∀ c ∈ C,c.length=64):Fb C=bF (fun m=>aI (aJ C) m == 0) 256:=by
 have o:=h.qp;have hm:=h.len;have d: ∀ (p q:Nat→Bool) (k:Nat),(∀ j,j<k→p j=q j)→bF p k=bF q k:=by
  intro p q k
  induction k with
  | zero=>intro _;rfl
  | succ k ih=>intro h;simp only [bF];rw [ih (fun j hj=>h j om),h k om]
 have more: ∀ (p:Nat→Bool) (n m:Nat),(∀ j,n≤j→j<n+m→p j=true)→bF p (n+m)=bF p n+m:=by
  intro p n m
  induction m with
  | zero=>intro _;rfl
  | succ m ih=>
   intro h;rw [← LW];simp only [bF];rw [ih (fun j a l=>h j a om),au (h (n+m) om om)];omega
 have e:=d (fun m=>aI (aJ C) m == 0) (fun m=>aQ C m == 0) 256 (fun j hj=>by rw [EW i om j hj]);rw [e];have g:=more (fun m=>aQ C m == 0) C.length (256 - C.length) (fun j a l=>by rw [h.none j om a];rfl);rw [show C.length+(256 - C.length)=256 by omega] at g;rw [g];unfold Fb;rw [Ci]
 congr 1
 refine d _ _ _ fun j hj=> ?_
 by_cases f:6≤j
 ·simp [f]
 ·have:=h.jI j om
  rw [wK,au om] at this
  have:aQ C j≠0:=om
  simp [this,f]
def acJ {C:List aj} {rs:List bI} (h:dH C rs) (d: ∀ c ∈ C,c.length=64) (want:Nat) (a:(dD (aJ C) want).length<want):Fb C<want:=by
 rw [h.aiC d,← akf _ want 256 a];exact a
def DC (V:aB) (n:Int) (data:aj):aB × Nat:=Jg V n data (jQ (tK V (placeOf V n) data) (dJ [(placeOf V n).second,(placeOf V n).block])) (jQ (tJ V (placeOf V n) data) (dJ [(placeOf V n).block]))
def aY.place (h:aY base V N0 E) (n:Int):placeOf V n=cZ V.C N0 n.toNat:=by unfold placeOf;rw [h.file.Ac]
def Oz {n:Int} (a:jY n=true):n.toNat<64:=by
 unfold jY at a;simp at a;omega
def aY.write (h:aY base V N0 E) (n:Int) (i:data.length=64):
  (jY n=false∧DC V n data=(V,1))∨(jY n=true∧(DC V n data).2=0∧Xm base V (DC V n data).1 N0 E (wZ (bD V.C N0 E) n.toNat data))∨
   (jY n=true∧DC V n data=(V,5)∧ ∀ R:aU,R.L=V.C→R.roots=aH N0 E→Fb V.C<Ns R n.toNat):=by
 have v:=h.file.seven;have hm:=h.file.most;unfold DC Jg
 by_cases a:jY n=true
 ·have g:=Oz a;rw [ak (by rw [a];decide),h.place n];obtain ⟨p,q,w,x,y⟩:=VE (V:=V) (N0:=N0) n.toNat;rw [p,q]
  by_cases d:nm V.C N0 (n.toNat / 32)<32768
  ·rw [au d]
   by_cases c:2≤(dD (aJ V.C) 2).length
   ·rw [au c];obtain ⟨s,r,j,o,hn,h0,l⟩:=YE c;rw [EW h.file.lens om _ om] at h0 l;have hw:=(h.aaq g j o hn h0 l i).2;generalize jQ (tK V (cZ V.C N0 n.toNat) data) (dJ [nm V.C N0 (n.toNat / 32),bU V.C N0 n.toNat])=W at*;exact ay (aA ⟨a,rfl,hw⟩)
   ·rw [ak c];refine ay (ay ⟨a,rfl,fun R hL hR=> ?_⟩)
    have:=acJ h.sound h.file.lens 2 om
    unfold Ns rootOf;rw [hL,hR,au (by exact d)];exact this
  ·rw [ak d]
   by_cases e:bU V.C N0 n.toNat<32768
   ·rw [au e]
    by_cases c:0<(dD (aJ V.C) 1).length
    ·rw [au c];obtain ⟨r,j,hn,h0⟩:=Nq c;rw [EW h.file.lens om _ om] at h0;have hw:=(h.aap g j hn h0 i om).2;generalize jQ (tJ V (cZ V.C N0 n.toNat) data) (dJ [bU V.C N0 n.toNat])=W at*;exact ay (aA ⟨a,rfl,hw⟩)
    ·rw [ak c];refine ay (ay ⟨a,rfl,fun R hL hR=> ?_⟩)
     have:=acJ h.sound h.file.lens 1 om
     have t:num (cl V.C (num (cl V.C N0) (2*(n.toNat / 32))%32768)) (2*(n.toNat%32))<32768:=by
      unfold bU at e;rw [ak (by unfold nm at d;omega)] at e;exact e
     unfold Ns rootOf;rw [hL,hR,ak (by exact d),au (by exact t)];exact this
   ·rw [ak e];obtain ⟨o1,o2,m⟩:=h.inPlace (data:=data) g i om;have f:(fF (bQ V (bU V.C N0 n.toNat%32768) data)).C=dG V.C [(bU V.C N0 n.toNat%32768,data)]:=by rw [zX,VG];rfl
    refine ay (aA ⟨a,rfl,?_⟩);show Xm base V (fF (bQ V (bU V.C N0 n.toNat%32768) data)) N0 E _;refine ⟨Ok.bH (T:=V.C.length) (D:=wZ (bD V.C N0 E) n.toNat data) (by rw [f];exact o1) (by rw [f];exact m) (OE _) (h.log.jr ((iJ.refl V).put _ _).flush),?_,fun u=>by rw [f];exact o2 u⟩;rw [f]
    have:=o1.holds
    rw [sG m] at this;exact this
 ·have k:jY n=false:=by simpa using a
  rw [au k];exact aA ⟨k,rfl⟩
end
def apT:aj:=List.replicate 7 1++List.replicate 57 0
def BK:List aj:=[fG 7 6,apT,zc,zc,zc,zc,zc]
def YW:xP.C=BK:=kr
def YX: ∀ n:Fin 256,aQ BK n.val=(if n.val<6 then 1 else 0)+(if n.val=6 then 1 else 0):=by decide +kernel
def Rx: ∀ i:Fin 32,num (cl BK 6) (2*i.val)=0:=by decide +kernel
def as5:cl BK 5=og []:=kr
def as2:eu BK 6=List.replicate 64 zc:=kr
def as4: ∀ c ∈ BK,c.length=64:=by decide +kernel
def aqt:iZ []:=⟨dc,fun e he=>(by cases he),List.nodup_nil⟩
def VB {r:bI} (h:r ∈ aH 6 []):r.N=6:=by
 rcases Dx.1 h with x | ⟨e,he,_⟩
 ·rw [x]
 ·cases he
def Rw (s:Nat): ¬ fD BK (aH 6 []) s:=by
 rintro ⟨r,hr,j,hj,h0,_⟩;rw [VB hr] at h0;exact h0 (Rx ⟨j,om⟩)
def akK (s:Nat): ¬ oU BK (aH 6 []) s:=fun ⟨x,a,_⟩=>Rw x a
def akL (n:Nat):dN BK (aH 6 []) n=if n=6 then 1 else 0:=by
 have h0:nm BK 6 0=0:=Rx ⟨0,om⟩;have a:nm BK 6 1=0:=Rx ⟨1,om⟩;show lH BK 6 n+0=_;unfold lH oh;rw [au h0,au a]
 by_cases e:n=6
 ·rw [au e.symm,au e]
 ·rw [ak (fun z=>e z.symm),ak e]
def as8:dH BK (aH 6 []):=by
 refine ⟨dc,dc,fun r hr=>by rw [VB hr];decide,dc,fun r hr i _ a=>by rw [VB hr];exact Rx ⟨i,a⟩,fun s hs=>absurd hs (Rw s),fun n hn=>absurd hn (akK n),fun t _ hs=>Rw t hs,fun t _ hs=>akK t hs,fun t hs=>absurd hs (Rw t),fun n hn=> ?_,fun n hn=> ?_,fun n hn c=> ?_,fun r hr j hj hm=> ?_,fun s hs=>absurd hs (Rw s)⟩
 ·rw [wK,akL,YX ⟨n,hn⟩];exact aO _
 ·rw [YX ⟨n,hn⟩];split <;> split <;> omega
 ·have:BK.length=7:=rfl
  rw [YX ⟨n,hn⟩,ak (by simp only;omega),ak (by simp only;omega)]
 ·rw [VB hr] at hm;have h0:nm BK 6 j=0:=Rx ⟨j,om⟩;omega
def as3:wJ BK (aH 6 []):=
 ⟨fun n hn=>by rw [wK,akL,YX ⟨n,hn⟩],fun r hr j hj h0=>absurd (by rw [VB hr];exact Rx ⟨j,om⟩) h0,fun s hs=>absurd hs (Rw s)⟩
def akM:aY [] xP 6 []:=by
 refine ⟨?_,by rw [YW];exact as8,as7,asu⟩;rw [YW];exact ⟨as4,dc,aO _,dc,dc,dc,rfl,as5,aqt⟩
def axG:dR:=⟨List.replicate 64 zc,[]⟩
def akI:bD xP.C 6 []=axG:=by
 rw [YW];unfold bD;rw [as2];rfl
def akJ:wJ xP.C (aH 6 []):=by rw [YW];exact as3
def as6:xP.L.length≤20:=by
 have:xP.L.length=9:=kr
 omega
def aec (a:List (Nat × aj)): ∀ V:aB,(jr V a).L.length≤V.L.length+2*a.length:=by
 induction a with
 | nil=>intro V;exact aO _
 | cons x r ih=>
  intro V;have c:=uH V x.1 x.2;have d:=ih (bQ V x.1 x.2);rw [aeb];simp only [iO];omega
def QK (V:aB) (a:List (Nat × aj)):(eH V a).L.length≤V.L.length+2*a.length+1:=by
 have c:=aec a V;have d:=zn (jr V a);unfold eH;omega
def ajQ (V:aB) (F:List Nat):(dS V F).L.length≤V.L.length+3:=by
 unfold dS;split
 ·have a:=uH V 0 (fG (qF F+1) (num (cl V.C 0) 6));have c:=zn (bQ V 0 (fG (qF F+1) (num (cl V.C 0) 6)));omega
 ·omega
def ahq (V:aB) (F:List Nat):(xG V F).L.length≤V.L.length+11:=by
 rw [abU];have a:=aec (jv (gI (aJ (dS V F).C) F)) (dS V F);have c:=ajQ V F
 have:(jv (gI (aJ (dS V F).C) F)).length=4:=rfl
 omega
def asf (V:aB) (us:List Nat):(iq V us).L.length≤V.L.length+9:=by
 rw [Rj]
 have:=QK V (jv (minus (aJ V.C) us))
 have h:(jv (minus (aJ V.C) us)).length=4:=rfl;omega
def aqH (V:aB):(bP V).length≤5:=by
 unfold bP AZ
 have:=AQ (aZ (cl V.C 5))
 simp
 omega
def am7 (V:aB) (p:sO) (data:aj):(tJ V p data).L.length≤V.L.length+20:=by
 have e:=ahq V (dD (aJ V.C) 1);have f:=uH (xG V (dD (aJ V.C) 1)) ((dD (aJ V.C) 1).getD 0 0) data;have g:=zn (bQ (xG V (dD (aJ V.C) 1)) ((dD (aJ V.C) 1).getD 0 0) data);have a:=fun c=>uH (rC V data) (p.second%32768) c;have d:=fun W=>zn W;unfold tJ Dt;have h:=a (bytesOf ((numsOf (cl (rC V data).C (p.second%32768))).set p.oJ ((dD (aJ V.C) 1).getD 0 0+32768)));have i:=d (bQ (rC V data) (p.second%32768) (bytesOf ((numsOf (cl (rC V data).C (p.second%32768))).set p.oJ ((dD (aJ V.C) 1).getD 0 0+32768))));have j:(rC V data).L.length≤V.L.length+14:=by unfold rC;omega
 omega
def am8 (V:aB) (p:sO) (data:aj):(tK V p data).L.length≤V.L.length+20:=by
 have c:=ahq V (dD (aJ V.C) 2);have d:=uH (xG V (dD (aJ V.C) 2)) ((dD (aJ V.C) 2).getD 0 0) (bytesOf (NS V p));have a:=uH (bQ (xG V (dD (aJ V.C) 2)) ((dD (aJ V.C) 2).getD 0 0) (bytesOf (NS V p))) ((dD (aJ V.C) 2).getD 1 0) data;have e:=zn (bQ (bQ (xG V (dD (aJ V.C) 2)) ((dD (aJ V.C) 2).getD 0 0) (bytesOf (NS V p))) ((dD (aJ V.C) 2).getD 1 0) data);have f:(rD V p data).L.length≤V.L.length+16:=by unfold rD;omega
 have g:=uH (rD V p data) p.first (bytesOf ((numsOf (cl (rD V p data).C p.first)).set p.BH ((dD (aJ V.C) 2).getD 0 0+32768)));have h:=zn (bQ (rD V p data) p.first (bytesOf ((numsOf (cl (rD V p data).C p.first)).set p.BH ((dD (aJ V.C) 2).getD 0 0+32768))));unfold tK Dt;omega
section
variable {base:List aj} {V:aB} {N0:Nat} {E:List aW} {n:Int} {data:aj}
def Ok.lets {W:aB} {T:Nat} {D:dR} (h:Ok W.C T N0 E D) (d:W.C.length=T) (hL:W.L.length≤600000000) (a:List Nat) (g: ∀ m ∈ a,m<65536∧m%32768<256) (i:a.length≤100) (l:Lets W N0 E (dJ a)) (v:Nat):Oq v W (jQ W (dJ a)) a:=by
 have u:=h.file.seven;obtain ⟨e,o,_,_⟩:=h.Nl d l;have s1:=e.sound;rw [sG o] at s1;intro X p q r s t j k c;exact asg v W om (by rw [d];exact h.file.most) hL a g i (fun f c=>by rw [e.yE] at c;exact s1.BF c) X p q r s t j k c
def aY.akR (h:aY base V N0 E) {b:Nat} (a:b<64):bU V.C N0 b<65536∧bU V.C N0 b%32768<256:=by
 have hm:=h.file.most;refine ⟨by unfold bU;split;omega;exact iK _ _,?_⟩
 by_cases h0:bU V.C N0 b=0
 ·rw [h0];decide
 ·have:=h.sound.aG _ (Rz (r:=⟨N0,0,[]⟩) (by simp [aH]) a h0)
  simp only at this;omega
def aY.ate (h:aY base V N0 E) {j:Nat} (hj:j<2):nm V.C N0 j<65536∧nm V.C N0 j%32768<256:=by
 have hm:=h.file.most;refine ⟨iK _ _,?_⟩
 by_cases h0:nm V.C N0 j=0
 ·rw [h0];decide
 ·have:=h.sound.sec (nm V.C N0 j%32768) ⟨⟨N0,0,[]⟩,by simp [aH],j,hj,h0,rfl⟩
  omega
def aY.aqi (h:aY base V N0 E) {w:World} {d v:Nat} {Cv Lv:Value} (hw:pK w d v Cv Lv V) (hL:V.L.length≤500000000) (n:Int) (c:data.length=64):
  Calls Tryz.prog 26 #[.pointer (some ⟨d,0,none⟩),.int .i64 n,.agg (cv data).toArray] w fun e q=>e= .returned (.int .i64 ((DC V n data).2:Nat))∧ ∃ r t,dF w q v Cv Lv r t (DC V n data).1:=by
 have x:=h.file.seven;have p:(⟨N0,0,[]⟩:bI) ∈ aH N0 E:=by simp [aH]
 refine aqj w d v Cv Lv V _ _ hw om h.file.most hL n data c (by rw [h.file.Ac];exact h.sound.KW p) (fun i g j=> ?_) (fun i g y j=> ?_)
 ·obtain ⟨s,u,f,o,hn,h0,k⟩:=YE j;rw [EW h.file.lens om _ om] at h0 k;have a:=Oz i;rw [h.place n];obtain ⟨e,c1,c2,_⟩:=h.ZX a f o hn h0 k c;have l:=(h.aaq a f o hn h0 k c).1;have hlen:=am8 V (cZ V.C N0 n.toNat) data;refine c1.lets c2 om _ (fun m hm=> ?_) sm l v;simp only [cO,jM,jO] at hm;rcases hm with rfl | rfl
  ·exact h.ate om
  ·exact h.akR a
 ·obtain ⟨u,f,hn,h0⟩:=Nq j;rw [EW h.file.lens om _ om] at h0;have a:=Oz i;rw [h.place n] at g ⊢;obtain ⟨e,c1,c2,_⟩:=h.Xr a f hn h0 c g;have l:=(h.aap a f hn h0 c g).1;have hlen:=am7 V (cZ V.C N0 n.toNat) data;refine c1.lets c2 om _ (fun m hm=> ?_) sm l v;rw [iP.1 hm];exact h.akR a
def aY.read (h:aY base V N0 E) (n:Int):xC V.C (num (cl V.C 0) 6) n=if jY n then (cl (bD V.C N0 E).C n.toNat,0) else (zc,1):=by
 unfold xC;rw [h.file.Ac]
 by_cases a:jY n=true
 ·rw [au a,au a];have e:uw V.C N0 n.toNat=cl (bD V.C N0 E).C n.toNat:=by
   unfold bD cl;rw [aN,EY _ _ _ (Oz a)];rfl
  rw [e]
 ·rw [ak a,ak a]
end
def amJ (c:aj) (h: ∀ i,1<i→i<32→num c (2*i)=0):(dJ (numsOf c)).length≤2:=by
 have e:numsOf c=[num c 0,num c 2]++(List.range 30).map (fun i=>num c (2*(i+2))):=by
  apply uY;intro i;unfold numsOf;rw [jK]
  by_cases hi:i<32
  ·rw [yR hi]
   match i,hi with
   | 0,_=>rfl
   | 1,_=>rfl
   | k+2,hk=>rw [nP sm,jK,yR (by simp;omega)];simp
  ·rw [eG (by simpa using hi),eG (by simp;omega)];rfl
 unfold dJ;rw [tY,e,Qe,oL];have d:((List.range 30).map (fun i=>num c (2*(i+2)))).filter (· != 0)=[]:=by
  rw [aaL];intro a f;obtain ⟨i,hi,rfl⟩:=gY.1 f
  have:=G9.1 hi
  rw [h (i+2) om om]
  decide
 rw [d]
 have:=afn (· != 0) [num c 0,num c 2]
 simp only [iO,vV] at this ⊢;omega
section
variable {base:List aj} {V:aB} {T N0:Nat} {E:List aW} {D:dR}
def Ok.asD (h:Ok V.C T N0 E D) (e:V.C.length=T):(yH (aJ V.C) V.C (bP V)).length≤15:=by
 have hs:=h.sound;rw [h.Ny e] at hs;have l:=aqH V;have key: ∀ fs:List Nat,(∀ f ∈ fs,f ∈ (aH N0 E).map (·.N))→(yH (aJ V.C) V.C fs).length≤3*fs.length:=by
  intro fs
  induction fs with
  | nil=>intro _;exact aO _
  | cons f r ih=>
   intro a;have hi:=ih (fun x g=>a x (by simp [g]));obtain ⟨r0,d,j⟩:=gY.1 (a f sm);have c:=amJ (cl V.C f) (fun i k c=>by rw [← j];exact hs.zero r0 d i k c);unfold yH at hi ⊢;rw [qx,oL,tY,iO,iO];omega
 have:=key (bP V) (fun f a=>by rw [h.yE] at a;exact a)
 omega
def Ok.Vh {us:List Nat} (h:Ok V.C T N0 E D) (d:V.C.length=T) (e:Lets V N0 E us):(jQ V us).L.length≤V.L.length+40:=by
 obtain ⟨a,c,_,_⟩:=h.Nl d e;have f:=asf V us;have g:=a.asD c;have i:=aec (yH (aJ (iq V us).C) (iq V us).C (bP (iq V us))) (iq V us);have j:=zn (sD (iq V us));have k:(sD (iq V us)).L.length≤(iq V us).L.length+30:=by rw [a.Ph c];omega
 unfold jQ;omega
def aY.axC {data:aj} (h:aY base V N0 E) (n:Int) (f:data.length=64):(DC V n data).1.L.length≤V.L.length+60:=by
 have t:=h.file.seven;unfold DC Jg
 by_cases g:jY n=true
 ·have d:=Oz g;rw [ak (by rw [g];decide),h.place n];obtain ⟨o,p,u,v,w⟩:=VE (V:=V) (N0:=N0) n.toNat;rw [o,p]
  by_cases k:nm V.C N0 (n.toNat / 32)<32768
  ·rw [au k]
   by_cases a:2≤(dD (aJ V.C) 2).length
   ·rw [au a];obtain ⟨s,q,c,j,hn,h0,i⟩:=YE a;rw [EW h.file.lens om _ om] at h0 i;obtain ⟨e,c1,c2,_⟩:=h.ZX d c j hn h0 i f;have r:=c1.Vh c2 (h.aaq d c j hn h0 i f).1;have hw:=am8 V (cZ V.C N0 n.toNat) data;generalize jQ (tK V (cZ V.C N0 n.toNat) data) (dJ [nm V.C N0 (n.toNat / 32),bU V.C N0 n.toNat])=W at*;dsimp only;omega
   ·rw [ak a];dsimp only;omega
  ·rw [ak k]
   by_cases l:bU V.C N0 n.toNat<32768
   ·rw [au l]
    by_cases a:0<(dD (aJ V.C) 1).length
    ·rw [au a];obtain ⟨q,c,hn,h0⟩:=Nq a;rw [EW h.file.lens om _ om] at h0;obtain ⟨e,c1,c2,_⟩:=h.Xr d c hn h0 f om;have r:=c1.Vh c2 (h.aap d c hn h0 f om).1;have hw:=am7 V (cZ V.C N0 n.toNat) data;generalize jQ (tJ V (cZ V.C N0 n.toNat) data) (dJ [bU V.C N0 n.toNat])=W at*;dsimp only;omega
    ·rw [ak a];dsimp only;omega
   ·rw [ak l];have x:=uH V (bU V.C N0 n.toNat%32768) data;have y:=zn (bQ V (bU V.C N0 n.toNat%32768) data);dsimp only;omega
 ·have m:jY n=false:=by simpa using g
  rw [au m];dsimp only;omega
end
def auy (l:List (Option (Nat × aj))): ∀ V:aB,V.L.length≤(VH V l).L.length:=by
 induction l with
 | nil=>intro V;exact aO _
 | cons x r ih=>
  intro V;refine jL ?_ (ih (Zh V x));cases x with
  | none=>
   show V.L.length≤(fF V).L.length;unfold fF;split
   ·simp
   ·exact aO _
  | some y=>
   show V.L.length≤(bQ V y.1 y.2).L.length;unfold bQ;split
   ·exact aO _
   ·show V.L.length≤((iG V).L++[_]).length;unfold iG;split
    ·show V.L.length≤((V.L++_)++[_]).length;simp
    ·simp
def iJ.zZ {V a:aB} (h:iJ V a):V.L.length≤a.L.length:=by
 obtain ⟨l,rfl⟩:=h;exact auy l V
def auD (V:aB) (n:Int) (data:aj):iJ V (DC V n data).1:=by
 have a:=LD (alE (iJ.refl V) (placeOf V n) data) (dJ [(placeOf V n).block]);have c:=LD (alF (iJ.refl V) (placeOf V n) data) (dJ [(placeOf V n).second,(placeOf V n).block]);have d:=((iJ.refl V).put ((placeOf V n).block%32768) data).flush;have h0:=iJ.refl V;unfold DC Jg;generalize jQ (tJ V (placeOf V n) data) (dJ [(placeOf V n).block])=A at*;generalize jQ (tK V (placeOf V n) data) (dJ [(placeOf V n).second,(placeOf V n).block])=B at*;split
 ·exact h0
 ·split
  ·split
   ·exact c
   ·exact h0
  ·split
   ·split
    ·exact a
    ·exact h0
   ·exact d
def avF (D:dR) (n:Int) (data:aj) (a:jY n=true):GY D n data=(wZ D n.toNat data,0):=by
 unfold GY wZ;rw [au a]
end Go.Proofs.YtknjjjenklfeoaaGreatDoor
