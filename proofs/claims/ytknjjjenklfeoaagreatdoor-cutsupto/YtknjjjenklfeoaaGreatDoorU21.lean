import Derived.Test.YtknjjjenklfeoaaGreatDoorU20
set_option maxHeartbeats 8000000
set_option maxRecDepth 100000
set_option linter.all false
namespace Go.Proofs.YtknjjjenklfeoaaGreatDoor
open Go.RowKit
def akx (k:List UInt8) (n m:Nat) (hn:n<k.length) (b:1≤aI k n):aI (I5 k n) m=if n=m then aI k n - 1 else aI k m:=by
 have a:=uy k n;unfold I5;rw [Bz _ _ _ _ hn]
 by_cases e:n=m
 ·rw [au e,au e,NZ];omega
 ·rw [ak e,ak e]
def aky: ∀ (us:List Nat) (k:List UInt8) (m:Nat),(∀ u ∈ us,u<k.length)→(∀ u,us.count u≤aI k u)→aI (minus k us) m+us.count m=aI k m
 | [],k,m,_,_=>by simp [minus]
 | a :: r,k,m,b,hc=>by
  have c:=b a sm;have d:1≤aI k a:=by have:=hc a;rw [EH] at this;simp at this;omega
  have ih:=aky r (I5 k a) m (fun u hu=>by simp only [I5,rV];exact b u (by simp [hu])) (fun u=>by
   have:=hc u
   rw [EH] at this;rw [akx k a u c d]
   by_cases e:a=u
   ·subst e;rw [au rfl];simp at this;omega
   ·rw [ak e];simp [e] at this;omega)
  show aI (minus (I5 k a) r) m+_=_;rw [akx k a m c d] at ih;rw [EH]
  by_cases e:a=m
  ·subst e;rw [au rfl] at ih;simp;omega
  ·rw [ak e] at ih;simp [e];omega
def jv (k:List UInt8):List (Nat × aj):=[(1,partOf k 0),(2,partOf k 1),(3,partOf k 2),(4,partOf k 3)]
def alu (V:aB) (k:List UInt8):lT V k 4=jr V (jv k):=rfl
def KH {k:List UInt8} {x:Nat × aj} (h:x ∈ jv k): ∃ p,p<4∧x=(1+p,partOf k p):=by
 simp only [jv,cO,jM,jO] at h;rcases h with rfl | rfl | rfl | rfl
 ·exact ⟨0,om,rfl⟩
 ·exact ⟨1,om,rfl⟩
 ·exact ⟨2,om,rfl⟩
 ·exact ⟨3,om,rfl⟩
def afj (C:List aj) (k:List UInt8) (n:Nat) (hn:n<256) (a:List (Nat × aj)) (c: ∀ x ∈ a,5≤x.1):aI (vw (dG C (jv k++a)) (1+n / 64)) (n%64)=aI k n:=by
 have e:dG C (jv k++a)=dG (dG C (jv k)) a:=by simp [dG]
 rw [e,FW _ a _ (fun x d=>by have:=c x d;omega)];have f:n / 64=0∨n / 64=1∨n / 64=2∨n / 64=3:=om;have b:=ahd k n;show aI (vw (iV (iV (iV (iV C (1,partOf k 0)) (2,partOf k 1)) (3,partOf k 2)) (4,partOf k 3)) (1+n / 64)) (n%64)=_;rw [zQ,zQ,zQ,zQ];rcases f with h | h | h | h <;> rw [h] at b ⊢ <;> simp only [Nat.reduceAdd,Nat.reduceEqDiff,xk,yS] <;> exact b
section
variable {C:List aj} {T N0:Nat} {E:List aW} {D:dR}
def ahj (a:Nat→Nat) (c:aj) (d: ∀ q,q<32→num c (2*q)≠0→a (num c (2*q))<65536) (q:Nat) (b:q<32):num (bytesOf (wO a (numsOf c))) (2*q)=if num c (2*q)=0 then 0 else a (num c (2*q)):=by
 rw [YZ _ _ q b,KF,vJ _ _ b];intro i;rw [KF]
 by_cases hi:i<32
 ·rw [vJ _ _ hi];split
  ·decide
  ·rename_i h;exact d i hi h
 ·rw [aN,eG (by rw [numsOf_length];omega)]
  simp
def asw (k:List UInt8) (n:Nat) (h:n<65536):pX k n<65536:=by unfold pX;split <;> omega
def adt (k:List UInt8) (n:Nat):pX k n%32768=n%32768:=by unfold pX;split <;> omega
def adu (k:List UInt8) (n:Nat) (h0:n≠0):pX k n≠0:=by unfold pX;split <;> omega
def asx (k:List UInt8) (n:Nat):pX k (pX k n)=pX k n:=by
 by_cases e:aI k (n%32768)=1
 ·have a:pX k n=n%32768+32768:=by unfold pX;rw [au e]
  have b:(n%32768+32768)%32768=n%32768:=om;rw [a];unfold pX;rw [b,au e]
 ·have a:pX k n=n:=by unfold pX;rw [ak e]
  rw [a,a]
def wS (k:List UInt8) (c:aj):aj:=bytesOf (wO (pX k) (numsOf c))
def Vm (k:List UInt8) (c:aj) (q:Nat) (a:q<32):num (wS k c) (2*q)=if num c (2*q)=0 then 0 else pX k (num c (2*q)):=
 ahj _ c (fun _ _ _=>asw k _ (iK _ _)) q a
def adv (k:List UInt8) (c:aj):(wS k c).length=64:=bytesOf_length _
def akd (k:List UInt8) (c:aj) (q:Nat) (a:q<32):lQ (num (wS k c) (2*q)) (num c (2*q)):=by
 rw [Vm k c q a]
 by_cases e:num c (2*q)=0
 ·rw [au e,e];exact lQ.refl _
 ·rw [ak e];exact ⟨⟨fun x=>absurd x (adu k _ e),fun x=>absurd x e⟩,adt k _⟩
def asz (k:List UInt8) (c:aj):wS k (wS k c)=wS k c:=by
 refine apP (adv k _) (adv k _) fun q a=> ?_;rw [Vm k _ q a,Vm k c q a]
 by_cases e:num c (2*q)=0
 ·rw [au e];rfl
 ·rw [ak e,ak (adu k _ e),asx k _]
def awG {c T2:List Nat} (f:c.length=T2.length) (h: ∀ i,lQ (c.getD i 0) (T2.getD i 0)):dJ c=dJ T2:=by
 induction c generalizing T2 with
 | nil=>
  cases T2 with
  | nil=>rfl
  | cons b s=>simp at f
 | cons a r ih=>
  cases T2 with
  | nil=>simp at f
  | cons b s=>
   have h0:=h 0;simp only [EG] at h0;have d:=ih (T2:=s) (by simpa using f) (fun i=>by have:=h (i+1);simpa using this);unfold dJ at d ⊢;simp only [aaK]
   by_cases e:a=0
   ·rw [ak (by simp [e]),ak (by simp [h0.1.1 e])];exact d
   ·have g:b≠0:=fun x=>e (h0.1.2 x);rw [au (by simpa using e),au (by simpa using g),jU,jU,d,h0.2]
def asy (k:List UInt8) (c:aj):dJ (numsOf (wS k c))=dJ (numsOf c):=by
 refine awG (by rw [numsOf_length,numsOf_length]) fun i=> ?_
 by_cases hi:i<32
 ·rw [vJ _ _ hi,vJ _ _ hi];exact akd k _ i hi
 ·rw [aN,eG (by rw [numsOf_length];omega),aN,eG (by rw [numsOf_length];omega)];exact lQ.refl _
def alO (a:Nat→Nat) (V:aB) (t:Nat) (r:List Nat):rM a V (t :: r)=rM a (Ae a V t) r:=rfl
def aeb (V:aB) (x:Nat × aj) (r:List (Nat × aj)):jr V (x :: r)=jr (bQ V x.1 x.2) r:=rfl
def Zi (V:aB) (a b:List (Nat × aj)):jr V (a++b)=jr (jr V a) b:=by simp [jr]
def asA (k:List UInt8) (V:aB) (f:Nat) (r:List Nat):wU k V (f :: r)=wU k (rM (pX k) V (tH V f)) r:=rfl
def auZ (k:List UInt8) (V:aB) (t:Nat):Ae (pX k) V t=bQ V t (wS k (cl V.C t)):=rfl
def au1 (k:List UInt8) (a:List aj) (b:List Nat): ∀ V:aB,(∀ t ∈ b,t<V.C.length)→(∀ t,t<V.C.length→cl V.C t=cl a t∨cl V.C t=wS k (cl a t))→
  rM (pX k) V b=jr V (b.map fun t=>(t,wS k (cl a t))):=by
 induction b with
 | nil=>intro V _ _;rfl
 | cons t r ih=>
  intro V d f;have g:=d t sm;have e:Ae (pX k) V t=bQ V t (wS k (cl a t)):=by
   rw [auZ];rcases f t g with x | x
   ·rw [x]
   ·rw [x,asz]
  rw [alO,e,jU,aeb];dsimp only;have hlen:=zL V t (wS k (cl a t));refine ih (bQ V t (wS k (cl a t))) (fun x c=>by rw [hlen];have:=d x (by simp [c]);omega) (fun x c=> ?_)
  by_cases ex:t=x
  ·subst ex;rw [abS];exact ay rfl
  ·rw [Ug _ _ _ _ (by rw [hlen] at c;omega) ex];exact f x (by rw [hlen] at c;omega)
def yH (k:List UInt8) (a:List aj) (fs:List Nat):List (Nat × aj):=fs.flatMap fun f=>(f :: dJ (numsOf (cl a f))).map fun t=>(t,wS k (cl a t))
def asE (k:List UInt8) (a:List aj) (fs:List Nat): ∀ V:aB,V.C.length=a.length→(∀ f ∈ fs,∀ t ∈ f :: dJ (numsOf (cl a f)),t<a.length)→(∀ t,t<V.C.length→cl V.C t=cl a t∨cl V.C t=wS k (cl a t))→
  wU k V fs=jr V (yH k a fs):=by
 induction fs with
 | nil=>intro V _ _ _;rfl
 | cons f r ih=>
  intro V m b d;have s:=b f sm f sm;have l:tH V f=f :: dJ (numsOf (cl a f)):=by
   unfold tH;rcases d f om with x | x
   ·rw [x]
   ·rw [x,asy]
  have n:=au1 k a (f :: dJ (numsOf (cl a f))) V (fun t h=>by rw [m];exact b f sm t h) d;rw [asA,l,n];have o:yH k a (f :: r)=((f :: dJ (numsOf (cl a f))).map fun t=>(t,wS k (cl a t)))++yH k a r:=by unfold yH;rw [qx]
  rw [o,Zi];have hlen:(jr V ((f :: dJ (numsOf (cl a f))).map fun t=>(t,wS k (cl a t)))).C.length=a.length:=by
   rw [NG]
   have:=ND ((f :: dJ (numsOf (cl a f))).map fun t=>(t,wS k (cl a t))) V.C a.length om (fun x e=>by
    obtain ⟨t,c,rfl⟩:=gY.1 e;exact b f sm t c)
   omega
  refine ih _ hlen (fun g p=>b g (by simp [p])) (fun t q=> ?_);rw [hlen] at q;rw [NG];have hv:=aam t ((f :: dJ (numsOf (cl a f))).map fun t=>(t,wS k (cl a t))) V.C;have j:=hlen;rw [NG] at j;rw [ny om,ny om] at hv;rcases hv with x | ⟨x,e,c,i⟩
  ·rw [x];exact d t om
  ·obtain ⟨u,_,rfl⟩:=gY.1 e;simp only at c i;rw [c] at i;exact ay i
end
section
variable {V:aB} {T N0:Nat} {E:List aW} {D:dR}
def Ok.Ny (b:Ok V.C T N0 E D) (a:V.C.length=T):bg V.C T=V.C:=sG a
def YN {c:aj} {t:Nat} (h:t ∈ dJ (numsOf c)): ∃ i,i<32∧num c (2*i)≠0∧num c (2*i)%32768=t:=by
 unfold dJ at h;obtain ⟨n,hn,rfl⟩:=gY.1 h;obtain ⟨b,a⟩:=SY.1 hn;obtain ⟨i,hi,rfl⟩:=List.mem_iff_getElem.1 b;rw [numsOf_length] at hi;have e:(numsOf c)[i]'(by rw [numsOf_length];exact hi)=num c (2*i):=by simp [numsOf]
 rw [e] at a ⊢;exact ⟨i,hi,by simpa using a,rfl⟩
def V7 {c:aj} {i:Nat} (hi:i<32) (h0:num c (2*i)≠0):num c (2*i)%32768 ∈ dJ (numsOf c):=by
 unfold dJ;refine gY.2 ⟨num c (2*i),SY.2 ⟨?_,by simpa using h0⟩,rfl⟩;unfold numsOf;exact gY.2 ⟨i,G9.2 hi,rfl⟩
def ZY {L:List aj} {rs:List bI} (h:dH L rs) {f t:Nat} (a:f ∈ rs.map (·.N)) (b:t ∈ f :: dJ (numsOf (cl L f))):nX rs t∨fD L rs t:=by
 obtain ⟨r,hr,rfl⟩:=gY.1 a;rcases cO.1 b with e | e
 ·exact aA ⟨r,hr,e.symm⟩
 ·obtain ⟨i,hi,h0,c⟩:=YN e
  by_cases d:i<2
  ·exact ay ⟨r,hr,i,d,h0,c⟩
  ·exact absurd (h.zero r hr i om hi) h0
def ar4 {L:List aj} {rs:List bI} {t:Nat} (h:nX rs t∨fD L rs t): ∃ f ∈ rs.map (·.N),t ∈ f :: dJ (numsOf (cl L f)):=by
 rcases h with ⟨r,hr,e⟩ | ⟨r,hr,j,hj,h0,e⟩
 ·exact ⟨r.N,gY.2 ⟨r,hr,rfl⟩,by rw [e];simp⟩
 ·exact ⟨r.N,gY.2 ⟨r,hr,rfl⟩,cO.2 (ay (by rw [← e];exact V7 om h0))⟩
def dH.LK {L:List aj} {rs:List bI} (h:dH L rs) {t:Nat} (a:nX rs t∨fD L rs t):6≤t∧t<L.length:=by
 rcases a with ⟨r,hr,rfl⟩ | hs
 ·exact h.fst r hr
 ·exact h.sec t hs
def dH.Ad {L:List aj} {rs:List bI} (h:dH L rs) {t:Nat} (b:nX rs t∨fD L rs t) (q:Nat) (a:q<32) (h0:nm L t q≠0):6≤nm L t q%32768∧nm L t q%32768<L.length:=by
 rcases b with ⟨r,hr,rfl⟩ | hs
 ·by_cases c:q<2
  ·exact h.sec _ ⟨r,hr,q,c,h0,rfl⟩
  ·exact absurd (h.zero r hr q om a) h0
 ·exact h.aG _ ⟨t,hs,q,a,h0,rfl⟩
def dH.YK {L:List aj} {rs:List bI} (h:dH L rs) {t:Nat} (b:nX rs t∨fD L rs t) (q:Nat) (a:q<32) (hm:32768≤nm L t q):aQ L (nm L t q%32768)=1:=by
 rcases b with ⟨r,hr,rfl⟩ | hs
 ·by_cases c:q<2
  ·exact h.Dl r hr q c hm
  ·have:=h.zero r hr q om a;omega
 ·exact h.BI t hs q a hm
def dH.afh {L:List aj} {rs:List bI} (h:dH L rs) {t:Nat} (b:nX rs t∨fD L rs t) (q:Nat) (a:q<32) (h0:nm L t q≠0):1≤dN L rs (nm L t q%32768):=by
 rcases b with ⟨r,hr,rfl⟩ | hs
 ·by_cases c:q<2
  ·exact SG ⟨r,hr,q,c,h0,rfl⟩
  ·exact absurd (h.zero r hr q om a) h0
 ·exact SE ⟨t,hs,q,a,h0,rfl⟩
def dH.PU {V:aB} {rs:List bI} (h:dH V.C rs) {t:Nat} (a:nX rs t∨fD V.C rs t):rJ V t:=by
 refine ⟨h.LK a,fun i=>⟨Pm _ _,fun h0=> ?_⟩⟩
 by_cases hi:i<32
 ·rw [vJ _ _ hi] at h0 ⊢;exact h.Ad a i hi h0
 ·rw [aN,eG (by rw [numsOf_length];omega)] at h0;exact absurd rfl h0
def dH.BF {V:aB} {rs:List bI} (h:dH V.C rs) {f:Nat} (a:f ∈ rs.map (·.N)):gU V f:=by
 obtain ⟨r,hr,rfl⟩:=gY.1 a;refine ⟨h.PU (aA ⟨r,hr,rfl⟩),fun i=>⟨Pm _ _,fun h0=> ?_⟩⟩
 by_cases hi:i<32
 ·rw [vJ _ _ hi] at h0 ⊢
  by_cases b:i<2
  ·exact h.PU (ay ⟨r,hr,i,b,h0,rfl⟩)
  ·exact absurd (h.zero r hr i om hi) h0
 ·rw [aN,eG (by rw [numsOf_length];omega)] at h0;exact absurd rfl h0
def Ok.yE (h:Ok V.C T N0 E D):bP V=(aH N0 E).map (·.N):=by
 unfold bP;rw [h.file.Ac,h.file.iR.AZ h.file.list];simp [aH,lU]
structure Lets (V:aB) (N0:Nat) (E:List aW) (us:List Nat):Prop where
 lt: ∀ u ∈ us,u<256
 jI: ∀ m,m<256→gZ m+dN V.C (aH N0 E) m+us.count m≤aQ V.C m
section
variable {us:List Nat}
def Ok.Gu (h:Ok V.C T N0 E D) (a:V.C.length=T):(aJ V.C).length=256∧ ∀ n,n<256→aI (aJ V.C) n=aQ V.C n:=by
 have b:=h.file.seven;exact ⟨CY _ h.file.lens om,fun n hn=>EW h.file.lens om n hn⟩
def Lets.get (a:Lets V N0 E us) (h:Ok V.C T N0 E D) (c:V.C.length=T) (m:Nat) (hm:m<256):aI (minus (aJ V.C) us) m+us.count m=aQ V.C m:=by
 obtain ⟨d,b⟩:=h.Gu c;rw [aky us (aJ V.C) m (fun u hu=>by rw [d];exact a.lt u hu) (fun u=> ?_),b m hm]
 by_cases hu:u<256
 ·rw [b u hu];have:=a.jI u hu;omega
 ·rw [H8.2 (fun x=>hu (a.lt u x))];exact lX _
def Ok.adk (h:Ok V.C T N0 E D) (a:V.C.length=T) (b:Lets V N0 E us) (f:List (Nat × aj)) (i: ∀ x ∈ f,x ∈ jv (minus (aJ V.C) us)):Ok (dG V.C f) T N0 E D:=by
 have e:=h.Ny a;have c:=h.sound;rw [e] at c;have m:=h.file.most;obtain ⟨k,o⟩:=h.Gu a;have key: ∀ t,(nX (aH N0 E) t∨fD V.C (aH N0 E) t)→ ∀ q,q<32→32768≤nm V.C t q→aI (minus (aJ V.C) us) (nm V.C t q%32768)=1:=by
  intro t g q d hm;have p:=c.YK g q d hm;have u:=c.afh g q d om;have v:=c.Ad g q d om;have w:=b.jI (nm V.C t q%32768) om;have y:=b.get h a (nm V.C t q%32768) om;omega
 refine h.counts (minus (aJ V.C) us) (by rw [YP];exact k) (fun _=>False) (fun n hn=>hn.elim) (fun n hn=> ?_) (fun n hn=> ?_) (fun n hn z=> ?_) (fun r hr j hj hm=> ?_) (fun s hs q d hm=> ?_) f (fun x l=>aA (KH (i x l)))
 ·rw [e]
  have:=b.get h a n hn
  have:=b.jI n hn
  omega
 ·have:=b.get h a n hn
  have:=c.top n hn
  omega
 ·have:=b.get h a n hn
  have:=c.none n hn om
  omega
 ·rw [e] at hm ⊢;exact key r.N (aA ⟨r,hr,rfl⟩) j om hm
 ·rw [e] at hs hm ⊢;exact key s (ay hs) q d hm
def Rj (V:aB) (us:List Nat):iq V us=eH V (jv (minus (aJ V.C) us)):=rfl
def Ok.asa (h:Ok V.C T N0 E D) (c:V.C.length=T) (a:List (Nat × aj)) (b: ∀ x ∈ a,x.1<T):(eH V a).C.length=T:=by
 rw [uz]
 have:=ND a V.C T h.file.le b
 omega
def Ok.Nl (h:Ok V.C T N0 E D) (b:V.C.length=T) (c:Lets V N0 E us):Ok (iq V us).C T N0 E D∧(iq V us).C.length=T∧(∀ m,m<256→aQ (iq V us).C m+us.count m=aQ V.C m)∧(∀ t,5≤t→cl (iq V us).C t=cl V.C t):=by
 have g:=h.file.seven;have hlen:=h.asa b (jv (minus (aJ V.C) us)) (fun x a=>by obtain ⟨p,f,rfl⟩:=KH a;simp only;omega);rw [Rj];refine ⟨by rw [uz];exact h.adk b c _ (fun x a=>a),hlen,fun m hm=> ?_,fun t i=> ?_⟩
 ·have e:aQ (eH V (jv (minus (aJ V.C) us))).C m=aI (minus (aJ V.C) us) m:=by
   unfold aQ;rw [← ny (by rw [hlen];omega),uz]
   have:=afj V.C (minus (aJ V.C) us) m hm [] (fun x a=>by cases a)
   rw [sN] at this;exact this
  rw [e];exact c.get h b m hm
 ·by_cases d:t<T
  ·rw [← ny (by rw [hlen];exact d),← ny om,uz];exact FW t _ _ (fun x a=>by obtain ⟨p,f,rfl⟩:=KH a;simp only;omega)
  ·rw [D7 om,D7 om]
def Ok.adr (h:Ok V.C T N0 E D) (d:V.C.length=T): ∀ x ∈ yH (aJ V.C) V.C (bP V),(nX (aH N0 E) x.1∨fD V.C (aH N0 E) x.1)∧x.2=wS (aJ V.C) (cl V.C x.1):=by
 have b:=h.sound;rw [h.Ny d] at b;intro x a;unfold yH at a;obtain ⟨f,c,a⟩:=zT.1 a;obtain ⟨t,e,rfl⟩:=gY.1 a;rw [h.yE] at c;exact ⟨ZY b c e,by dsimp only⟩
def Ok.adz (h:Ok V.C T N0 E D) (b:V.C.length=T) (c:List (Nat × aj)) (i: ∀ x ∈ c,x ∈ yH (aJ V.C) V.C (bP V)):Ok (dG V.C c) T N0 E D:=by
 have f:=h.Ny b;have d:=h.sound;rw [f] at d;have l:=h.file.most;obtain ⟨m,j⟩:=h.Gu b;refine h.marks c fun x k=> ?_;obtain ⟨hk,e⟩:=h.adr b x (i x k);rw [f,e];refine ⟨hk,adv _ _,fun q a=>akd _ _ q a,fun q a hm=> ?_⟩;rw [Vm _ _ q a] at hm
 split at hm
 ·omega
 ·rename_i h0;have g:=d.Ad hk q a h0;unfold pX at hm
  split at hm
  ·rename_i hc;rw [j _ (by unfold nm at g;omega)] at hc;exact hc
  ·exact d.YK hk q a hm
def Ok.Ph (h:Ok V.C T N0 E D) (c:V.C.length=T):sD V=jr V (yH (aJ V.C) V.C (bP V)):=by
 have a:=h.sound;rw [h.Ny c] at a;unfold sD;refine asE _ _ _ V rfl (fun f b t d=> ?_) (fun t _=>aA rfl);rw [h.yE] at b;exact (a.LK (ZY a b d)).2
def Ok.marked (h:Ok V.C T N0 E D) (b:V.C.length=T):Ok (sD V).C T N0 E D∧(sD V).C.length=T∧(∀ m,m<256→aQ (sD V).C m=aQ V.C m)∧
  (∀ t,(nX (aH N0 E) t∨fD V.C (aH N0 E) t)→ ∀ q,q<32→nm (sD V).C t q=if nm V.C t q=0 then 0 else pX (aJ V.C) (nm V.C t q)):=by
 have c:=h.sound;rw [h.Ny b] at c;have l:=h.file.seven;have d: ∀ x ∈ yH (aJ V.C) V.C (bP V),6≤x.1∧x.1<T:=fun x a=>by
  have:=c.LK (h.adr b x a).1
  omega
 have hlen:(sD V).C.length=T:=by
  rw [h.Ph b,NG]
  have:=ND (yH (aJ V.C) V.C (bP V)) V.C T h.file.le (fun x a=>(d x a).2)
  omega
 refine ⟨by rw [h.Ph b,NG];exact h.adz b _ (fun x a=>a),hlen,fun m hm=> ?_,fun t e q j=> ?_⟩
 ·unfold aQ;rw [← ny (by rw [hlen];omega),← ny om,h.Ph b,NG,FW _ _ _ (fun x a=>by have:=d x a;omega)]
 ·have k:=c.LK e;have i: ∃ x ∈ yH (aJ V.C) V.C (bP V),x.1=t:=by
   obtain ⟨f,g,a⟩:=ar4 e;rw [← h.yE] at g;exact ⟨(t,wS (aJ V.C) (cl V.C t)),zT.2 ⟨f,g,gY.2 ⟨t,a,rfl⟩⟩,rfl⟩
  unfold nm;rw [← ny (by rw [hlen];omega),h.Ph b,NG,am6 (fun t=>wS (aJ V.C) (cl V.C t)) t _ _ (fun x a=>(h.adr b x a).2) i];exact Vm _ _ q j
def Ok.Vg (h:Ok V.C T N0 E D) (i:V.C.length=T) (u:Lets V N0 E us):Ok (jQ V us).C T N0 E D∧(jQ V us).C.length=T∧(jQ V us).loose=false∧
  ((∀ m,m<256→aQ V.C m=gZ m+dN V.C (aH N0 E) m+us.count m)→wJ (jQ V us).C (aH N0 E)):=by
 obtain ⟨c,f,v,k⟩:=h.Nl i u;obtain ⟨b1,b2,l,o⟩:=c.marked f;have w:(jQ V us).C=(sD (iq V us)).C:=by unfold jQ;rw [zX]
 rw [w];refine ⟨b1,b2,OE _,fun y=> ?_⟩;have s0:=h.sound;rw [h.Ny i] at s0;have s1:=c.sound;rw [c.Ny f] at s1;have s2:=b1.sound;rw [sG b2] at s2;have A:=h.file.most;obtain ⟨c1,c2⟩:=c.Gu f;have p:Shape V.C (iq V us).C (aH N0 E):=Shape.of_same (fun r hr=>k _ (by have:=s0.fst r hr;omega)) (fun s hs=>k _ (by have:=s0.sec s hs;omega));have g:Shape (iq V us).C (sD (iq V us)).C (aH N0 E):=by
  have key: ∀ t,(nX (aH N0 E) t∨fD (iq V us).C (aH N0 E) t)→ ∀ q,q<32→lQ (nm (sD (iq V us)).C t q) (nm (iq V us).C t q):=by
   intro t d q a;rw [o t d q a]
   by_cases e:nm (iq V us).C t q=0
   ·rw [au e,e];exact lQ.refl _
   ·rw [ak e];exact ⟨⟨fun x=>absurd x (adu _ _ e),fun x=>absurd x e⟩,adt _ _⟩
  exact ⟨fun r hr j hj=>key r.N (aA ⟨r,hr,rfl⟩) j hj,fun s hs q a=>key s (ay hs) q a⟩
 have key: ∀ t,(nX (aH N0 E) t∨fD (iq V us).C (aH N0 E) t)→ ∀ q,q<32→nm (sD (iq V us)).C t q≠0→aQ (sD (iq V us)).C (nm (sD (iq V us)).C t q%32768)=1→32768≤nm (sD (iq V us)).C t q:=by
  intro t d q a h0 b;rw [o t d q a] at h0 b ⊢
  by_cases e:nm (iq V us).C t q=0
  ·rw [au e] at h0;exact absurd rfl h0
  ·rw [ak e] at b ⊢;have z:=s1.Ad d q a e;rw [adt,l _ om,← c2 _ om] at b;unfold pX;rw [au b];omega
 refine ⟨fun n hn=> ?_,fun r hr j hj h0 b=>key r.N (aA ⟨r,hr,rfl⟩) j om h0 b,fun s hs q a h0 b=>key s (ay ((g.rZ s).1 hs)) q a h0 b⟩;rw [l n hn,g.use,p.use]
 have:=v n hn
 have:=y n hn
 omega
end
end
section
variable {base:List aj} {V:aB} {T N0:Nat} {E:List aW} {D:dR}
def ahK {C:List aj} (b:5≤C.length) (T n:Nat) (a:5≤T) (hn:n<256):aQ (bg C T) n=aQ C n:=by
 rw [OC _ _ _ a hn];unfold aQ;rw [ny om]
def aY.ok (h:aY base V N0 E):Ok V.C V.C.length N0 E (bD V.C N0 E):=⟨h.file,by rw [Zb];exact h.sound,by rw [Zb]⟩
def Ok.bH (h:Ok V.C T N0 E D) (a:V.C.length=T) (b:V.loose=false) (c:uN base V):aY base V N0 E:=by
 have hs:=h.sound;rw [sG a] at hs;exact ⟨by rw [a];exact h.file,hs,b,c⟩
def jq (C:List aj) (F:List Nat):Nat:=max C.length (qF F+1)
def aY.longer (h:aY base V N0 E) (F:List Nat) (c:qF F<256):Ok (dS V F).C (jq V.C F) N0 E (bD V.C N0 E)∧(dS V F).C.length=V.C.length∧(dS V F).loose=false∧(∀ t,t≠0→cl (dS V F).C t=cl V.C t)∧iJ V (dS V F):=by
 have d:=h.file.seven;have hm:=h.file.most;refine ⟨?_,?_,?_,fun t b=> ?_,aed (iJ.refl V) F⟩
 ·unfold dS;rw [h.file.Ll,h.file.Ac];unfold jq
  by_cases hc:V.C.length≤qF F
  ·rw [au hc,zX,VG,show max V.C.length (qF F+1)=qF F+1 by omega];exact h.ok.longer (qF F+1) om om
  ·rw [ak hc,show max V.C.length (qF F+1)=V.C.length by omega];exact h.ok
 ·exact Vf V F om
 ·unfold dS;split
  ·exact OE _
  ·exact h.Jy
 ·unfold dS;split
  ·rw [zX]
   by_cases a:t<V.C.length
   ·exact Ug _ _ _ _ a (fun e=>b e.symm)
   ·rw [D7 (by rw [zL];omega),D7 om]
  ·rfl
def Ok.abT (h:Ok V.C T N0 E D) (F:List Nat) (a: ∀ n ∈ F,n<T∧aQ V.C n=0) (f:List (Nat × aj)) (v: ∀ x ∈ f,x ∈ jv (gI (aJ V.C) F)∨(x.1 ∈ F∧x.2.length=64)):Ok (dG V.C f) T N0 E D:=by
 have A:=h.file.qp;have B:=h.file.seven;have hm:=h.file.most;have hs:=h.sound;have hc: ∀ n,n<256→aQ (bg V.C T) n=aQ V.C n:=fun n hn=>ahK om T n om hn;have d: ∀ n,n<256→aI (gI (aJ V.C) F) n=if n ∈ F then 1 else aQ V.C n:=fun n hn=>by
  rw [abN n F _ (CY _ h.file.lens om) (fun m o=>by have:=(a m o).1;omega),EW h.file.lens om n hn]
 have g: ∀ n,n ∈ F→ ¬ nX (aH N0 E) n∧ ¬ fD (bg V.C T) (aH N0 E) n∧ ¬ oU (bg V.C T) (aH N0 E) n:=fun n hn=>hs.untold (by have:=(a n hn).1;omega) (by rw [hc n (by have:=(a n hn).1;omega)];exact (a n hn).2);have i: ∀ n,n ∈ F→6≤n:=fun n hn=>hs.Fe (by have:=(a n hn).1;omega) (by rw [hc n (by have:=(a n hn).1;omega)];exact (a n hn).2);have key: ∀ t,(nX (aH N0 E) t∨fD (bg V.C T) (aH N0 E) t)→ ∀ q,q<32→32768≤nm (bg V.C T) t q→aI (gI (aJ V.C) F) (nm (bg V.C T) t q%32768)=1:=by
  intro t k q e b;have p:=hs.Ad k q e om;rw [kL] at p;have l:=hs.YK k q e b;rw [hc _ om] at l;rw [d _ om];split
  ·rfl
  ·exact l
 refine h.counts (gI (aJ V.C) F) (by rw [adV];exact CY _ h.file.lens om) (fun n=>n ∈ F) (fun n hn=>⟨(a n hn).1,i n hn,g n hn⟩) (fun n hn=> ?_) (fun n hn=> ?_) (fun n hn w=> ?_) (fun r hr j hj b=>key r.N (aA ⟨r,hr,rfl⟩) j om b) (fun s u q e b=>key s (ay u) q e b) f (fun x z=> ?_)
 ·rw [d n hn];split
  ·rename_i c;rw [JX hs (g n c),wK,ak (by have:=i n c;omega)];omega
  ·rw [← hc n hn];exact hs.jI n hn
 ·rw [d n hn];split
  ·omega
  ·rw [← hc n hn];exact hs.top n hn
 ·rw [d n hn,ak (fun c=>by have:=(a n c).1;omega),← hc n hn];exact hs.none n hn (by rw [kL];exact w)
 ·rcases v x z with y | y
  ·exact aA (KH y)
  ·exact ay y
def Ok.ahs (h:Ok V.C T N0 E D) (F:List Nat) (c: ∀ n ∈ F,n<T∧aQ V.C n=0) (a:List (Nat × aj)) (g: ∀ x ∈ a,x.1 ∈ F∧x.2.length=64) (v:V.C.length=T∨ ∃ x ∈ a,x.1+1=T):
  Ok (eH V (jv (gI (aJ V.C) F)++a)).C T N0 E D∧(eH V (jv (gI (aJ V.C) F)++a)).C.length=T∧
   (∀ m,m<256→aQ (eH V (jv (gI (aJ V.C) F)++a)).C m=if m ∈ F then 1 else aQ V.C m)∧
   (∀ t,5≤t→t<V.C.length→(∀ x ∈ a,x.1≠t)→cl (eH V (jv (gI (aJ V.C) F)++a)).C t=cl V.C t)∧
   (∀ t,5≤t→t<T→(∀ x ∈ a,x.1≠t)→cl (eH V (jv (gI (aJ V.C) F)++a)).C t=vw V.C t)∧
   Shape (bg V.C T) (eH V (jv (gI (aJ V.C) F)++a)).C (aH N0 E):=by
 have K:=h.file.qp;have L:=h.file.seven;have hm:=h.file.most;have hs:=h.sound;have hc: ∀ n,n<256→aQ (bg V.C T) n=aQ V.C n:=fun n hn=>ahK om T n om hn;have B: ∀ n,n ∈ F→6≤n:=fun n hn=>hs.Fe (by have:=(c n hn).1;omega) (by rw [hc n (by have:=(c n hn).1;omega)];exact (c n hn).2);have l: ∀ n,n ∈ F→ ¬ nX (aH N0 E) n∧ ¬ fD (bg V.C T) (aH N0 E) n∧ ¬ oU (bg V.C T) (aH N0 E) n:=fun n hn=>hs.untold (by have:=(c n hn).1;omega) (by rw [hc n (by have:=(c n hn).1;omega)];exact (c n hn).2);have w:Ok (eH V (jv (gI (aJ V.C) F)++a)).C T N0 E D:=by
  rw [uz];refine h.abT F c _ fun x b=> ?_;rcases fK.1 b with y | y
  ·exact aA y
  ·exact ay (g x y)
 have A: ∀ x ∈ jv (gI (aJ V.C) F)++a,x.1<T:=fun x b=>by
  rcases fK.1 b with y | y
  ·obtain ⟨p,G,rfl⟩:=KH y;simp only;omega
  ·exact (c _ (g x y).1).1
 have hlen:(eH V (jv (gI (aJ V.C) F)++a)).C.length=T:=by
  have M:=ND (jv (gI (aJ V.C) F)++a) V.C T h.file.le A;rw [uz];rcases v with e | ⟨x,b,e⟩
  ·omega
  ·have J:x.1<(dG V.C (jv (gI (aJ V.C) F)++a)).length:=by
    have key: ∀ (d:List (Nat × aj)) (C:List aj),x ∈ d→x.1<(dG C d).length:=by
     intro d
     induction d with
     | nil=>intro C h;cases h
     | cons y r ih=>
      intro C H;rw [Pz];rcases cO.1 H with z | z
      ·subst z;have N:=LC C x;have I: ∀ (d:List (Nat × aj)) (C:List aj),C.length≤(dG C d).length:=by
        intro d
        induction d with
        | nil=>intro C;exact aO _
        | cons y r ih=>
         intro C;have O:=LC C y
         have:=ih (iV C y)
         rw [Pz];omega
       have:=I r (iV C x)
       omega
      ·exact ih _ z
    exact key _ _ (fK.2 (ay b))
   omega
 have i: ∀ t,5≤t→t<T→(∀ x ∈ a,x.1≠t)→cl (eH V (jv (gI (aJ V.C) F)++a)).C t=vw V.C t:=fun t u k j=>by
  rw [← ny (by rw [hlen];exact k),uz];refine FW t _ _ fun x b=> ?_;rcases fK.1 b with y | y
  ·obtain ⟨p,G,rfl⟩:=KH y;simp only;omega
  ·exact j x y
 refine ⟨w,hlen,fun m o=> ?_,fun t u k j=>by rw [i t u (by have:=h.file.le;omega) j,ny k],i,Shape.of_same (fun r hr=> ?_) (fun s q=> ?_)⟩
 ·have e:aQ (eH V (jv (gI (aJ V.C) F)++a)).C m=aI (gI (aJ V.C) F) m:=by
   unfold aQ;rw [← ny (by rw [hlen];omega),uz];exact afj V.C _ m o a (fun x b=>by have:=B _ (g x b).1;omega)
  rw [e,abN m F _ (CY _ h.file.lens om) (fun n hn=>by have:=(c n hn).1;omega),EW h.file.lens om m o]
 ·have f:=hs.fst r hr;rw [kL] at f;rw [Iw _ _ _ f.2,i _ om f.2 (fun x b e=>(l _ (g x b).1).1 ⟨r,hr,e.symm⟩)]
 ·have f:=hs.sec s q;rw [kL] at f;rw [Iw _ _ _ f.2,i _ om f.2 (fun x b e=>(l _ (g x b).1).2.1 (by rw [e];exact q))]
def agT {L:List aj} {rs:List bI} {n:Nat} (z:dN L rs n=1) {r d:bI} {j b k g:Nat} (hr:r ∈ rs) (t:d ∈ rs) (hj:j<2) (u:b<2) (hk:k<32) (v:g<32)
  (h0:nm L r.N j≠0) (o:nm L d.N b≠0) (b0:nm L (nm L r.N j%32768) k≠0) (h:nm L (nm L d.N b%32768) g≠0) (e:nm L (nm L r.N j%32768) k%32768=n) (i:nm L (nm L d.N b%32768) g%32768=n):d.N=r.N∧b=j∧g=k:=by
 have one: ∀ (x:bI) (q c:Nat),c<32→nm L x.N q≠0→nm L (nm L x.N q%32768) c≠0→nm L (nm L x.N q%32768) c%32768=n→1≤oh L x.N q n:=by
  intro x q c hc h0 b0 e
  have:=ZW (f:=fun k=>iT (nm L (nm L x.N q%32768) k) n) (a:=c) 32 0 om om
  simp only [IL b0 e] at this;unfold oh zC;rw [ak h0];omega
 have A:=one r j k hk h0 b0 e;have w:=one d b g v o h i
 by_cases l:d.N=r.N
 ·rw [l] at o h i w;have y:=PZ (L:=L) hr n
  by_cases p:b=j
  ·refine ⟨l,p,?_⟩;rw [p] at h i
   by_cases s:g=k
   ·exact s
   ·exfalso;have B:=PL L r.N j n hj
    have:2≤oh L r.N j n:=by
     unfold oh zC;rw [ak h0];rcases Nat.lt_or_gt_of_ne s with m | m
     ·have:=aeT (f:=fun k=>iT (nm L (nm L r.N j%32768) k) n) m 32 0 om om
      simp only [IL b0 e,IL h i] at this;omega
     ·have:=aeT (f:=fun k=>iT (nm L (nm L r.N j%32768) k) n) m 32 0 om om
      simp only [IL b0 e,IL h i] at this;omega
    omega
  ·exfalso;unfold lH at y
   have:(j=0∧b=1)∨(j=1∧b=0):=om
   rcases this with ⟨rfl,rfl⟩ | ⟨rfl,rfl⟩ <;> omega
 ·exfalso
  have:=am1 (L:=L) hr t (fun x=>l x.symm) n
  have:=PL L r.N j n hj
  have:=PL L d.N b n u
  omega
def wZ (D:dR) (c:Nat) (x:aj):dR:={ D with C:=D.C.set c x }
def avf {L:List aj} (h:dH L (aH N0 E)): ∀ e ∈ E,e.first≠N0:=by
 have hn:=h.nodup;unfold aH at hn;rw [jU,afs] at hn;intro e he a;exact hn.1 (by rw [← a];exact gY.2 ⟨lU e,gY.2 ⟨e,he,rfl⟩,rfl⟩)
def acn {L L':List aj} {c:Nat} {x:aj} (hs:dH L (aH N0 E)) (h: ∀ r ∈ aH N0 E,eu L' r.N=if r.N=N0 then (eu L r.N).set c x else eu L r.N):bD L' N0 E=wZ (bD L N0 E) c x:=by
 unfold bD wZ;have h0:=h ⟨N0,0,[]⟩ (by simp [aH]);simp only [xk] at h0;simp only;rw [h0]
 congr 1
 refine Ji fun e he=> ?_
 have:=h (lU e) (Dx.2 (ay ⟨e,he,rfl⟩))
 have a:eu L' e.first=if e.first=N0 then (eu L e.first).set c x else eu L e.first:=this
 rw [a,ak (avf hs e he)]
def atc {L L':List aj} {t c:Nat} (a:nm L' t (c / 32)=nm L t (c / 32)) (b:nm L t (c / 32)≠0→nm L' (nm L t (c / 32)%32768) (c%32)=nm L (nm L t (c / 32)%32768) (c%32)):bU L' t c=bU L t c:=by
 unfold nm at a b;unfold bU;rw [a]
 by_cases h0:num (cl L t) (2*(c / 32))=0
 ·rw [au h0,au h0]
 ·rw [ak h0,ak h0];exact b h0
def aY.inPlace (h:aY base V N0 E) {b:Nat} {data:aj} (M:b<64) (O:data.length=64) (P:32768≤bU V.C N0 b):
  Ok (dG V.C [(bU V.C N0 b%32768,data)]) V.C.length N0 E (wZ (bD V.C N0 E) b data)∧(wJ V.C (aH N0 E)→wJ (dG V.C [(bU V.C N0 b%32768,data)]) (aH N0 E))∧(dG V.C [(bU V.C N0 b%32768,data)]).length=V.C.length:=by
 have hs:=h.sound;have G:(⟨N0,0,[]⟩:bI) ∈ aH N0 E:=by simp [aH]
 obtain ⟨n0,en⟩:=adQ (show bU V.C N0 b≠0 by omega);have I:fD V.C (aH N0 E) (nm V.C N0 (b / 32)%32768):=⟨_,G,b / 32,om,n0,rfl⟩;have o:bU V.C N0 b=nm V.C (nm V.C N0 (b / 32)%32768) (b%32):=en;have l:oU V.C (aH N0 E) (bU V.C N0 b%32768):=⟨_,I,b%32,om,by rw [← o];omega,by rw [← o]⟩;have K:=hs.aG _ l;have Y:=h.file.most;have X:aQ V.C (bU V.C N0 b%32768)=1:=by rw [o];exact hs.BI _ I (b%32) om (by rw [← o];exact P)
 have Q:dN V.C (aH N0 E) (bU V.C N0 b%32768)=1:=by
  have:=hs.jI (bU V.C N0 b%32768) om
  have:=SE l
  omega
 have R:dG V.C [(bU V.C N0 b%32768,data)]=iV V.C (bU V.C N0 b%32768,data):=rfl;have hlen:(iV V.C (bU V.C N0 b%32768,data)).length=V.C.length:=by rw [LC];simp only;omega
 have u: ∀ t,cl (iV V.C (bU V.C N0 b%32768,data)) t=if bU V.C N0 b%32768=t then data else cl V.C t:=fun t=>by
  by_cases y:t<V.C.length
  ·rw [← ny (by rw [hlen];exact y),zQ,ny y]
  ·rw [D7 om,D7 om,ak om]
 have A:Shape V.C (iV V.C (bU V.C N0 b%32768,data)) (aH N0 E):=Shape.of_same (fun r hr=>by rw [u,ak (fun e=>hs.fb _ ⟨r,hr,e.symm⟩ l)]) (fun s f=>by rw [u,ak (fun e=>hs.sb _ (by rw [e];exact f) l)]);have p: ∀ t,(nX (aH N0 E) t∨fD V.C (aH N0 E) t)→ ∀ q,nm (iV V.C (bU V.C N0 b%32768,data)) t q=nm V.C t q:=fun t y q=>by
  unfold nm;rw [u,ak];intro e;rcases y with F | F
  ·exact hs.fb _ F (by rw [← e];exact l)
  ·exact hs.sb _ F (by rw [← e];exact l)
 have a: ∀ m,m<256→aQ (iV V.C (bU V.C N0 b%32768,data)) m=aQ V.C m:=fun m hm=>by
  unfold aQ;rw [u,ak om]
 have J:bg (iV V.C (bU V.C N0 b%32768,data)) V.C.length=iV V.C (bU V.C N0 b%32768,data):=sG hlen;have S:dH (iV V.C (bU V.C N0 b%32768,data)) (aH N0 E):=by
  refine hs.shape A om om (fun n hn=>by rw [a n hn];exact hs.jI n hn) (fun n hn=>by rw [a n hn];exact hs.top n hn) (fun n hn Z=>by rw [a n hn];exact hs.none n hn om) (fun r hr j hj hm=> ?_) (fun s f q v hm=> ?_)
  ·rw [p _ (aA ⟨r,hr,rfl⟩)] at hm ⊢
   have:=hs.Ad (aA ⟨r,hr,rfl⟩) j om om
   rw [a _ om];exact hs.Dl r hr j hj hm
  ·rw [p _ (ay f)] at hm ⊢
   have:=hs.Ad (ay f) q v om
   rw [a _ om];exact hs.BI s f q v hm
 rw [R];refine ⟨⟨?_,by rw [J];exact S,?_⟩,fun w=> ?_,hlen⟩
 ·exact h.file.jr [(bU V.C N0 b%32768,data)] (fun x w=>by rw [iP.1 w];exact ⟨K.2,by simp only;omega,by simp only;omega,O⟩)
 ·rw [J];refine acn hs fun r hr=> ?_;have L: ∀ c,c<64→bU (iV V.C (bU V.C N0 b%32768,data)) r.N c=bU V.C r.N c:=fun c hc=>by
   exact atc (p r.N (aA ⟨r,hr,rfl⟩) (c / 32)) (fun h0=>p _ (ay ⟨r,hr,c / 32,om,h0,rfl⟩) (c%32))
  have key: ∀ c,c<64→uw (iV V.C (bU V.C N0 b%32768,data)) r.N c=if r.N=N0∧c=b then data else uw V.C r.N c:=by
   intro c hc;rw [MQ,MQ,L c hc]
   by_cases g:bU V.C r.N c=0
   ·rw [au g,au g,ak];rintro ⟨i,d⟩;rw [i,d] at g;omega
   ·rw [ak g,ak g,u]
    by_cases i:bU V.C N0 b%32768=bU V.C r.N c%32768
    ·obtain ⟨U,em⟩:=adQ g;have H:bU V.C r.N c=nm V.C (nm V.C r.N (c / 32)%32768) (c%32):=em
     have:=agT Q G hr (show b / 32<2 by omega) (show c / 32<2 by omega) (show b%32<32 by omega) (show c%32<32 by omega) n0 U (by rw [← o];omega) (by rw [← H];exact g) (by rw [← o]) (by rw [← H];exact i.symm)
     rw [au i,au ⟨this.1,om⟩]
    ·rw [ak i,ak];rintro ⟨d,W⟩;rw [d,W] at i;exact i rfl
  apply uY;intro c
  by_cases hc:c<64
  ·rw [EY _ _ _ hc,key c hc]
   by_cases e:r.N=N0
   ·rw [au e,uI]
    by_cases d:b=c
    ·rw [au ⟨e,d.symm⟩,au d,au (by rw [Gv];exact M)]
    ·rw [ak (fun z=>d z.2.symm),ak d,EY _ _ _ hc]
   ·rw [ak e,ak (fun z=>e z.1),EY _ _ _ hc]
  ·rw [eG (by rw [Gv];omega),eG];split
   ·rw [rV,Gv];omega
   ·rw [Gv];omega
 ·refine ⟨fun n hn=>by rw [a n hn,A.use];exact w.eq n hn,fun r hr j hj h0 k=> ?_,fun s f q v h0 k=> ?_⟩
  ·rw [p _ (aA ⟨r,hr,rfl⟩)] at h0 k ⊢
   have:=hs.Ad (aA ⟨r,hr,rfl⟩) j om h0
   rw [a _ om] at k;exact w.Vk r hr j hj h0 k
  ·have B:=(A.rZ s).1 f;rw [p _ (ay B)] at h0 k ⊢
   have:=hs.Ad (ay B) q v h0
   rw [a _ om] at k;exact w.Vl s B q v h0 k
end
end Go.Proofs.YtknjjjenklfeoaaGreatDoor
