import Derived.Test.YtknjjjenklfeoaaGreatDoorO22
set_option maxHeartbeats 8000000
set_option maxRecDepth 100000
set_option linter.all false
namespace Go.Proofs.YtknjjjenklfeoaaGreatDoor
open Go.RowKit
def lS (C:List aj) (x:Nat × aj):List aj:=(oW C (x.1+1)).set x.1 x.2
def dV (C:List aj) (ps:List (Nat × aj)):List aj:=ps.foldl lS C
theorem Og (C:List aj) (x:Nat × aj) (ps:List (Nat × aj)):dV C (x :: ps)=dV (lS C x) ps:=rfl
theorem Kw (C:List aj) (x:Nat × aj):(lS C x).length=max C.length (x.1+1):=by simp only [lS,rG,Dj]
theorem au4 (C:List aj) (n t:Nat):vw (oW C n) t=vw C t:=by
 unfold vw;rw [Dj]
 by_cases h:t<C.length
 ·rw [au om,au h,afF _ _ h]
 ·rw [ak h]
  by_cases h2:t<max C.length n
  ·rw [au h2];unfold cl oW;rw [aK,nP om,qU,au om];rfl
  ·rw [ak h2]
theorem yS (C:List aj) (x:Nat × aj) (t:Nat):vw (lS C x) t=if x.1=t then x.2 else vw C t:=by
 have hl:=Kw C x
 by_cases e:x.1=t
 ·rw [au e,lV om];unfold lS;rw [VR _ _ _ _ (by rw [Dj];omega),au e]
 ·rw [ak e,← au4 C (x.1+1) t];unfold vw lS;rw [rG]
  by_cases h:t<(oW C (x.1+1)).length
  ·rw [au h,au h,VR _ _ _ _ (by rw [Dj];omega),ak e]
  ·rw [ak h,ak h]
theorem EH (t:Nat): ∀ (ps:List (Nat × aj)) (C:List aj),(∀ x ∈ ps,x.1≠t)→vw (dV C ps) t=vw C t
 | [],_,_=>rfl
 | x :: r,C,h=>by rw [Og,EH t r _ (fun y hy=>h y (by simp [hy])),yS,ak (h x sm)]
theorem YX (t:Nat): ∀ (ps:List (Nat × aj)) (C:List aj),vw (dV C ps) t=vw C t∨ ∃ x ∈ ps,x.1=t∧vw (dV C ps) t=x.2
 | [],_=>aA rfl
 | x :: r,C=>by
  rw [Og];rcases YX t r (lS C x) with h | ⟨y,hy,h1,h2⟩
  ·rw [yS] at h
   by_cases e:x.1=t
   ·rw [au e] at h;exact ay ⟨x,sm,e,h⟩
   ·rw [ak e] at h;exact aA h
  ·exact ay ⟨y,by simp [hy],h1,h2⟩
theorem ak3 (new:Nat→aj) (t:Nat) (ps:List (Nat × aj)) (C:List aj) (hn: ∀ x ∈ ps,x.2=new x.1) (hx: ∃ x ∈ ps,x.1=t):vw (dV C ps) t=new t:=by
 induction ps generalizing C with
 | nil=>obtain ⟨x,hx,_⟩:=hx;simp at hx
 | cons x r ih=>
  rw [Og]
  by_cases hr: ∃ y ∈ r,y.1=t
  ·exact ih _ (fun y hy=>hn y (by simp [hy])) hr
  ·rw [EH t r _ (fun y hy e=>hr ⟨y,hy,e⟩),yS];obtain ⟨y,hy,e⟩:=hx;rcases dD.1 hy with z | z
   ·rw [← z,au e,hn y (by simp [z]),e]
   ·exact absurd ⟨y,z,e⟩ hr
theorem Mc: ∀ (ps:List (Nat × aj)) (C:List aj) (T:Nat),C.length≤T→(∀ x ∈ ps,x.1<T)→C.length≤(dV C ps).length∧(dV C ps).length≤T
 | [],C,T,h,_=>⟨aP _,h⟩
 | x :: r,C,T,h,hx=>by
  have h1:=Kw C x;have h2:=hx x sm
  have:=Mc r (lS C x) T om (fun y hy=>hx y (by simp [hy]))
  rw [Og];omega
theorem QD: ∀ (ps:List (Nat × aj)) (C:List aj),(∀ c ∈ C,c.length=64)→(∀ x ∈ ps,x.2.length=64)→ ∀ c ∈ dV C ps,c.length=64
 | [],_,h,_=>h
 | x :: r,C,h,hx=>by
  rw [Og];refine QD r _ (fun c hc=> ?_) (fun y hy=>hx y (by simp [hy]));rcases MR hc with y | y
  ·exact aoO h _ c y
  ·rw [y];exact hx x sm
def o7 (V:aB) (ps:List (Nat × aj)):aB:=ps.foldl (fun V x=>bT V x.1 x.2) V
def jR (V:aB) (ps:List (Nat × aj)):aB:=fJ (o7 V ps)
theorem Md (ps:List (Nat × aj)): ∀ V:aB,(o7 V ps).C=dV V.C ps:=by
 induction ps with
 | nil=>intro V;rfl
 | cons x r ih=>
  intro V;show (o7 (bT V x.1 x.2) r).C=dV (lS V.C x) r;rw [ih,Ul];rfl
theorem y5 (V:aB) (ps:List (Nat × aj)):(jR V ps).C=dV V.C ps:=by unfold jR;rw [zK,Md]
theorem ar7 {V V1:aB} (h:iF V V1) (ps:List (Nat × aj)):iF V (o7 V1 ps):=by
 unfold o7
 induction ps generalizing V1 with
 | nil=>exact h
 | cons x r ih=>exact ih (h.put x.1 x.2)
theorem QE {V V1:aB} (h:iF V V1) (ps:List (Nat × aj)):iF V (jR V1 ps):=(ar7 h ps).flush
section
variable {C:List aj} {T N0:Nat} {E:List aX}
theorem kM.o7 (h:kM C T N0 E) (ps:List (Nat × aj)) (hp: ∀ x ∈ ps,x.1<T∧x.1≠0∧x.1≠5∧x.2.length=64):kM (dV C ps) T N0 E:=by
 have hl:=Mc ps C T h.le (fun x hx=>(hp x hx).1);have h6:=h.qj;refine ⟨QD ps C h.lens (fun x hx=>(hp x hx).2.2.2),om,hl.2,h.seven,h.most,h.n0,?_,?_,h.jT⟩
 ·have:=EH 0 ps C (fun x hx=>(hp x hx).2.1)
  rw [lV om,lV om] at this;rw [this];exact h.head
 ·have:=EH 5 ps C (fun x hx=>(hp x hx).2.2.1)
  rw [lV om,lV om] at this;rw [this];exact h.list
structure Ok (C:List aj) (T N0:Nat) (E:List aX) (D:dY):Prop where
 file:kM C T N0 E
 sound:cZ (aZ C T) (aH N0 E)
 holds:bU (aZ C T) N0 E=D
theorem Nu (C:List aj) (T n:Nat) (hT:5≤T) (hn:n<256):aS (aZ C T) n=aI (vw C (1+n / 64)) (n%64):=by
 unfold aS;rw [Gs _ _ _ om]
theorem FI (C:List aj) (T t k:Nat) (ht:t<T):nm (aZ C T) t k=num (vw C t) (2*k):=by
 unfold nm;rw [Gs _ _ _ ht]
theorem aaR {L L':List aj} {N0:Nat} {E:List aX} (h: ∀ r ∈ aH N0 E,dZ L' r.N=dZ L r.N):bU L' N0 E=bU L N0 E:=by
 unfold bU;have h0:=h ⟨N0,0,[]⟩ (by simp [aH]);simp only at h0;rw [h0]
 congr 1
 refine Ii fun e he=> ?_
 have:=h (kV e) (Cj.2 (ay ⟨e,he,rfl⟩))
 have:dZ L' e.first=dZ L e.first:=this
 rw [this]
theorem Ok.change {D:dY} (h:Ok C T N0 E D) (ps:List (Nat × aj)) (hp: ∀ x ∈ ps,x.1<T∧x.1≠0∧x.1≠5∧x.2.length=64)
  (hblk: ∀ n,oK (aZ C T) (aH N0 E) n→ ∀ x ∈ ps,x.1≠n) (hs:Shape (aZ C T) (aZ (dV C ps) T) (aH N0 E))
  (jy: ∀ n,n<256→gX n+dM (aZ C T) (aH N0 E) n≤aS (aZ (dV C ps) T) n) (top: ∀ n,n<256→aS (aZ (dV C ps) T) n<255) (none: ∀ n,n<256→T≤n→aS (aZ (dV C ps) T) n=0)
  (m1: ∀ r ∈ aH N0 E,∀ j,j<2→32768≤nm (aZ (dV C ps) T) r.N j→aS (aZ (dV C ps) T) (nm (aZ (dV C ps) T) r.N j%32768)=1)
  (m2: ∀ s,fB (aZ C T) (aH N0 E) s→ ∀ k,k<32→32768≤nm (aZ (dV C ps) T) s k→aS (aZ (dV C ps) T) (nm (aZ (dV C ps) T) s k%32768)=1):Ok (dV C ps) T N0 E D:=by
 refine ⟨h.file.o7 ps hp,h.sound.shape hs (by rw [jV,jV];exact aP _) (by rw [jV];exact h.file.most) jy top (by rw [jV];exact none) m1 m2,?_⟩;rw [← h.holds];refine aaR fun r hr=>hs.content (fun n hn=> ?_) hr;have hlt:=(h.sound.aF n hn).2;rw [jV] at hlt;rw [Gs _ _ _ hlt,Gs _ _ _ hlt,EH n ps C (hblk n hn)]
theorem Ok.counts {D:dY} (h:Ok C T N0 E D) (k:List UInt8) (hk:k.length=256) (Un:Nat→Prop)
  (hun: ∀ n,Un n→n<T∧6≤n∧ ¬ ng (aH N0 E) n∧ ¬ fB (aZ C T) (aH N0 E) n∧ ¬ oK (aZ C T) (aH N0 E) n)
  (jy: ∀ n,n<256→gX n+dM (aZ C T) (aH N0 E) n≤aI k n) (top: ∀ n,n<256→aI k n<255) (none: ∀ n,n<256→T≤n→aI k n=0)
  (m1: ∀ r ∈ aH N0 E,∀ j,j<2→32768≤nm (aZ C T) r.N j→aI k (nm (aZ C T) r.N j%32768)=1)
  (m2: ∀ s,fB (aZ C T) (aH N0 E) s→ ∀ q,q<32→32768≤nm (aZ C T) s q→aI k (nm (aZ C T) s q%32768)=1)
  (ps:List (Nat × aj)) (hp: ∀ x ∈ ps,(∃ p,p<4∧x=(1+p,partOf k p))∨(Un x.1∧x.2.length=64)):Ok (dV C ps) T N0 E D:=by
 have h7:=h.file.seven;have gG:=h.sound;have key: ∀ t,6≤t→ ¬ Un t→vw (dV C ps) t=vw C t:=by
  intro t ht hu;refine EH t ps C fun x hx e=> ?_;rcases hp x hx with ⟨p,hp4,rfl⟩ | ⟨hU,_⟩
  ·simp only at e;omega
  ·rw [e] at hU;exact hu hU
 have hcount: ∀ n,n<256→aS (aZ (dV C ps) T) n=aS (aZ C T) n∨aS (aZ (dV C ps) T) n=aI k n:=by
  intro n hn;rw [Nu _ _ _ om hn,Nu _ _ _ om hn];rcases YX (1+n / 64) ps C with e | ⟨x,hx,e1,e2⟩
  ·rw [e];exact aA rfl
  ·rcases hp x hx with ⟨p,hp4,rfl⟩ | ⟨hU,_⟩
   ·simp only at e1 e2;rw [e2,show p=n / 64 by omega,afz];exact ay rfl
   ·have:=(hun _ hU).2.1;omega
 have ahv: ∀ r ∈ aH N0 E,∀ j,nm (aZ (dV C ps) T) r.N j=nm (aZ C T) r.N j:=by
  intro r hr j;have hb:=gG.fst r hr;rw [jV] at hb;rw [FI _ _ _ _ hb.2,FI _ _ _ _ hb.2,key _ hb.1 (fun hu=>(hun _ hu).2.2.1 ⟨r,hr,rfl⟩)]
 have nD: ∀ s,fB (aZ C T) (aH N0 E) s→ ∀ q,nm (aZ (dV C ps) T) s q=nm (aZ C T) s q:=by
  intro s hs q;have hb:=gG.sec s hs;rw [jV] at hb;rw [FI _ _ _ _ hb.2,FI _ _ _ _ hb.2,key _ hb.1 (fun hu=>(hun _ hu).2.2.2.1 hs)]
 refine h.change ps (fun x hx=> ?_) (fun n hn x hx e=> ?_) ⟨fun r hr j _=>by rw [ahv r hr j];exact kN.refl _,fun s hs q _=>by rw [nD s hs q];exact kN.refl _⟩ (fun n hn=> ?_) (fun n hn=> ?_) (fun n hn hT=> ?_) (fun r hr j hj hm=> ?_) (fun s hs q hq hm=> ?_)
 ·rcases hp x hx with ⟨p,hp4,rfl⟩ | ⟨hU,h64⟩
  ·exact ⟨by simp only;omega,by simp only;omega,by simp only;omega,acv k p hk om⟩
  ·have:=hun _ hU;exact ⟨this.1,om,om,h64⟩
 ·have hb:=gG.aF n hn;rcases hp x hx with ⟨p,hp4,rfl⟩ | ⟨hU,_⟩
  ·simp only at e;omega
  ·rw [e] at hU;exact (hun _ hU).2.2.2.2 hn
 ·rcases hcount n hn with e | e
  ·rw [e];exact gG.jy n hn
  ·rw [e];exact jy n hn
 ·rcases hcount n hn with e | e
  ·rw [e];exact gG.top n hn
  ·rw [e];exact top n hn
 ·rcases hcount n hn with e | e
  ·rw [e];exact gG.none n hn (by rw [jV];exact hT)
  ·rw [e];exact none n hn hT
 ·rw [ahv r hr j] at hm ⊢;have hb:=gG.sec _ ⟨r,hr,j,hj,om,rfl⟩;have hT:=h.file.most;rw [jV] at hb;rcases hcount (nm (aZ C T) r.N j%32768) om with e | e
  ·rw [e];exact gG.BU r hr j hj hm
  ·rw [e];exact m1 r hr j hj hm
 ·rw [nD s hs q] at hm ⊢;have hb:=gG.aF _ ⟨s,hs,q,hq,om,rfl⟩;have hT:=h.file.most;rw [jV] at hb;rcases hcount (nm (aZ C T) s q%32768) om with e | e
  ·rw [e];exact gG.AB s hs q hq hm
  ·rw [e];exact m2 s hs q hq hm
theorem Ok.marks {D:dY} (h:Ok C T N0 E D) (ps:List (Nat × aj))
  (hp: ∀ x ∈ ps,(ng (aH N0 E) x.1∨fB (aZ C T) (aH N0 E) x.1)∧x.2.length=64∧(∀ q,q<32→kN (num x.2 (2*q)) (nm (aZ C T) x.1 q))∧
   ∀ q,q<32→32768≤num x.2 (2*q)→aS (aZ C T) (nm (aZ C T) x.1 q%32768)=1):Ok (dV C ps) T N0 E D:=by
 have h7:=h.file.seven;have gG:=h.sound;have hlo: ∀ x ∈ ps,6≤x.1∧x.1<T:=by
  intro x hx;rcases (hp x hx).1 with ⟨r,hr,e⟩ | hs
  ·have:=gG.fst r hr
   rw [jV] at this;omega
  ·have:=gG.sec _ hs
   rw [jV] at this;exact this
 have hcount: ∀ n,n<256→aS (aZ (dV C ps) T) n=aS (aZ C T) n:=by
  intro n hn;rw [Nu _ _ _ om hn,Nu _ _ _ om hn,EH _ ps C (fun x hx e=>by have:=hlo x hx;omega)]
 have hnum: ∀ t,t<T→(∀ q,q<32→nm (aZ (dV C ps) T) t q=nm (aZ C T) t q)∨((∀ q,q<32→kN (nm (aZ (dV C ps) T) t q) (nm (aZ C T) t q))∧ ∀ q,q<32→32768≤nm (aZ (dV C ps) T) t q→aS (aZ C T) (nm (aZ C T) t q%32768)=1):=by
  intro t ht;rcases YX t ps C with e | ⟨x,hx,e1,e2⟩
  ·exact aA fun q _=>by rw [FI _ _ _ _ ht,FI _ _ _ _ ht,e]
  ·obtain ⟨_,_,h3,h4⟩:=hp x hx;rw [e1] at h3 h4;refine ay ⟨fun q hq=> ?_,fun q hq hm=> ?_⟩
   ·rw [FI (dV C ps) _ _ _ ht,e2];exact h3 q hq
   ·rw [FI (dV C ps) _ _ _ ht,e2] at hm;exact h4 q hq hm
 have hsame: ∀ t,t<T→ ∀ q,q<32→kN (nm (aZ (dV C ps) T) t q) (nm (aZ C T) t q):=by
  intro t ht q hq;rcases hnum t ht with e | e
  ·rw [e q hq];exact kN.refl _
  ·exact e.1 q hq
 have hT:=h.file.most;refine h.change ps (fun x hx=> ?_) (fun n hn x hx e=> ?_) ⟨fun r hr j hj=> ?_,fun s hs q hq=> ?_⟩ (fun n hn=>by rw [hcount n hn];exact gG.jy n hn) (fun n hn=>by rw [hcount n hn];exact gG.top n hn) (fun n hn hT=>by rw [hcount n hn];exact gG.none n hn (by rw [jV];exact hT)) (fun r hr j hj hm=> ?_) (fun s hs q hq hm=> ?_)
 ·have:=hlo x hx
  exact ⟨this.2,om,om,(hp x hx).2.1⟩
 ·rcases (hp x hx).1 with hf | hs
  ·rw [e] at hf;exact gG.fb n hf hn
  ·rw [e] at hs;exact gG.sb n hs hn
 ·have hb:=gG.fst r hr;rw [jV] at hb;exact hsame _ hb.2 j hj
 ·have hb:=gG.sec s hs;rw [jV] at hb;exact hsame _ hb.2 q hq
 ·have hb:=gG.fst r hr;rw [jV] at hb;have hsm:=hsame _ hb.2 j om;have h0:nm (aZ C T) r.N j≠0:=fun e=>by have:=hsm.1.2 e;omega
  have hb2:=gG.sec _ ⟨r,hr,j,hj,h0,rfl⟩;rw [jV] at hb2;rw [hsm.2,hcount _ om];rcases hnum _ hb.2 with e | e
  ·rw [e j om] at hm;exact gG.BU r hr j hj hm
  ·exact e.2 j om hm
 ·have hb:=gG.sec s hs;rw [jV] at hb;have hsm:=hsame _ hb.2 q hq;have h0:nm (aZ C T) s q≠0:=fun e=>by have:=hsm.1.2 e;omega
  have hb2:=gG.aF _ ⟨s,hs,q,hq,h0,rfl⟩;rw [jV] at hb2;rw [hsm.2,hcount _ om];rcases hnum _ hb.2 with e | e
  ·rw [e q hq] at hm;exact gG.AB s hs q hq hm
  ·exact e.2 q hq hm
theorem Ok.longer {D:dY} (h:Ok C T N0 E D) (T':Nat) (hT:T≤T') (hT':T'≤256):Ok (dV C [(0,fE T' N0)]) T' N0 E D:=by
 have h6:=h.file.qj;have h7:=h.file.seven;have hle:=h.file.le;have gG:=h.sound;have hF:dV C [(0,fE T' N0)]=lS C (0,fE T' N0):=rfl;have hv:=yS C (0,fE T' N0);have hlen:=Kw C (0,fE T' N0);rw [hF];have hvw: ∀ t,t≠0→vw (lS C (0,fE T' N0)) t=vw C t:=fun t ht=>by rw [hv,ak (fun e=>ht e.symm)]
 have NQ:kM (lS C (0,fE T' N0)) T' N0 E:=by
  refine ⟨QD [(0,fE T' N0)] C h.file.lens (fun x hx=>by rw [jw.1 hx];exact II _ _),om,by simp only at hlen;omega,om,hT',h.file.n0,?_,?_,h.file.jT⟩
  ·have:=hv 0
   rw [au rfl,lV om] at this;exact this
  ·have:=hvw 5 om
   rw [lV om,lV om] at this;rw [this];exact h.file.list
 have hnm: ∀ t,6≤t→t<T→ ∀ q,nm (aZ (lS C (0,fE T' N0)) T') t q=nm (aZ C T) t q:=fun t h1 h2 q=>by
  rw [FI _ _ _ _ om,FI _ _ _ _ h2,hvw t om]
 have hcount: ∀ n,n<256→aS (aZ (lS C (0,fE T' N0)) T') n=aS (aZ C T) n:=fun n hn=>by
  rw [Nu _ _ _ om hn,Nu _ _ _ om hn,hvw _ om]
 have hshape:Shape (aZ C T) (aZ (lS C (0,fE T' N0)) T') (aH N0 E):=by
  refine ⟨fun r hr j _=> ?_,fun s hs q _=> ?_⟩
  ·have hb:=gG.fst r hr;rw [jV] at hb;rw [hnm _ hb.1 hb.2];exact kN.refl _
  ·have hb:=gG.sec s hs;rw [jV] at hb;rw [hnm _ hb.1 hb.2];exact kN.refl _
 refine ⟨NQ,gG.shape hshape (by rw [jV,jV];exact hT) (by rw [jV];exact hT') (fun n hn=>by rw [hcount n hn];exact gG.jy n hn) (fun n hn=>by rw [hcount n hn];exact gG.top n hn) (fun n hn hl=>by rw [jV] at hl;rw [hcount n hn];exact gG.none n hn (by rw [jV];omega)) (fun r hr j hj hm=> ?_) (fun s hs q hq hm=> ?_),?_⟩
 ·have hb:=gG.fst r hr;rw [jV] at hb;rw [hnm _ hb.1 hb.2] at hm ⊢;have hb2:=gG.sec _ ⟨r,hr,j,hj,om,rfl⟩;rw [jV] at hb2;rw [hcount _ om];exact gG.BU r hr j hj hm
 ·have hb:=gG.sec s hs;rw [jV] at hb;rw [hnm _ hb.1 hb.2] at hm ⊢;have hb2:=gG.aF _ ⟨s,hs,q,hq,om,rfl⟩;rw [jV] at hb2;rw [hcount _ om];exact gG.AB s hs q hq hm
 ·rw [← h.holds];refine aaR fun r hr=>hshape.content (fun n hn=> ?_) hr;have hb:=gG.aF n hn;rw [jV] at hb;rw [Gs _ _ _ om,Gs _ _ _ hb.2,hvw n om]
end
theorem aiK (k:List UInt8) (n m:Nat) (hn:n<k.length) (h1:1≤aI k n):aI (G9 k n) m=if n=m then aI k n - 1 else aI k m:=by
 have hlt:=tV k n;unfold G9;rw [Aj _ _ _ _ hn]
 by_cases e:n=m
 ·rw [au e,au e,MN];omega
 ·rw [ak e,ak e]
theorem aiL: ∀ (us:List Nat) (k:List UInt8) (m:Nat),(∀ u ∈ us,u<k.length)→(∀ u,us.count u≤aI k u)→aI (minus k us) m+us.count m=aI k m
 | [],k,m,_,_=>by simp [minus]
 | a :: r,k,m,hl,hc=>by
  have ha:=hl a sm;have h1:1≤aI k a:=by have:=hc a;rw [DI] at this;simp at this;omega
  have ih:=aiL r (G9 k a) m (fun u hu=>by simp only [G9,rG];exact hl u (by simp [hu])) (fun u=>by
   have:=hc u
   rw [DI] at this;rw [aiK k a u ha h1]
   by_cases e:a=u
   ·subst e;rw [au rfl];simp at this;omega
   ·rw [ak e];simp [e] at this;omega)
  show aI (minus (G9 k a) r) m+_=_;rw [aiK k a m ha h1] at ih;rw [DI]
  by_cases e:a=m
  ·subst e;rw [au rfl] at ih;simp;omega
  ·rw [ak e] at ih;simp [e];omega
def jo (k:List UInt8):List (Nat × aj):=[(1,partOf k 0),(2,partOf k 1),(3,partOf k 2),(4,partOf k 3)]
theorem ajz (V:aB) (k:List UInt8):kU V k 4=o7 V (jo k):=rfl
theorem JL {k:List UInt8} {x:Nat × aj} (h:x ∈ jo k): ∃ p,p<4∧x=(1+p,partOf k p):=by
 simp only [jo,dD,jM,jO] at h;rcases h with rfl | rfl | rfl | rfl
 ·exact ⟨0,om,rfl⟩
 ·exact ⟨1,om,rfl⟩
 ·exact ⟨2,om,rfl⟩
 ·exact ⟨3,om,rfl⟩
theorem adL (C:List aj) (k:List UInt8) (n:Nat) (hn:n<256) (qs:List (Nat × aj)) (hq: ∀ x ∈ qs,5≤x.1):aI (vw (dV C (jo k++qs)) (1+n / 64)) (n%64)=aI k n:=by
 have e:dV C (jo k++qs)=dV (dV C (jo k)) qs:=by simp [dV]
 rw [e,EH _ qs _ (fun x hx=>by have:=hq x hx;omega)];have hp:n / 64=0∨n / 64=1∨n / 64=2∨n / 64=3:=om;have hb:=afz k n;show aI (vw (lS (lS (lS (lS C (1,partOf k 0)) (2,partOf k 1)) (3,partOf k 2)) (4,partOf k 3)) (1+n / 64)) (n%64)=_;rw [yS,yS,yS,yS];rcases hp with h | h | h | h <;> rw [h] at hb ⊢ <;> simp only [Nat.reduceAdd,Nat.reduceEqDiff,wH,yc] <;> exact hb
section
variable {C:List aj} {T N0:Nat} {E:List aX} {D:dY}
theorem afE (ch:Nat→Nat) (c:aj) (hch: ∀ q,q<32→num c (2*q)≠0→ch (num c (2*q))<65536) (q:Nat) (hq:q<32):num (bytesOf (vY ch (numsOf c))) (2*q)=if num c (2*q)=0 then 0 else ch (num c (2*q)):=by
 rw [XE _ _ q hq,JJ,uT _ _ hq];intro i;rw [JJ]
 by_cases hi:i<32
 ·rw [uT _ _ hi];split
  ·decide
  ·rename_i h;exact hch i hi h
 ·rw [aK,eu (by rw [numsOf_length];omega)]
  simp
theorem ap6 (k:List UInt8) (n:Nat) (h:n<65536):pI k n<65536:=by unfold pI;split <;> omega
theorem abO (k:List UInt8) (n:Nat):pI k n%32768=n%32768:=by unfold pI;split <;> omega
theorem abP (k:List UInt8) (n:Nat) (h0:n≠0):pI k n≠0:=by unfold pI;split <;> omega
theorem ap7 (k:List UInt8) (n:Nat):pI k (pI k n)=pI k n:=by
 by_cases e:aI k (n%32768)=1
 ·have e1:pI k n=n%32768+32768:=by unfold pI;rw [au e]
  have e2:(n%32768+32768)%32768=n%32768:=om;rw [e1];unfold pI;rw [e2,au e]
 ·have e1:pI k n=n:=by unfold pI;rw [ak e]
  rw [e1,e1]
def wu (k:List UInt8) (c:aj):aj:=bytesOf (vY (pI k) (numsOf c))
theorem TV (k:List UInt8) (c:aj) (q:Nat) (hq:q<32):num (wu k c) (2*q)=if num c (2*q)=0 then 0 else pI k (num c (2*q)):=
 afE _ c (fun _ _ _=>ap6 k _ (iD _ _)) q hq
theorem abQ (k:List UInt8) (c:aj):(wu k c).length=64:=bytesOf_length _
theorem aiq (k:List UInt8) (c:aj) (q:Nat) (hq:q<32):kN (num (wu k c) (2*q)) (num c (2*q)):=by
 rw [TV k c q hq]
 by_cases e:num c (2*q)=0
 ·rw [au e,e];exact kN.refl _
 ·rw [ak e];exact ⟨⟨fun x=>absurd x (abP k _ e),fun x=>absurd x e⟩,abO k _⟩
theorem ap9 (k:List UInt8) (c:aj):wu k (wu k c)=wu k c:=by
 refine anK (abQ k _) (abQ k _) fun q hq=> ?_;rw [TV k _ q hq,TV k c q hq]
 by_cases e:num c (2*q)=0
 ·rw [au e];rfl
 ·rw [ak e,ak (abP k _ e),ap7 k _]
theorem aup {T1 T2:List Nat} (hl:T1.length=T2.length) (h: ∀ i,kN (T1.getD i 0) (T2.getD i 0)):dL T1=dL T2:=by
 induction T1 generalizing T2 with
 | nil=>
  cases T2 with
  | nil=>rfl
  | cons b s=>simp at hl
 | cons a r ih=>
  cases T2 with
  | nil=>simp at hl
  | cons b s=>
   have h0:=h 0;simp only [DF] at h0;have ih':=ih (T2:=s) (by simpa using hl) (fun i=>by have:=h (i+1);simpa using this);unfold dL at ih' ⊢;simp only [Zl]
   by_cases e:a=0
   ·rw [ak (by simp [e]),ak (by simp [h0.1.1 e])];exact ih'
   ·have eb:b≠0:=fun x=>e (h0.1.2 x);rw [au (by simpa using e),au (by simpa using eb),jC,jC,ih',h0.2]
theorem ap8 (k:List UInt8) (c:aj):dL (numsOf (wu k c))=dL (numsOf c):=by
 refine aup (by rw [numsOf_length,numsOf_length]) fun i=> ?_
 by_cases hi:i<32
 ·rw [uT _ _ hi,uT _ _ hi];exact aiq k _ i hi
 ·rw [aK,eu (by rw [numsOf_length];omega),aK,eu (by rw [numsOf_length];omega)];exact kN.refl _
theorem ajQ (ch:Nat→Nat) (V:aB) (t:Nat) (r:List Nat):qY ch V (t :: r)=qY ch (zi ch V t) r:=rfl
theorem acF (V:aB) (x:Nat × aj) (r:List (Nat × aj)):o7 V (x :: r)=o7 (bT V x.1 x.2) r:=rfl
theorem XW (V:aB) (a b:List (Nat × aj)):o7 V (a++b)=o7 (o7 V a) b:=by simp [o7]
theorem aqa (k:List UInt8) (V:aB) (f:Nat) (r:List Nat):wz k V (f :: r)=wz k (qY (pI k) V (sN V f)) r:=rfl
theorem asB (k:List UInt8) (V:aB) (t:Nat):zi (pI k) V t=bT V t (wu k (cl V.C t)):=rfl
theorem asD (k:List UInt8) (C0:List aj) (ts:List Nat): ∀ V:aB,(∀ t ∈ ts,t<V.C.length)→(∀ t,t<V.C.length→cl V.C t=cl C0 t∨cl V.C t=wu k (cl C0 t))→
  qY (pI k) V ts=o7 V (ts.map fun t=>(t,wu k (cl C0 t))):=by
 induction ts with
 | nil=>intro V _ _;rfl
 | cons t r ih=>
  intro V ht hC;have htl:=ht t sm;have e:zi (pI k) V t=bT V t (wu k (cl C0 t)):=by
   rw [asB];rcases hC t htl with x | x
   ·rw [x]
   ·rw [x,ap9]
  rw [ajQ,e,jC,acF];dsimp only;have hlen:=yN V t (wu k (cl C0 t));refine ih (bT V t (wu k (cl C0 t))) (fun x hx=>by rw [hlen];have:=ht x (by simp [hx]);omega) (fun x hx=> ?_)
  by_cases ex:t=x
  ·subst ex;rw [aav];exact ay rfl
  ·rw [SE _ _ _ _ (by rw [hlen] at hx;omega) ex];exact hC x (by rw [hlen] at hx;omega)
def BR (k:List UInt8) (C0:List aj) (fs:List Nat):List (Nat × aj):=fs.flatMap fun f=>(f :: dL (numsOf (cl C0 f))).map fun t=>(t,wu k (cl C0 t))
theorem aqe (k:List UInt8) (C0:List aj) (fs:List Nat): ∀ V:aB,V.C.length=C0.length→(∀ f ∈ fs,∀ t ∈ f :: dL (numsOf (cl C0 f)),t<C0.length)→(∀ t,t<V.C.length→cl V.C t=cl C0 t∨cl V.C t=wu k (cl C0 t))→
  wz k V fs=o7 V (BR k C0 fs):=by
 induction fs with
 | nil=>intro V _ _ _;rfl
 | cons f r ih=>
  intro V hl ht hC;have hf:=ht f sm f sm;have aot:sN V f=f :: dL (numsOf (cl C0 f)):=by
   unfold sN;rcases hC f om with x | x
   ·rw [x]
   ·rw [x,ap8]
  have e1:=asD k C0 (f :: dL (numsOf (cl C0 f))) V (fun t h=>by rw [hl];exact ht f sm t h) hC;rw [aqa,aot,e1];have e2:BR k C0 (f :: r)=((f :: dL (numsOf (cl C0 f))).map fun t=>(t,wu k (cl C0 t)))++BR k C0 r:=by unfold BR;rw [qA]
  rw [e2,XW];have hlen:(o7 V ((f :: dL (numsOf (cl C0 f))).map fun t=>(t,wu k (cl C0 t)))).C.length=C0.length:=by
   rw [Md]
   have:=Mc ((f :: dL (numsOf (cl C0 f))).map fun t=>(t,wu k (cl C0 t))) V.C C0.length om (fun x hx=>by
    obtain ⟨t,h1,rfl⟩:=gQ.1 hx;exact ht f sm t h1)
   omega
  refine ih _ hlen (fun g hg=>ht g (by simp [hg])) (fun t hT=> ?_);rw [hlen] at hT;rw [Md];have hv:=YX t ((f :: dL (numsOf (cl C0 f))).map fun t=>(t,wu k (cl C0 t))) V.C;have hlen2:=hlen;rw [Md] at hlen2;rw [lV om,lV om] at hv;rcases hv with x | ⟨x,hx,h1,h2⟩
  ·rw [x];exact hC t om
  ·obtain ⟨u,_,rfl⟩:=gQ.1 hx;simp only at h1 h2;rw [h1] at h2;exact ay h2
end
section
variable {V:aB} {T N0:Nat} {E:List aX} {D:dY}
theorem Ok.LX (_h:Ok V.C T N0 E D) (hT:V.C.length=T):aZ V.C T=V.C:=rP hT
theorem Xu {c:aj} {t:Nat} (h:t ∈ dL (numsOf c)): ∃ i,i<32∧num c (2*i)≠0∧num c (2*i)%32768=t:=by
 unfold dL at h;obtain ⟨n,hn,rfl⟩:=gQ.1 h;obtain ⟨h1,h2⟩:=U7.1 hn;obtain ⟨i,hi,rfl⟩:=List.mem_iff_getElem.1 h1;rw [numsOf_length] at hi;have e:(numsOf c)[i]'(by rw [numsOf_length];exact hi)=num c (2*i):=by simp [numsOf]
 rw [e] at h2 ⊢;exact ⟨i,hi,by simpa using h2,rfl⟩
theorem UJ {c:aj} {i:Nat} (hi:i<32) (h0:num c (2*i)≠0):num c (2*i)%32768 ∈ dL (numsOf c):=by
 unfold dL;refine gQ.2 ⟨num c (2*i),U7.2 ⟨?_,by simpa using h0⟩,rfl⟩;unfold numsOf;exact gQ.2 ⟨i,Jm.2 hi,rfl⟩
theorem YI {L:List aj} {rs:List bC} (h:cZ L rs) {f t:Nat} (hf:f ∈ rs.map (·.N)) (ht:t ∈ f :: dL (numsOf (cl L f))):ng rs t∨fB L rs t:=by
 obtain ⟨r,hr,rfl⟩:=gQ.1 hf;rcases dD.1 ht with e | e
 ·exact aA ⟨r,hr,e.symm⟩
 ·obtain ⟨i,hi,h0,e2⟩:=Xu e
  by_cases h2:i<2
  ·exact ay ⟨r,hr,i,h2,h0,e2⟩
  ·exact absurd (h.zero r hr i om hi) h0
theorem apM {L:List aj} {rs:List bC} {t:Nat} (h:ng rs t∨fB L rs t): ∃ f ∈ rs.map (·.N),t ∈ f :: dL (numsOf (cl L f)):=by
 rcases h with ⟨r,hr,e⟩ | ⟨r,hr,j,hj,h0,e⟩
 ·exact ⟨r.N,gQ.2 ⟨r,hr,rfl⟩,by rw [e];simp⟩
 ·exact ⟨r.N,gQ.2 ⟨r,hr,rfl⟩,dD.2 (ay (by rw [← e];exact UJ om h0))⟩
theorem cZ.KH {L:List aj} {rs:List bC} (h:cZ L rs) {t:Nat} (ht:ng rs t∨fB L rs t):6≤t∧t<L.length:=by
 rcases ht with ⟨r,hr,rfl⟩ | hs
 ·exact h.fst r hr
 ·exact h.sec t hs
theorem cZ.zh {L:List aj} {rs:List bC} (h:cZ L rs) {t:Nat} (ht:ng rs t∨fB L rs t) (q:Nat) (hq:q<32) (h0:nm L t q≠0):6≤nm L t q%32768∧nm L t q%32768<L.length:=by
 rcases ht with ⟨r,hr,rfl⟩ | hs
 ·by_cases h2:q<2
  ·exact h.sec _ ⟨r,hr,q,h2,h0,rfl⟩
  ·exact absurd (h.zero r hr q om hq) h0
 ·exact h.aF _ ⟨t,hs,q,hq,h0,rfl⟩
theorem cZ.Xq {L:List aj} {rs:List bC} (h:cZ L rs) {t:Nat} (ht:ng rs t∨fB L rs t) (q:Nat) (hq:q<32) (hm:32768≤nm L t q):aS L (nm L t q%32768)=1:=by
 rcases ht with ⟨r,hr,rfl⟩ | hs
 ·by_cases h2:q<2
  ·exact h.BU r hr q h2 hm
  ·have:=h.zero r hr q om hq;omega
 ·exact h.AB t hs q hq hm
theorem cZ.adI {L:List aj} {rs:List bC} (h:cZ L rs) {t:Nat} (ht:ng rs t∨fB L rs t) (q:Nat) (hq:q<32) (h0:nm L t q≠0):1≤dM L rs (nm L t q%32768):=by
 rcases ht with ⟨r,hr,rfl⟩ | hs
 ·by_cases h2:q<2
  ·exact QV ⟨r,hr,q,h2,h0,rfl⟩
  ·exact absurd (h.zero r hr q om hq) h0
 ·exact QU ⟨t,hs,q,hq,h0,rfl⟩
theorem cZ.Ov {V:aB} {rs:List bC} (h:cZ V.C rs) {t:Nat} (ht:ng rs t∨fB V.C rs t):qW V t:=by
 refine ⟨h.KH ht,fun i=>⟨N8 _ _,fun h0=> ?_⟩⟩
 by_cases hi:i<32
 ·rw [uT _ _ hi] at h0 ⊢;exact h.zh ht i hi h0
 ·rw [aK,eu (by rw [numsOf_length];omega)] at h0;exact absurd rfl h0
theorem cZ.Di {V:aB} {rs:List bC} (h:cZ V.C rs) {f:Nat} (hf:f ∈ rs.map (·.N)):gJ V f:=by
 obtain ⟨r,hr,rfl⟩:=gQ.1 hf;refine ⟨h.Ov (aA ⟨r,hr,rfl⟩),fun i=>⟨N8 _ _,fun h0=> ?_⟩⟩
 by_cases hi:i<32
 ·rw [uT _ _ hi] at h0 ⊢
  by_cases h2:i<2
  ·exact h.Ov (ay ⟨r,hr,i,h2,h0,rfl⟩)
  ·exact absurd (h.zero r hr i om hi) h0
 ·rw [aK,eu (by rw [numsOf_length];omega)] at h0;exact absurd rfl h0
theorem Ok.Au (h:Ok V.C T N0 E D):bK V=(aH N0 E).map (·.N):=by
 unfold bK;rw [h.file.Cc,h.file.jT.zZ h.file.list];simp [aH,kV]
structure Lets (V:aB) (N0:Nat) (E:List aX) (us:List Nat):Prop where
 lt: ∀ u ∈ us,u<256
 jy: ∀ m,m<256→gX m+dM V.C (aH N0 E) m+us.count m≤aS V.C m
section
variable {us:List Nat}
theorem Ok.Gu (h:Ok V.C T N0 E D) (hT:V.C.length=T):(aJ V.C).length=256∧ ∀ n,n<256→aI (aJ V.C) n=aS V.C n:=by
 have h7:=h.file.seven;exact ⟨BI _ h.file.lens om,fun n hn=>Gq h.file.lens om n hn⟩
theorem Lets.get (hl:Lets V N0 E us) (h:Ok V.C T N0 E D) (hT:V.C.length=T) (m:Nat) (hm:m<256):aI (minus (aJ V.C) us) m+us.count m=aS V.C m:=by
 obtain ⟨h1,h2⟩:=h.Gu hT;rw [aiL us (aJ V.C) m (fun u hu=>by rw [h1];exact hl.lt u hu) (fun u=> ?_),h2 m hm]
 by_cases hu:u<256
 ·rw [h2 u hu];have:=hl.jy u hu;omega
 ·rw [FU.2 (fun x=>hu (hl.lt u x))];exact nN _
theorem Ok.apT (h:Ok V.C T N0 E D) (hT:V.C.length=T) (hl:Lets V N0 E us) (ps:List (Nat × aj)) (hp: ∀ x ∈ ps,x ∈ jo (minus (aJ V.C) us)):Ok (dV V.C ps) T N0 E D:=by
 have Dl:=h.LX hT;have gG:=h.sound;rw [Dl] at gG;have qI:=h.file.most;obtain ⟨h1,h2⟩:=h.Gu hT;have key: ∀ t,(ng (aH N0 E) t∨fB V.C (aH N0 E) t)→ ∀ q,q<32→32768≤nm V.C t q→aI (minus (aJ V.C) us) (nm V.C t q%32768)=1:=by
  intro t ht q hq hm;have a1:=gG.Xq ht q hq hm;have a2:=gG.adI ht q hq om;have a3:=gG.zh ht q hq om;have a4:=hl.jy (nm V.C t q%32768) om;have a5:=hl.get h hT (nm V.C t q%32768) om;omega
 refine h.counts (minus (aJ V.C) us) (by rw [Xv];exact h1) (fun _=>False) (fun n hn=>hn.elim) (fun n hn=> ?_) (fun n hn=> ?_) (fun n hn ND=> ?_) (fun r hr j hj hm=> ?_) (fun s hs q hq hm=> ?_) ps (fun x hx=>aA (JL (hp x hx)))
 ·rw [Dl]
  have:=hl.get h hT n hn
  have:=hl.jy n hn
  omega
 ·have:=hl.get h hT n hn
  have:=gG.top n hn
  omega
 ·have:=hl.get h hT n hn
  have:=gG.none n hn om
  omega
 ·rw [Dl] at hm ⊢;exact key r.N (aA ⟨r,hr,rfl⟩) j om hm
 ·rw [Dl] at hs hm ⊢;exact key s (ay hs) q hq hm
theorem ah4 (V:aB) (us:List Nat):jI V us=jR V (jo (minus (aJ V.C) us)):=rfl
theorem Ok.apP (h:Ok V.C T N0 E D) (hT:V.C.length=T) (ps:List (Nat × aj)) (hp: ∀ x ∈ ps,x.1<T):(jR V ps).C.length=T:=by
 rw [y5]
 have:=Mc ps V.C T h.file.le hp
 omega
theorem Ok.TS (h:Ok V.C T N0 E D) (hT:V.C.length=T) (hl:Lets V N0 E us):Ok (jI V us).C T N0 E D∧(jI V us).C.length=T∧(∀ m,m<256→aS (jI V us).C m+us.count m=aS V.C m)∧(∀ t,5≤t→cl (jI V us).C t=cl V.C t):=by
 have h7:=h.file.seven;have hlen:=h.apP hT (jo (minus (aJ V.C) us)) (fun x hx=>by obtain ⟨p,hp,rfl⟩:=JL hx;simp only;omega);rw [ah4];refine ⟨by rw [y5];exact h.apT hT hl _ (fun x hx=>hx),hlen,fun m hm=> ?_,fun t ht=> ?_⟩
 ·have e:aS (jR V (jo (minus (aJ V.C) us))).C m=aI (minus (aJ V.C) us) m:=by
   unfold aS;rw [← lV (by rw [hlen];omega),y5]
   have:=adL V.C (minus (aJ V.C) us) m hm [] (fun x hx=>by cases hx)
   rw [rU] at this;exact this
  rw [e];exact hl.get h hT m hm
 ·by_cases htl:t<T
  ·rw [← lV (by rw [hlen];exact htl),← lV om,y5];exact EH t _ _ (fun x hx=>by obtain ⟨p,hp,rfl⟩:=JL hx;simp only;omega)
  ·rw [Dc om,Dc om]
theorem Ok.abM (h:Ok V.C T N0 E D) (hT:V.C.length=T): ∀ x ∈ BR (aJ V.C) V.C (bK V),(ng (aH N0 E) x.1∨fB V.C (aH N0 E) x.1)∧x.2=wu (aJ V.C) (cl V.C x.1):=by
 have gG:=h.sound;rw [h.LX hT] at gG;intro x hx;unfold BR at hx;obtain ⟨f,hf,hx⟩:=Ae.1 hx;obtain ⟨t,ht,rfl⟩:=gQ.1 hx;rw [h.Au] at hf;exact ⟨YI gG hf ht,by dsimp only⟩
theorem Ok.aqj (h:Ok V.C T N0 E D) (hT:V.C.length=T) (ps:List (Nat × aj)) (hp: ∀ x ∈ ps,x ∈ BR (aJ V.C) V.C (bK V)):Ok (dV V.C ps) T N0 E D:=by
 have Dl:=h.LX hT;have gG:=h.sound;rw [Dl] at gG;have qI:=h.file.most;obtain ⟨h1,h2⟩:=h.Gu hT;refine h.marks ps fun x hx=> ?_;obtain ⟨hk,e⟩:=h.abM hT x (hp x hx);rw [Dl,e];refine ⟨hk,abQ _ _,fun q hq=>aiq _ _ q hq,fun q hq hm=> ?_⟩;rw [TV _ _ q hq] at hm
 split at hm
 ·omega
 ·rename_i h0;have hin:=gG.zh hk q hq h0;unfold pI at hm
  split at hm
  ·rename_i hc;rw [h2 _ (by unfold nm at hin;omega)] at hc;exact hc
  ·exact gG.Xq hk q hq hm
theorem Ok.Ue (h:Ok V.C T N0 E D) (hT:V.C.length=T):sF V=o7 V (BR (aJ V.C) V.C (bK V)):=by
 have gG:=h.sound;rw [h.LX hT] at gG;unfold sF;refine aqe _ _ _ V rfl (fun f hf t ht=> ?_) (fun t _=>aA rfl);rw [h.Au] at hf;exact (gG.KH (YI gG hf ht)).2
theorem Ok.marked (h:Ok V.C T N0 E D) (hT:V.C.length=T):Ok (sF V).C T N0 E D∧(sF V).C.length=T∧(∀ m,m<256→aS (sF V).C m=aS V.C m)∧
  (∀ t,(ng (aH N0 E) t∨fB V.C (aH N0 E) t)→ ∀ q,q<32→nm (sF V).C t q=if nm V.C t q=0 then 0 else pI (aJ V.C) (nm V.C t q)):=by
 have gG:=h.sound;rw [h.LX hT] at gG;have h7:=h.file.seven;have hlo: ∀ x ∈ BR (aJ V.C) V.C (bK V),6≤x.1∧x.1<T:=fun x hx=>by
  have:=gG.KH (h.abM hT x hx).1
  omega
 have hlen:(sF V).C.length=T:=by
  rw [h.Ue hT,Md]
  have:=Mc (BR (aJ V.C) V.C (bK V)) V.C T h.file.le (fun x hx=>(hlo x hx).2)
  omega
 refine ⟨by rw [h.Ue hT,Md];exact h.aqj hT _ (fun x hx=>hx),hlen,fun m hm=> ?_,fun t ht q hq=> ?_⟩
 ·unfold aS;rw [← lV (by rw [hlen];omega),← lV om,h.Ue hT,Md,EH _ _ _ (fun x hx=>by have:=hlo x hx;omega)]
 ·have htl:=gG.KH ht;have hin: ∃ x ∈ BR (aJ V.C) V.C (bK V),x.1=t:=by
   obtain ⟨f,hf,hx⟩:=apM ht;rw [← h.Au] at hf;exact ⟨(t,wu (aJ V.C) (cl V.C t)),Ae.2 ⟨f,hf,gQ.2 ⟨t,hx,rfl⟩⟩,rfl⟩
  unfold nm;rw [← lV (by rw [hlen];omega),h.Ue hT,Md,ak3 (fun t=>wu (aJ V.C) (cl V.C t)) t _ _ (fun x hx=>(h.abM hT x hx).2) hin];exact TV _ _ q hq
theorem Ok.TR (h:Ok V.C T N0 E D) (hT:V.C.length=T) (hl:Lets V N0 E us):Ok (oD V us).C T N0 E D∧(oD V us).C.length=T∧(oD V us).loose=false∧
  ((∀ m,m<256→aS V.C m=gX m+dM V.C (aH N0 E) m+us.count m)→wI (oD V us).C (aH N0 E)):=by
 obtain ⟨a1,a2,a3,a4⟩:=h.TS hT hl;obtain ⟨b1,b2,b3,b4⟩:=a1.marked a2;have eC:(oD V us).C=(sF (jI V us)).C:=by unfold oD;rw [zK]
 rw [eC];refine ⟨b1,b2,SQ _,fun hx=> ?_⟩;have s0:=h.sound;rw [h.LX hT] at s0;have s1:=a1.sound;rw [a1.LX a2] at s1;have s2:=b1.sound;rw [rP b2] at s2;have qI:=h.file.most;obtain ⟨c1,c2⟩:=a1.Gu a2;have sh1:Shape V.C (jI V us).C (aH N0 E):=Shape.of_same (fun r hr=>a4 _ (by have:=s0.fst r hr;omega)) (fun s hs=>a4 _ (by have:=s0.sec s hs;omega));have sh2:Shape (jI V us).C (sF (jI V us)).C (aH N0 E):=by
  have key: ∀ t,(ng (aH N0 E) t∨fB (jI V us).C (aH N0 E) t)→ ∀ q,q<32→kN (nm (sF (jI V us)).C t q) (nm (jI V us).C t q):=by
   intro t ht q hq;rw [b4 t ht q hq]
   by_cases e:nm (jI V us).C t q=0
   ·rw [au e,e];exact kN.refl _
   ·rw [ak e];exact ⟨⟨fun x=>absurd x (abP _ _ e),fun x=>absurd x e⟩,abO _ _⟩
  exact ⟨fun r hr j hj=>key r.N (aA ⟨r,hr,rfl⟩) j hj,fun s hs q hq=>key s (ay hs) q hq⟩
 have key: ∀ t,(ng (aH N0 E) t∨fB (jI V us).C (aH N0 E) t)→ ∀ q,q<32→nm (sF (jI V us)).C t q≠0→aS (sF (jI V us)).C (nm (sF (jI V us)).C t q%32768)=1→32768≤nm (sF (jI V us)).C t q:=by
  intro t ht q hq h0 h1;rw [b4 t ht q hq] at h0 h1 ⊢
  by_cases e:nm (jI V us).C t q=0
  ·rw [au e] at h0;exact absurd rfl h0
  ·rw [ak e] at h1 ⊢;have hin:=s1.zh ht q hq e;rw [abO,b3 _ om,← c2 _ om] at h1;unfold pI;rw [au h1];omega
 refine ⟨fun n hn=> ?_,fun r hr j hj h0 h1=>key r.N (aA ⟨r,hr,rfl⟩) j om h0 h1,fun s hs q hq h0 h1=>key s (ay ((sh2.rJ s).1 hs)) q hq h0 h1⟩;rw [b3 n hn,sh2.use,sh1.use]
 have:=a3 n hn
 have:=hx n hn
 omega
end
end
end Go.Proofs.YtknjjjenklfeoaaGreatDoor
