import Derived.Test.YtknjjjenklfeoaaGreatDoorU32
set_option maxHeartbeats 8000000
set_option maxRecDepth 100000
set_option linter.all false
namespace Go.Proofs.YtknjjjenklfeoaaGreatDoor
open Go.RowKit
section
def TV (U:List Nat) (k:List UInt8) (T n:Nat):Bool:=decide (aI k n<U.getD n 0) || (decide (254<aI k n) || (decide (T≤n) && decide (aI k n≠0)))
def BA (U:List Nat) (k:List UInt8) (T:Nat):Nat→Nat→Int
 | 0,_=> -1
 | m+1,n=>if TV U k T n then (n:Int) else BA U k T m (n+1)
def sF (k:List UInt8) (s:nR):Bool:=decide (32768≤s.number) && decide (aI k (s.number%32768)≠1)
def Kz:Option nR→Int
 | none=> -1
 | some s=>(s.table:Int)
def GL (C:List aj) (k:List UInt8) (fs:List Nat):Int:=Kz ((fs.flatMap fun f=>jB C f 32 0).find? (sF k))
def ahL {U:List Nat} {k:List UInt8} {T:Nat} {R:aU}: ∀ m n,(∀ j,n≤j→j<n+m→TV U k T j=ET R j)→BA U k T m n=qB R m n
 | 0,_,_=>rfl
 | m+1,n,h=>by rw [BA,qB,h n om om,ahL m (n+1) (fun j a c=>h j om om)]
def acd (R:aU): ∀ m n,qB R m n= -1∨0≤qB R m n
 | 0,_=>aA rfl
 | m+1,n=>by
  rw [qB];split
  ·exact ay om
  ·exact acd R m (n+1)
def acf {R:aU}: ∀ m n,qB R m n= -1→ ∀ j,n≤j→j<n+m→ET R j=false
 | 0,_,_,j,a,c=>om
 | m+1,n,h,j,a,c=>by
  rw [qB] at h
  split at h
  ·omega
  ·rename_i h0
   by_cases e:j=n
   ·rw [e];simpa using h0
   ·exact acf m (n+1) h j om om
def akt (R:aU): ∀ m i b,0≤b→xO R m i b=b
 | 0,_,_,_=>rfl
 | m+1,i,b,h=>by rw [xO,ak om]
section
variable {L:List aj} {rs:List bI} {b:Int} {R:aU}
def ZJ (C:List aj) (t:Nat) (s:nR): ∀ m k,s ∈ oD C t m k→s.table=t∧k≤s.index∧s.index<k+m∧s.number=nm C t s.index∧s.number≠0
 | 0,_,h=>by simp [oD] at h
 | m+1,k,h=>by
  rw [oD] at h;rcases fK.1 h with y | y
  ·split at y
   ·simp at y
   ·rename_i h0;rw [iP.1 y];exact ⟨rfl,aO _,by show k<_;omega,rfl,h0⟩
  ·obtain ⟨a,d,e,c⟩:=ZJ C t s m (k+1) y;exact ⟨a,om,om,c⟩
def V8 {C:List aj} {t:Nat} (c: ∀ i,1<i→i<32→nm C t i=0):jB C t 32 0=jB C t 2 0:=by
 have key: ∀ m i,2≤i→i+m=32→jB C t m i=[]:=by
  intro m
  induction m with
  | zero=>intro i _ _;rfl
  | succ m ih=>intro i d a;rw [jB,au (c i om om),ih (i+1) om om];rfl
 have a:=key 30 2 om om;show (if nm C t 0=0 then [] else _)++((if nm C t 1=0 then [] else _)++jB C t 30 2)=_;rw [a];rfl
def aqG {p:nR→Bool} {l:List nR} {t:Nat} (a: ∀ s ∈ l,s.table=t):Kz (l.find? p)=if (l.find? p).isNone then -1 else (t:Int):=by
 cases h:l.find? p with
 | none=>rfl
 | some s=>show (s.table:Int)=t;rw [a s (List.mem_of_find?_eq_some h)]
def adA (k:List UInt8) (t:Nat): ∀ m j acc,(∀ i,j≤i→i<j+m→nm R.L t i≠0→ ∀ a c,pF R (nm R.L t i)=sF k ⟨a,c,nm R.L t i⟩)→(sZ R t m j acc).isNone= !((oD R.L t m j).find? (sF k)).isNone
 | 0,_,_,_=>rfl
 | m+1,j,acc,h=>by
  rw [sZ,oD]
  by_cases h0:num (cl R.L t) (2*j)=0
  ·rw [au h0,au h0,qy];exact adA k t m (j+1) acc (fun i d f=>h i om om)
  ·have e:=h j om om h0 t j;rw [ak h0,ak h0,Wy,afy,← e];cases hb:pF R (num (cl R.L t) (2*j)) with
   | true=>rfl
   | false=>exact adA k t m (j+1) _ (fun i d f=>h i om om)
def adF (k:List UInt8) (t:Nat): ∀ m i acc,(∀ s ∈ jB R.L t m i,pF R s.number=sF k s)→(vI R t m i acc).1=Kz ((jB R.L t m i).find? (sF k))
 | 0,_,_,_=>rfl
 | m+1,i,acc,h=>by
  rw [jB] at h;rw [vI,jB]
  by_cases h0:num (cl R.L t) (2*i)=0
  ·rw [au h0] at h;rw [au h0,au h0,qy];exact adF k t m (i+1) acc h
  ·rw [ak h0] at h;have e:=h ⟨t,i,nm R.L t i⟩ sm;have g: ∀ s ∈ oD R.L (nm R.L t i%32768) 32 0,pF R s.number=sF k s:=fun s hs=>h s (by simp [hs]);have f: ∀ s ∈ jB R.L t m (i+1),pF R s.number=sF k s:=fun s hs=>h s (by simp [hs]);rw [ak h0,ak h0,rU,afy,← e];cases hb:pF R (num (cl R.L t) (2*i)) with
   | true=>rfl
   | false=>
    have c:=adA (R:=R) k (nm R.L t i%32768) 32 0 (acc+sW R (nm R.L t i)) (fun j n o q v w=>by
     have hm:(⟨nm R.L t i%32768,j,nm R.L (nm R.L t i%32768) j⟩:nR) ∈ oD R.L (nm R.L t i%32768) 32 0:=by
      have key: ∀ m k,k≤j→j<k+m→(⟨nm R.L t i%32768,j,nm R.L (nm R.L t i%32768) j⟩:nR) ∈ oD R.L (nm R.L t i%32768) m k:=by
       intro m
       induction m with
       | zero=>intro k r u;omega
       | succ m ih=>
        intro k r u;rw [oD]
        by_cases e:j=k
        ·subst e;rw [ak q];simp
        ·exact fK.2 (ay (ih (k+1) om om))
      exact key 32 0 n o
     exact (g _ hm).trans rfl)
    have d:=aqG (p:=sF k) (l:=oD R.L (nm R.L t i%32768) 32 0) (fun s hs=>(ZJ _ _ _ _ _ hs).1);simp only [Ce,yS];rw [Ti];cases hx:sZ R (num (cl R.L t) (2*i)%32768) 32 0 (acc+sW R (num (cl R.L t) (2*i))) with
    | none=>
     change sZ R (nm R.L t i%32768) 32 0 (acc+sW R (nm R.L t i))=none at hx;rw [hx] at c;cases hf:(oD R.L (nm R.L t i%32768) 32 0).find? (sF k) with
     | none=>rw [hf] at c;cases c
     | some s=>
      rw [hf] at d;show _=Kz (some s);rw [d];rfl
    | some a=>
     change sZ R (nm R.L t i%32768) 32 0 (acc+sW R (nm R.L t i))=some a at hx;rw [hx] at c;cases hf:(oD R.L (nm R.L t i%32768) 32 0).find? (sF k) with
     | none=>exact adF k t m (i+1) a f
     | some s=>rw [hf] at c;cases c
def ao2 (o:Option nR):Kz o= -1∨0≤Kz o:=by
 cases o with
 | none=>exact aA rfl
 | some s=>exact ay (by show (0:Int)≤(s.table:Int);omega)
def aks (k:List UInt8) (hR:R.roots=rs) (c: ∀ r ∈ rs,∀ i,1<i→i<32→nm R.L r.N i=0) (h: ∀ r ∈ rs,∀ s ∈ jB R.L r.N 32 0,pF R s.number=sF k s): ∀ m i,i+m=rs.length→xO R m i (-1)=GL R.L k ((rs.drop i).map (·.N))
 | 0,i,hi=>by rw [WC om];rfl
 | m+1,i,hi=>by
  have a:i<rs.length:=om;have f:rootOf R i=rs[i]:=by unfold rootOf;rw [hR,aN,bJ a];rfl
  have hm:rs[i] ∈ rs:=o9 a;have d:=V8 (c _ hm);rw [xO,au dc,f,LU a];unfold GL;rw [jU,qx,Ti];have e:=adF (R:=R) k rs[i].N 2 0 0 (by rw [← d];exact h _ hm);unfold marked;rw [e,d];cases hf:(jB R.L rs[i].N 2 0).find? (sF k) with
  | none=>
   have:=aks k hR c h m (i+1) om
   rw [Option.none_or];exact this
  | some s=>
   rw [Option.some_or];exact akt R m (i+1) _ (by show (0:Int)≤(s.table:Int);omega)
end
def aja {C:List aj} (n:Nat): ∀ rs:List bI,(∀ r ∈ rs,∀ i,1<i→i<32→nm C r.N i=0)→((rs.map (·.N)).flatMap (mF C)).count n=dN C rs n
 | [],_=>rfl
 | r :: t,a=>by
  have c:=aja n t (fun x d=>a x (LX _ d));have e:=XG (a r (Oa ..)) n;rw [jU,qx,Jj,c,e];simp [dN]
def aw6 {V:aB} {rs:List bI} (a:bP V=rs.map (·.N)) (c: ∀ r ∈ rs,∀ i,1<i→i<32→nm V.C r.N i=0) (n:Nat) (hn:n<256):(iw V).getD n 0=gZ n+dN V.C rs n:=by
 unfold iw Ag;rw [abL _ _ _ (by rw [Y0 6 om];exact hn),ak3 n,a,aja n rs c]
def abY {C:List aj} (a: ∀ c ∈ C,c.length=64) (d:5≤C.length):(aJ C).length=256∧ ∀ n,n<256→aI (aJ C) n=aQ C n:=⟨CY C a d,fun n hn=>EW a d n hn⟩
section
variable {L:List aj} {rs:List bI} {R:aU}
structure yZ (L:List aj) (rs:List bI):Prop where
 len:L.length≤256
 qp:6≤L.length
 ok:xq L (l7 L rs rs.length 0)
 zero: ∀ r ∈ rs,∀ i,1<i→i<32→nm L r.N i=0
def yZ.fst (h:yZ L rs) {t:Nat} (a:nX rs t):6≤t∧t<L.length:=by
 have:=h.ok.lo (t,1) ((BJ h.zero _).2 (aA ⟨rfl,a⟩))
 exact ⟨this.1,this.2.1⟩
def yZ.sec (h:yZ L rs) {t:Nat} (a:fD L rs t):6≤t∧t<L.length:=by
 have:=h.ok.lo (t,2) ((BJ h.zero _).2 (ay (aA ⟨rfl,a⟩)))
 exact ⟨this.1,this.2.1⟩
def yZ.aG (h:yZ L rs) {t:Nat} (a:oU L rs t):6≤t∧t<L.length:=by
 have:=h.ok.lo (t,3) ((BJ h.zero _).2 (ay (ay ⟨rfl,a⟩)))
 exact ⟨this.1,this.2.1⟩
def yZ.BF {V:aB} (h:yZ V.C rs) {f:Nat} (c:f ∈ rs.map (·.N)):gU V f:=by
 obtain ⟨r,hr,rfl⟩:=gY.1 c;have nums: ∀ (Pc:Nat→Prop) (t:Nat),(∀ j,j<32→num (cl V.C t) (2*j)≠0→Pc (num (cl V.C t) (2*j)%32768))→Bo Pc V.C t:=by
  intro Pc t d j
  by_cases hj:j<32
  ·rw [vJ _ _ hj];exact ⟨iK _ _,d j hj⟩
  ·rw [aN,eG (by rw [numsOf_length];omega)];exact ⟨dc,fun x=>absurd rfl x⟩
 have two: ∀ j,j<32→nm V.C r.N j≠0→j<2:=fun j hj h0=>by
  rcases J8 j 2 with x | x
  ·exact x
  ·exact absurd (h.zero r hr j om hj) h0
 have a: ∀ j,j<32→nm V.C r.N j≠0→uq V (nm V.C r.N j%32768):=fun j hj h0=>h.sec ⟨r,hr,j,two j hj h0,h0,rfl⟩;exact ⟨⟨h.fst ⟨r,hr,rfl⟩,nums _ _ a⟩,nums _ _ fun j hj h0=>⟨a j hj h0,nums _ _ fun k hk e=>h.aG ⟨_,⟨r,hr,j,two j hj h0,h0,rfl⟩,k,hk,e,rfl⟩⟩⟩
def yZ.used (h:yZ L rs) {b:Int} (a:Told L rs b gZ (l7 L rs rs.length 0) R) (n:Nat) (hn:n<256):R.used.getD n 0=gZ n+dN L rs n:=by
 rw [a.used n hn,← Pn h.zero];rfl
def yZ.ale (h:yZ L rs) (n:Nat) (hn:L.length≤n):gZ n+dN L rs n=0:=by
 have c:=h.qp;rw [wK,ak om,rE,← Pn h.zero];unfold AX;rw [H8];intro hm;obtain ⟨x,a,rfl⟩:=gY.1 hm
 have:=(h.ok.lo x a).2.1
 omega
def yZ.counts {V:aB} (h:yZ V.C rs) (d: ∀ c ∈ V.C,c.length=64) (e:bP V=rs.map (·.N)) {b:Int} (a:Told V.C rs b gZ (l7 V.C rs rs.length 0) R):
  BA (iw V) (aJ V.C) V.C.length 256 0=qB R 256 0:=by
 obtain ⟨_,f⟩:=abY d (by have:=h.qp;omega);refine ahL 256 0 fun j _ hj=> ?_;have hj:j<256:=om;have hu:=h.used a j hj;have g:=h.ale j;have hc:aQ V.C j<256:=uy _ _;unfold TV ET SH;rw [aw6 e h.zero j hj,f j hj,hu,a.hL];rw [WQ];simp only [Bool.or_eq_true,wI,DI,Tt,ou];constructor
 ·rintro (x | x | ⟨x,y⟩)
  ·left
   refine ⟨?_,x⟩;rcases J8 j V.C.length with z | z
   ·exact z
   ·have:=g z;omega
  ·right;left;omega
  ·right;right;exact ⟨x,y⟩
 ·rintro (⟨_,x⟩ | x | ⟨x,y⟩)
  ·left;exact x
  ·right;left;omega
  ·right;right;exact ⟨x,y⟩
def yZ.mark {V:aB} (h:yZ V.C rs) (k: ∀ c ∈ V.C,c.length=64) {b:Int} (e:Told V.C rs b gZ (l7 V.C rs rs.length 0) R) (hc:qB R 256 0= -1):
  ∀ r ∈ rs,∀ s ∈ jB V.C r.N 32 0,pF R s.number=sF (aJ V.C) s:=by
 intro r hr s hs;obtain ⟨_,l⟩:=abY k (by have:=h.qp;omega);rw [V8 (h.zero r hr)] at hs;have i: ∃ j,j<2∧nm V.C r.N j≠0∧(s=⟨r.N,j,nm V.C r.N j⟩∨s ∈ oD V.C (nm V.C r.N j%32768) 32 0):=by
  rw [jB,jB,jB,sN] at hs;rcases fK.1 hs with y | y
  ·split at y
   ·simp at y
   ·rename_i h0;exact ⟨0,om,h0,cO.1 y⟩
  ·split at y
   ·simp at y
   ·rename_i h0;exact ⟨1,om,h0,cO.1 y⟩
 obtain ⟨j,hj,h0,m⟩:=i;have key:s.number%32768<V.C.length∧1≤dN V.C rs (s.number%32768):=by
  rcases m with rfl | hm
  ·have hs:fD V.C rs (nm V.C r.N j%32768):=⟨r,hr,j,hj,h0,rfl⟩;exact ⟨(h.sec hs).2,SG hs⟩
  ·obtain ⟨a,_,p,f,n⟩:=ZJ _ _ _ _ _ hm;have g:oU V.C rs (s.number%32768):=⟨_,⟨r,hr,j,hj,h0,rfl⟩,s.index,om,by rw [← f];exact n,by rw [← f]⟩;exact ⟨(h.aG g).2,SE g⟩
 have o:=h.len;have hn:s.number%32768<256:=om;have hu:=h.used e _ hn;have d:=acf 256 0 hc (s.number%32768) om om;unfold ET SH at d;rw [e.hL,hu,Cm,Tc] at d;have hle:gZ (s.number%32768)+dN V.C rs (s.number%32768)≤aQ V.C (s.number%32768):=by
  rcases d.1 with x | x
  ·have:=F9 x;omega
  ·have:=F9 x;omega
 unfold pF sF;rw [l _ hn,e.hL,hu]
 by_cases hm:32768≤s.number
 ·rw [au hm,dZ hm,um]
  by_cases a:aQ V.C (s.number%32768)=1
  ·have:gZ (s.number%32768)+dN V.C rs (s.number%32768)=1:=om
   rw [this,a];rfl
  ·rw [dZ a];simp [a]
 ·rw [ak hm,gK hm,J3]
def aqF {p:nR→Bool} {l:List nR} (h:Kz (l.find? p)= -1): ∀ s ∈ l,p s=false:=by
 cases hf:l.find? p with
 | none=>intro s hs;simpa using List.find?_eq_none.1 hf s hs
 | some s=>rw [hf] at h;change (s.table:Int)= -1 at h;omega
def aad {C:List aj} {t j:Nat} (hj:j<2) (h0:nm C t j≠0) (s:nR) (hs:s=⟨t,j,nm C t j⟩∨s ∈ oD C (nm C t j%32768) 32 0):s ∈ jB C t 2 0:=by
 rw [jB,jB,jB,sN]
 have:j=0∨j=1:=om
 rcases this with rfl | rfl
 ·rw [ak h0];exact fK.2 (aA (cO.2 hs))
 ·rw [ak h0];exact fK.2 (ay (cO.2 hs))
def ZI {C:List aj} {t j:Nat} (h0:nm C t j≠0): ∀ m k,k≤j→j<k+m→(⟨t,j,nm C t j⟩:nR) ∈ oD C t m k
 | 0,k,a,c=>om
 | m+1,k,a,c=>by
  rw [oD]
  by_cases e:j=k
  ·subst e;rw [ak h0];simp
  ·exact fK.2 (ay (ZI h0 m (k+1) om om))
def yZ.sound {V:aB} (h:yZ V.C rs) (v: ∀ c ∈ V.C,c.length=64) {b:Int} (p:Told V.C rs b gZ (l7 V.C rs rs.length 0) R) (hc:qB R 256 0= -1) (hm:GL V.C (aJ V.C) (rs.map (·.N))= -1):dH V.C rs:=by
 obtain ⟨_,w⟩:=abY v (by have:=h.qp;omega);have A:=h.len;have q:=acf 256 0 hc;have i: ∀ n,n<256→(n<V.C.length→gZ n+dN V.C rs n≤aQ V.C n)∧aQ V.C n≠255∧(V.C.length≤n→aQ V.C n=0):=by
  intro n hn;have l:=q n om om;unfold ET SH at l;rw [p.hL,h.used p n hn,Cm,Tc,Cm,Tc] at l;obtain ⟨d,f,y⟩:=l;refine ⟨fun m=> ?_,by simpa using f,fun B=> ?_⟩
  ·rcases d with x | x
   ·have:=F9 x;omega
   ·have:=F9 x;omega
  ·rcases y with x | x
   ·have:=F9 x;omega
   ·simpa using x
 have u:=aqF hm;have o: ∀ r ∈ rs,∀ s ∈ jB V.C r.N 2 0,32768≤s.number→s.number%32768<256→aQ V.C (s.number%32768)=1:=by
  intro r hr s hs g m;have d:=u s (zT.2 ⟨r.N,gY.2 ⟨r,hr,rfl⟩,by rw [V8 (h.zero r hr)];exact hs⟩);unfold sF at d;rw [dZ g,um,w _ m] at d
  have:=F9 d
  omega
 have kinds: ∀ a b t,(t,a) ∈ l7 V.C rs rs.length 0→(t,b) ∈ l7 V.C rs rs.length 0→a=b:=fun a b t d f=>h.ok.kind _ d _ f rfl;refine ⟨h.len,h.qp,fun r hr=>h.fst ⟨r,hr,rfl⟩,?_,h.zero,fun s hs=>h.sec hs,fun s hs=>h.aG hs,fun t d f=> ?_,fun t d f=> ?_,fun t d f=> ?_,fun n hn=> ?_,fun n hn=> ?_,fun n hn hL=>(i n hn).2.2 hL,fun r hr j hj g=> ?_,fun s hs k hk g=> ?_⟩
 ·rw [List.nodup_iff_count];intro n;rw [← ab8 (L:=V.C) n rs h.zero,← Xn];exact h.ok.once n
 ·have:=kinds 1 2 t ((BJ h.zero _).2 (aA ⟨rfl,d⟩)) ((BJ h.zero _).2 (ay (aA ⟨rfl,f⟩)))
  omega
 ·have:=kinds 1 3 t ((BJ h.zero _).2 (aA ⟨rfl,d⟩)) ((BJ h.zero _).2 (ay (ay ⟨rfl,f⟩)))
  omega
 ·have:=kinds 2 3 t ((BJ h.zero _).2 (ay (aA ⟨rfl,d⟩))) ((BJ h.zero _).2 (ay (ay ⟨rfl,f⟩)))
  omega
 ·rcases J8 n V.C.length with z | z
  ·exact (i n hn).1 z
  ·rw [h.ale n z];exact lX _
 ·have:=(i n hn).2.1
  have:aQ V.C n<256:=uy _ _
  omega
 ·have h0:nm V.C r.N j≠0:=by intro e;rw [e] at g;omega
  have:=(h.sec ⟨r,hr,j,hj,h0,rfl⟩).2
  exact o r hr ⟨r.N,j,nm V.C r.N j⟩ (aad hj h0 _ (aA rfl)) g (by show nm V.C r.N j%32768<256;omega)
 ·obtain ⟨r,hr,j,hj,h0,rfl⟩:=hs;have d:nm V.C (nm V.C r.N j%32768) k≠0:=by intro e;rw [e] at g;omega
  have:=(h.aG ⟨_,⟨r,hr,j,hj,h0,rfl⟩,k,hk,d,rfl⟩).2
  exact o r hr ⟨nm V.C r.N j%32768,k,nm V.C (nm V.C r.N j%32768) k⟩ (aad hj h0 _ (ay (ZI d 32 0 om om))) g (by show nm V.C (nm V.C r.N j%32768) k%32768<256;omega)
end
def dP (file:List aj):aB:=⟨bg file (num (cl file 0) 4),[],false,decide (file.length<num (cl file 0) 4)⟩
def qY (file:List aj):Int:=
 if mD file=false then 0
 else if xK (cl (dP file).C 5)=false then 5
 else if (nY (bP (dP file)) 0 (qR file)).1=false then (nY (bP (dP file)) 0 (qR file)).2.bad
 else if 0≤BA (iw (dP file)) (aJ (dP file).C) (dP file).C.length 256 0 then BA (iw (dP file)) (aJ (dP file).C) (dP file).C.length 256 0
 else GL (dP file).C (aJ (dP file).C) (bP (dP file))
def UO {file:List aj} (h:mD file=true):6≤file.length∧file.length≤256∧(cl file 0).take 4=zO∧7≤num (cl file 0) 4∧num (cl file 0) 4≤256∧file.length≤num (cl file 0) 4∧vN (cl file 0) 56 8=true:=by
 unfold mD at h;simp only [wI,DI] at h;exact h
section
variable {file:List aj}
def I9 (file:List aj):(dP file).C.length=num (cl file 0) 4:=kL _ _
def Po (a: ∀ c ∈ file,c.length=64): ∀ c ∈ (dP file).C,c.length=64:=adZ a _
def Y7 (h:mD file=true) (t:Nat) (a:t<file.length):cl (dP file).C t=cl file t:=by
 obtain ⟨_,_,_,_,_,c,_⟩:=UO h;show cl (bg file _) t=_;rw [Iw _ _ _ om,ny a]
def acz (h:mD file=true) (a: ∀ c ∈ file,c.length=64) (d:xK (cl (dP file).C 5)=true): ∃ E,lK file (num (cl file 0) 4) (num (cl file 0) 6) E:=by
 obtain ⟨f,o,g,i,j,k,l⟩:=UO h;have e:(cl file 0).length=64:=je a om;rw [Y7 h 5 om] at d;obtain ⟨E,m,he⟩:=(ajW (je a om)).1 d;have n:UN (cl file 0)=true:=by rw [acT e,l,dZ g];rfl
 exact ⟨E,a,f,k,i,j,iK _ _,(aaO n).symm,he,m⟩
def asn (h:mD file=true) (a: ∀ c ∈ file,c.length=64):(ji (gJ file)).1=xK (cl (dP file).C 5):=by
 obtain ⟨d,_,_,e,_,_,_⟩:=UO h;exact (asj (je (Po a) (by rw [I9];omega)) _).symm
variable {T N0:Nat} {E:List aW}
def lK.VD (h:lK file T N0 E):(dP file).C=bg file T:=by show bg file _=_;rw [h.Ll]
def lK.cl5 (h:lK file T N0 E) (t:Nat) (a:t<file.length):cl (bg file T) t=cl file t:=by rw [Iw _ _ _ (by have:=h.le;omega),ny a]
def lK.Y6 (h:lK file T N0 E):bP (dP file)=(aH N0 E).map (·.N):=by
 have a:=h.qp;unfold bP;rw [h.VD,h.cl5 0 om,h.Ac,h.iR.AZ (by rw [h.cl5 5 om];exact h.list)];simp [aH,lU]
def lK.R2 (h:lK file T N0 E):qR file=⟨bg file T,aH N0 E,FX,Wn,-1⟩:=by
 show (⟨(gJ file).L,(Go.Proofs.YtknjjjenklfeoaaGreatDoor.ji (gJ file)).2,_,_,_⟩:aU)=_;rw [h.ji,h.pad];rfl
def lK.nums (h:lK file T N0 E):iQ file=nY ((aH N0 E).map (·.N)) 0 (qR file):=by
 have hm:=h.most;have key:=aqN (aH N0 E) 0 (aH N0 E).length 0 (qR file) om (by rw [h.R2]) (by rw [h.R2];show (bg file T).length≤FX.length;rw [kL,aau];exact hm) (fun j _ hj=>by
  by_cases e:j=0
  ·subst e;rfl
  ·rw [ak e];obtain ⟨q,rfl⟩: ∃ q,j=q+1:=⟨j - 1,om⟩;unfold aH at hj ⊢;rw [J5,aN,jK,bJ (by simpa using hj)]
   rfl)
 rw [WE] at key;rw [key];unfold iQ;rw [h.R2]
def lK.awD (h:lK file T N0 E):Told (bg file T) (aH N0 E) (-1) gZ [] (qR file):=by
 rw [h.R2];exact ⟨rfl,rfl,rfl,aau,aak,fun x a=>by simp at a,fun n _=>by
   show FX.getD n 0=0;unfold FX;rw [aN,rG]
   split <;> rfl,fun n _=>rfl⟩
def lK.trees (h:lK file T N0 E) (c:(iQ file).1=true):yZ (bg file T) (aH N0 E)∧Told (bg file T) (aH N0 E) (-1) gZ (l7 (bg file T) (aH N0 E) (aH N0 E).length 0) (iQ file).2:=by
 have hm:=h.most;have m:=h.seven;have e:iQ file=BU (aH N0 E).length 0 (qR file):=by unfold iQ;rw [h.R2]
 rw [e] at c ⊢;obtain ⟨d,l,f⟩:=amS (rs:=aH N0 E) (b:= -1) (base:=gZ) (L:=bg file T) (by rw [kL];exact hm) (aH N0 E).length 0 [] (qR file) om h.awD ⟨fun x a=>by simp at a,fun x a=>by simp at a,fun n=>sm⟩ c;rw [qy] at d f;refine ⟨⟨by rw [kL];exact hm,by rw [kL];omega,d,fun r hr i g k=> ?_⟩,f⟩;obtain ⟨j,hj,rfl⟩:=Tf hr
 have:=l j om om i g k
 rw [aN,bJ hj] at this;exact this
def adw (h: ∀ c ∈ file,c.length=64):(look file).bad=qY file:=by
 unfold qY
 by_cases d:mD file=false
 ·rw [au d];unfold look;rw [au d]
 ·rw [ak d];have k:mD file=true:=by simpa using d
  have l:=asn k h
  by_cases e:xK (cl (dP file).C 5)=false
  ·rw [au e];unfold look;rw [ak d,l,au e]
  ·rw [ak e];have o:xK (cl (dP file).C 5)=true:=by simpa using e
   obtain ⟨E,i⟩:=acz k h o;have hn:=i.nums;have m:=i.Y6;have r:=i.VD;have n:look file=if (iQ file).1=false then (iQ file).2 else { (iQ file).2 with bad:=xO (iQ file).2 (iQ file).2.roots.length 0 (qB (iQ file).2 256 0) }:=by
    unfold look;rw [ak d,l,ak e]
   rw [n,m,← hn]
   by_cases f:(iQ file).1=false
   ·rw [au f,au f]
   ·rw [ak f,ak f];have p:(iQ file).1=true:=by simpa using f
    obtain ⟨j,a⟩:=i.trees p;rw [← r] at j a;have hc:=j.counts (Po h) m a;have q:=Po h;clear n hn;generalize iQ file=Q at*;generalize dP file=V at*;show xO Q.2 Q.2.roots.length 0 (qB Q.2 256 0)=_;rw [hc];rcases acd Q.2 256 0 with g | g
    ·rw [ak om,g,a.hR]
     have:=aks (aJ V.C) a.hR (by rw [a.hL];exact j.zero) (by rw [a.hL];exact j.mark q a g) (aH (num (cl file 0) 6) E).length 0 om
     rw [this,a.hL,WE]
    ·rw [au g];exact akt _ _ _ _ g
def atI (o: ∀ c ∈ file,c.length=64) (h:qY file= -1): ∃ N0 E,lK file (num (cl file 0) 4) N0 E∧mD file=true∧dH (dP file).C (aH N0 E)∧aY (dP file).C (dP file) N0 E:=by
 unfold qY at h
 by_cases q:mD file=false
 ·rw [au q] at h;omega
 ·rw [ak q] at h;have i:mD file=true:=by simpa using q
  by_cases r:xK (cl (dP file).C 5)=false
  ·rw [au r] at h;omega
  ·rw [ak r] at h;have y:xK (cl (dP file).C 5)=true:=by simpa using r
   obtain ⟨E,e⟩:=acz i o y;have hn:=e.nums;have v:=e.Y6;have B:=e.VD;rw [v,← hn] at h
   by_cases j:(iQ file).1=false
   ·rw [au j] at h;have D:0≤(iQ file).2.bad:=by
     rw [hn] at j ⊢;have key: ∀ (fs:List Nat) (a:Nat) (R:aU),(nY fs a R).1=false→0≤(nY fs a R).2.bad:=by
      intro fs
      induction fs with
      | nil=>intro a R d;cases d
      | cons f fs ih=>
       intro a R d;rw [nY] at d ⊢
       by_cases p:(rO f a R).1=true
       ·rw [au p] at d ⊢;exact ih _ _ d
       ·rw [ak p] at d ⊢;have n:(rO f a R).1=false:=by simpa using p
        show 0≤(rO f a R).2.bad;unfold rO at n ⊢
        by_cases k:(tell R f 1 a).1=true
        ·rw [au k] at n ⊢;have w: ∀ (l:List nR) (R:aU),(jZ f l R).1=false→0≤(jZ f l R).2.bad:=by
          intro l
          induction l with
          | nil=>intro R g;cases g
          | cons s l z=>
           intro R g;rw [jZ] at g ⊢
           by_cases m:(qN R f s).1=true
           ·rw [au m] at g ⊢;exact z _ g
           ·rw [ak m] at g ⊢;show 0≤(qN R f s).2.bad;rw [aeW (by simpa using m)];omega
         exact w _ _ n
        ·rw [ak k] at n ⊢;show 0≤(tell R f 1 a).2.bad;rw [Z7 (by simpa using k)];omega
     exact key _ _ _ j
    omega
   ·rw [ak j] at h;have A:(iQ file).1=true:=by simpa using j
    obtain ⟨t,u⟩:=e.trees A;rw [← B] at t u;have hc:=t.counts (Po o) v u;rw [hc] at h;rcases acd (iQ file).2 256 0 with d | d
    ·rw [ak om] at h;have hs:=t.sound (Po o) u d h;obtain ⟨F,p,_,k,m,G,_⟩:=UO i;refine ⟨_,E,e,i,hs,⟨⟨Po o,by rw [I9];omega,aO _,by rw [I9];exact k,by rw [I9];exact m,e.n0,?_,?_,e.iR⟩,hs,rfl,⟨fun _=>by rw [I9];omega,rfl,fun x d=>(by cases d),fun _=>aA rfl⟩⟩⟩
     ·rw [Y7 i 0 om,I9];exact e.head
     ·rw [Y7 i 5 om];exact e.list
    ·rw [au d] at h;omega
end
section
variable {base:List aj} {V:aB} {N0:Nat} {E:List aW} {R:aU}
def Xz {p q:Nat→Bool} (a:Nat) (h: ∀ n,n<a→p n=q n): ∀ m,(∀ n,a≤n→n<a+m→p n=false)→bF p (a+m)=bF q a
 | 0,_=>by rw [jW];exact abV a h
 | m+1,c=>by rw [Nat.add_succ,bF,Xz a h m (fun n d e=>c n d om),c (a+m) om om];rfl
def ajI (M:List Nat) (n:Nat) (a:List Nat):wR M (n :: a)=(if AP M n then 1 else 0)+wR M a:=by
 have:=adg M [n] a
 rw [Wy] at this;rw [this]
 congr 1
 unfold wR;cases h:AP M n <;> simp [h]
def auI (C:List aj) (t:Nat):BN (numsOf (cl C t))=(oD C t 32 0).map (·.number):=by
 have key: ∀ m k,k+m=32→BN ((numsOf (cl C t)).drop k)=(oD C t m k).map (·.number):=by
  intro m
  induction m with
  | zero=>intro k hk;rw [WC (by rw [numsOf_length];omega)];rfl
  | succ m ih=>
   intro k hk;have a:k<(numsOf (cl C t)).length:=by rw [numsOf_length];omega
   have c:(numsOf (cl C t))[k]=nm C t k:=by
    have:=vJ (cl C t) k om
    rw [aN,bJ a] at this;exact this
   rw [LU a,oD,rQ,← ih (k+1) om,c];unfold BN;rw [aaK]
   by_cases h0:nm C t k=0
   ·rw [ak (by simp [h0]),au h0];rfl
   ·rw [au (by simp [h0]),ak h0];rfl
 have:=key 32 0 om
 rw [WE] at this;exact this
def adB (M:List Nat) (t:Nat): ∀ m k acc,(∀ j,k≤j→j<k+m→nm R.L t j≠0→pF R (nm R.L t j)=false∧sW R (nm R.L t j)=if AP M (nm R.L t j) then 1 else 0)→sZ R t m k acc=some (acc+wR M ((oD R.L t m k).map (·.number)))
 | 0,_,acc,_=>rfl
 | m+1,k,acc,h=>by
  rw [sZ,oD]
  by_cases h0:num (cl R.L t) (2*k)=0
  ·rw [au h0,au h0,qy];exact adB M t m (k+1) acc (fun j a c=>h j om om)
  ·obtain ⟨a,c⟩:=h k om om h0;change pF R (num (cl R.L t) (2*k))=false at a;change sW R (num (cl R.L t) (2*k))=_ at c;rw [ak h0,ak h0,a,c,Wy,jU,ajI];simp only [Ce,yS];rw [adB M t m (k+1) _ (fun j a c=>h j om om),LW]
def adG (M:List Nat) (t:Nat): ∀ m i acc,(∀ s ∈ jB R.L t m i,pF R s.number=false∧sW R s.number=if AP M s.number then 1 else 0)→vI R t m i acc=(-1,acc+wR M ((jB R.L t m i).map (·.number)))
 | 0,_,acc,_=>rfl
 | m+1,i,acc,h=>by
  rw [jB] at h;rw [vI,jB]
  by_cases h0:num (cl R.L t) (2*i)=0
  ·rw [au h0] at h;rw [au h0,au h0,qy];exact adG M t m (i+1) acc h
  ·rw [ak h0] at h;obtain ⟨c,d⟩:=h ⟨t,i,nm R.L t i⟩ sm;have a:=adB (R:=R) M (nm R.L t i%32768) 32 0 (acc+if AP M (nm R.L t i) then 1 else 0) (fun j e f g=>h ⟨nm R.L t i%32768,j,nm R.L (nm R.L t i%32768) j⟩ (by
    have:=ZI (C:=R.L) (t:=nm R.L t i%32768) (j:=j) g 32 0 e f
    simp [this]))
   change pF R (num (cl R.L t) (2*i))=false at c;change sW R (num (cl R.L t) (2*i))=_ at d;rw [ak h0,ak h0,c,d];simp only [Ce,yS];change sZ R (num (cl R.L t) (2*i)%32768) 32 0 _=_ at a;rw [a];show vI R t m (i+1) _=_;rw [adG M t m (i+1) _ (fun s hs=>h s (by simp [hs])),rU,jU,rQ,ajI,adg];show ((-1:Int),_)=_
   congr 1
   dsimp only;omega
def amL (C:List aj) (f:Nat):FN C f=(jB C f 32 0).map (·.number):=by
 have key: ∀ m i,i+m=32→((BN ((numsOf (cl C f)).drop i)).flatMap fun s=>s :: BN (numsOf (cl C (s%32768))))=(jB C f m i).map (·.number):=by
  intro m
  induction m with
  | zero=>intro k hk;rw [WC (by rw [numsOf_length];omega)];rfl
  | succ m ih=>
   intro k hk;have a:k<(numsOf (cl C f)).length:=by rw [numsOf_length];omega
   have c:(numsOf (cl C f))[k]=nm C f k:=by
    have:=vJ (cl C f) k om
    rw [aN,bJ a] at this;exact this
   rw [LU a,jB,rQ,← ih (k+1) om,c];unfold BN;rw [aaK]
   by_cases h0:nm C f k=0
   ·rw [ak (by simp [h0]),au h0];rfl
   ·rw [au (by simp [h0]),ak h0,qx]
    congr 1
    rw [jU,← auI];rfl
 have:=key 32 0 om
 rw [WE] at this;exact this
def aY.state (h:aY base V N0 E) (hL:R.L=V.C) (hR:R.roots=aH N0 E) (hu: ∀ n,n<256→R.used.getD n 0=gZ n+dN V.C (aH N0 E) n):yx V=Dz R:=by
 obtain ⟨J,e⟩:=h.ok.Gu rfl;have hlen:=h.sound.len;have c:=h.Wp;have q: ∀ n,V.C.length≤n→gZ n+dN V.C (aH N0 E) n=0:=fun n hn=>by
  have K:=h.sound.qp;rw [wK,ak om,rE,← Pn h.sound.zero];unfold AX;rw [H8];intro hm;obtain ⟨x,z,rfl⟩:=gY.1 hm
  have:=(h.sound.ok.lo x z).2.1
  omega
 have g:256=V.C.length+(256 - V.C.length):=om;have A:bF (xY (iw V)) 256=bF (Ah R) V.C.length:=by
  rw [g];refine Xz _ (fun n hn=> ?_) _ (fun n a o=> ?_)
  ·unfold xY Ah;rw [c n om,hu n om]
  ·unfold xY;rw [c n om,q n a];rfl
 have B:bF (uQ (iw V) (aJ V.C)) 256=bF (yI R) V.C.length:=by
  rw [g];refine Xz _ (fun n hn=> ?_) _ (fun n a o=> ?_)
  ·unfold uQ yI;rw [c n om,hu n om,e n om,hL]
  ·unfold uQ;rw [e n om,h.sound.none n om a];simp
 have D:bF (uT (iw V) (aJ V.C)) 256=bF (yJ R) V.C.length:=by
  rw [g];refine Xz _ (fun n hn=> ?_) _ (fun n a o=> ?_)
  ·unfold uT yJ;rw [c n om,hu n om,e n om,hL]
  ·unfold uT;rw [e n om,h.sound.none n om a];simp
 have t: ∀ r ∈ aH N0 E,∀ s ∈ jB V.C r.N 2 0,pF R s.number=false∧sW R s.number=if AP (iw V) s.number then 1 else 0:=by
  intro r hr s hs;have u:s.number%32768<256∧1≤dN V.C (aH N0 E) (s.number%32768)∧(32768≤s.number→aQ V.C (s.number%32768)=1):=by
   have v: ∃ j,j<2∧nm V.C r.N j≠0∧(s=⟨r.N,j,nm V.C r.N j⟩∨s ∈ oD V.C (nm V.C r.N j%32768) 32 0):=by
    rw [jB,jB,jB,sN] at hs;rcases fK.1 hs with y | y
    ·split at y
     ·simp at y
     ·rename_i h0;exact ⟨0,om,h0,cO.1 y⟩
    ·split at y
     ·simp at y
     ·rename_i h0;exact ⟨1,om,h0,cO.1 y⟩
   obtain ⟨j,hj,h0,F⟩:=v;have f:fD V.C (aH N0 E) (nm V.C r.N j%32768):=⟨r,hr,j,hj,h0,rfl⟩;rcases F with rfl | hm
   ·have:=(h.sound.sec _ f).2
    exact ⟨by show nm V.C r.N j%32768<256;omega,SG f,fun d=>h.sound.Dl r hr j hj d⟩
   ·obtain ⟨a,_,M,l,G⟩:=ZJ _ _ _ _ _ hm;have p:oU V.C (aH N0 E) (s.number%32768):=⟨_,f,s.index,om,by rw [← l];exact G,by rw [← l]⟩
    have:=(h.sound.aG _ p).2
    exact ⟨om,SE p,fun d=>by rw [l] at d ⊢;exact h.sound.BI _ f s.index om d⟩
  obtain ⟨m,O,H⟩:=u;have hle:=h.sound.jI _ m;unfold pF sW AP;rw [hu _ m,c _ m,hL]
  by_cases hm:32768≤s.number
  ·have:=H hm
   have a:gZ (s.number%32768)+dN V.C (aH N0 E) (s.number%32768)=1:=om;rw [au hm,au hm,a,this,dZ hm];exact ⟨rfl,rfl⟩
  ·rw [ak hm,ak hm,gK hm];refine ⟨rfl,?_⟩
   by_cases a:gZ (s.number%32768)+dN V.C (aH N0 E) (s.number%32768)=1
   ·rw [au a,dZ a];rfl
   ·rw [ak a,gK a];rfl
 have I:xJ V (iw V) (bP V)=Bd R R.roots.length:=by
  rw [h.yE,hR];have key: ∀ k,k≤(aH N0 E).length→xJ V (iw V) (((aH N0 E).take k).map (·.N))=Bd R k:=by
   intro k
   induction k with
   | zero=>intro _;rfl
   | succ k ih=>
    intro hk;have i:k<(aH N0 E).length:=om;have hm:(aH N0 E)[k] ∈ aH N0 E:=o9 i;have w:rootOf R k=(aH N0 E)[k]:=by unfold rootOf;rw [hR,aN,bJ i];rfl
    rw [x9 i,rQ,List.map_singleton,ajH,ih om,Bd,w]
    congr 1
    have:=adG (R:=R) (iw V) ((aH N0 E)[k]).N 2 0 0 (by rw [hL];exact t _ hm)
    unfold marked;rw [this,hL,amL,V8 (h.sound.zero _ hm),rE]
  have:=key _ (aO _)
  rw [H7] at this;exact this
 unfold yx Dz;rw [A,B,D,I,h.file.Ll,hL]
end
section
variable {base:List aj} {V:aB} {N0:Nat} {E:List aW}
def abW {p:Nat→Bool} {n:Nat} (a:p n=true): ∀ k,n<k→0<bF p k
 | 0,h=>om
 | k+1,h=>by
  rw [bF]
  by_cases e:n=k
  ·subst e;rw [a,au rfl];omega
  ·have:=abW a k om;omega
def aY.aqB (h:aY base V N0 E) (i:(yx V).lost=0) (l:(yx V).over=0) (a:(yx V).SC=0):wJ V.C (aH N0 E):=by
 obtain ⟨t,q⟩:=h.ok.Gu rfl;have hlen:=h.sound.len;have m:=h.Wp;have i:bF (uQ (iw V) (aJ V.C)) 256=0:=i;have l:bF (uT (iw V) (aJ V.C)) 256=0:=l;have a:xJ V (iw V) (bP V)=0:=a;have heq: ∀ n,n<256→aQ V.C n=gZ n+dN V.C (aH N0 E) n:=by
  intro n hn;have hc:=h.sound.jI n hn;have c:uQ (iw V) (aJ V.C) n=false:=by
   cases e:uQ (iw V) (aJ V.C) n with
   | false=>rfl
   | true=>have:=abW e 256 hn;omega
  have d:uT (iw V) (aJ V.C) n=false:=by
   cases e:uT (iw V) (aJ V.C) n with
   | false=>rfl
   | true=>have:=abW e 256 hn;omega
  unfold uQ at c;unfold uT at d;rw [m n hn,q n hn] at c d;rw [Tc] at c d;rcases Nat.eq_zero_or_pos (gZ n+dN V.C (aH N0 E) n) with o | o
  ·rcases c with x | x
   ·rw [o] at x;cases x
   ·have:=F9 x;omega
  ·rcases d with x | x
   ·have:=F9 x;omega
   ·have:=F9 x;omega
 have p: ∀ r ∈ aH N0 E,∀ s ∈ jB V.C r.N 2 0,AP (iw V) s.number=false:=by
  intro r hr s hs;unfold xJ wR at a;rw [aaF,aaL] at a
  have:=a s.number (zT.2 ⟨r.N,by rw [h.yE];exact gY.2 ⟨r,hr,rfl⟩,by rw [amL,V8 (h.sound.zero r hr)];exact gY.2 ⟨s,hs,rfl⟩⟩)
  simpa using this
 have key: ∀ r ∈ aH N0 E,∀ s ∈ jB V.C r.N 2 0,s.number%32768<256→aQ V.C (s.number%32768)=1→32768≤s.number:=by
  intro r hr s hs f hc
  have:=p r hr s hs
  unfold AP at this;rw [m _ f,← heq _ f,hc,dZ rfl,um] at this;rcases J8 s.number 32768 with x | x
  ·rw [gK om] at this;cases this
  ·exact x
 refine ⟨heq,fun r hr j hj h0 hc=> ?_,fun s hs k hk h0 hc=> ?_⟩
 ·have:=(h.sound.sec _ ⟨r,hr,j,hj,h0,rfl⟩).2
  exact key r hr ⟨r.N,j,nm V.C r.N j⟩ (aad hj h0 _ (aA rfl)) (by show nm V.C r.N j%32768<256;omega) hc
 ·obtain ⟨r,hr,j,hj,g,rfl⟩:=hs
  have:=(h.sound.aG _ ⟨_,⟨r,hr,j,hj,g,rfl⟩,k,hk,h0,rfl⟩).2
  exact key r hr ⟨nm V.C r.N j%32768,k,nm V.C (nm V.C r.N j%32768) k⟩ (aad hj g _ (ay (ZI h0 32 0 om om))) (by show nm V.C (nm V.C r.N j%32768) k%32768<256;omega) hc
end
structure aop (file:List aj) (N0:Nat) (E:List aW):Prop where
 head:mD file=true
 bH:aY (dP file).C (dP file) N0 E
 bad:(look file).bad= -1
 L:(look file).L=(dP file).C
 roots:(look file).roots=aH N0 E
 low:vk 1000 (look file)
 state:yx (dP file)=Dz (look file)
 jw:D9 (look file)=bD (dP file).C N0 E
 exact:zW (look file)=true→wJ (dP file).C (aH N0 E)
def ak6 {file:List aj} (k: ∀ c ∈ file,c.length=64) (h:qY file= -1): ∃ N0 E,aop file N0 E:=by
 obtain ⟨N0,E,e,l,hs,hv⟩:=atI k h;have d:=e.VD;have f:dH (bg file (num (cl file 0) 4)) (aH N0 E):=by rw [← d];exact hs
 obtain ⟨m,i,j,o,p⟩:=e.look f;have g:yx (dP file)=Dz (look file):=hv.state (by rw [i,d]) j (fun n hn=>by rw [o n hn,d]);refine ⟨N0,E,l,hv,m,by rw [i,d],j,p,g,by rw [e.jw f,d],fun a=> ?_⟩;unfold zW at a;rw [← g] at a;simp only [wI,Tt] at a;exact hv.aqB a.1 a.2.1 a.2.2
def aiy (f:Nat): ∀ (a:List nR) (R:aU),(jZ f a R).1=false→0≤(jZ f a R).2.bad
 | [],R,h=>by cases h
 | s :: a,R,h=>by
  rw [jZ] at h ⊢
  by_cases c:(qN R f s).1=true
  ·rw [au c] at h ⊢;exact aiy f a _ h
  ·rw [ak c] at h ⊢;show 0≤(qN R f s).2.bad;rw [aeW (by simpa using c)];omega
def aiv: ∀ (fs:List Nat) (a:Nat) (R:aU),(nY fs a R).1=false→0≤(nY fs a R).2.bad
 | [],a,R,h=>by cases h
 | f :: fs,a,R,h=>by
  rw [nY] at h ⊢
  by_cases d:(rO f a R).1=true
  ·rw [au d] at h ⊢;exact aiv fs _ _ h
  ·rw [ak d] at h ⊢;have c:(rO f a R).1=false:=by simpa using d
   show 0≤(rO f a R).2.bad;unfold rO at c ⊢
   by_cases e:(tell R f 1 a).1=true
   ·rw [au e] at c ⊢;exact aiy f _ _ c
   ·rw [ak e] at c ⊢;show 0≤(tell R f 1 a).2.bad;rw [Z7 (by simpa using e)];omega
def atD (file:List aj):qY file= -1∨0≤qY file:=by
 unfold qY;split
 ·exact ay om
 ·split
  ·exact ay om
  ·split
   ·rename_i h;exact ay (aiv _ _ _ h)
   ·split
    ·rename_i h;exact ay h
    ·exact ao2 _
end
section
attribute [local go_sem ↓] dw fP fV jE
attribute [local go_sem] dM fO fU aV
end
end Go.Proofs.YtknjjjenklfeoaaGreatDoor
