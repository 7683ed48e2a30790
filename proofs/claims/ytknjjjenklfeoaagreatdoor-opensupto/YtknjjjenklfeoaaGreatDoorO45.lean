import Derived.Test.YtknjjjenklfeoaaGreatDoorO44
set_option maxHeartbeats 8000000
set_option maxRecDepth 100000
set_option linter.all false
namespace Go.Proofs.YtknjjjenklfeoaaGreatDoor
def Sj (U:List Nat) (k:List UInt8) (T n:Nat):Bool:=decide (aI k n<U.getD n 0) || (decide (254<aI k n) || (decide (T≤n) && decide (aI k n≠0)))
def Ak (U:List Nat) (k:List UInt8) (T:Nat):Nat→Nat→Int
 | 0,_=> -1
 | m+1,n=>if Sj U k T n then (n:Int) else Ak U k T m (n+1)
def rM (k:List UInt8) (s:mX):Bool:=decide (32768≤s.number) && decide (aI k (s.number%32768)≠1)
def JH:Option mX→Int
 | none=> -1
 | some s=>(s.table:Int)
def FC (C:List aj) (k:List UInt8) (fs:List Nat):Int:=JH ((fs.flatMap fun f=>jg C f 32 0).find? (rM k))
theorem af9 {U:List Nat} {k:List UInt8} {T:Nat} {R:aU}: ∀ m n,(∀ j,n≤j→j<n+m→Sj U k T j=DW R j)→Ak U k T m n=qm R m n
 | 0,_,_=>rfl
 | m+1,n,h=>by rw [Ak,qm,h n om om,af9 m (n+1) (fun j h1 h2=>h j om om)]
theorem aaK (R:aU): ∀ m n,qm R m n= -1∨0≤qm R m n
 | 0,_=>aA rfl
 | m+1,n=>by
  rw [qm];split
  ·exact ay om
  ·exact aaK R m (n+1)
theorem aaM {R:aU}: ∀ m n,qm R m n= -1→ ∀ j,n≤j→j<n+m→DW R j=false
 | 0,_,_,j,h1,h2=>om
 | m+1,n,h,j,h1,h2=>by
  rw [qm] at h
  split at h
  ·omega
  ·rename_i h0
   by_cases e:j=n
   ·rw [e];simpa using h0
   ·exact aaM m (n+1) h j om om
theorem aiH (R:aU): ∀ m i b,0≤b→wX R m i b=b
 | 0,_,_,_=>rfl
 | m+1,i,b,h=>by rw [wX,ak om]
section
variable {L:List aj} {rs:List bC} {b:Int} {R:aU}
theorem Yt (C:List aj) (t:Nat) (s:mX): ∀ m k,s ∈ nX C t m k→s.table=t∧k≤s.index∧s.index<k+m∧s.number=nm C t s.index∧s.number≠0
 | 0,_,h=>by simp [nX] at h
 | m+1,k,h=>by
  rw [nX] at h;rcases gq.1 h with y | y
  ·split at y
   ·simp at y
   ·rename_i h0;rw [jw.1 y];exact ⟨rfl,aP _,by show k<_;omega,rfl,h0⟩
  ·obtain ⟨h1,h2,h3,h4⟩:=Yt C t s m (k+1) y;exact ⟨h1,om,om,h4⟩
theorem UK {C:List aj} {t:Nat} (hz: ∀ i,1<i→i<32→nm C t i=0):jg C t 32 0=jg C t 2 0:=by
 have key: ∀ m i,2≤i→i+m=32→jg C t m i=[]:=by
  intro m
  induction m with
  | zero=>intro i _ _;rfl
  | succ m ih=>intro i h1 h2;rw [jg,au (hz i om om),ih (i+1) om om];rfl
 have h2:=key 30 2 om om;show (if nm C t 0=0 then [] else _)++((if nm C t 1=0 then [] else _)++jg C t 30 2)=_;rw [h2];rfl
theorem aoz {p:mX→Bool} {l:List mX} {t:Nat} (ht: ∀ s ∈ l,s.table=t):JH (l.find? p)=if (l.find? p).isNone then -1 else (t:Int):=by
 cases h:l.find? p with
 | none=>rfl
 | some s=>show (s.table:Int)=t;rw [ht s (List.mem_of_find?_eq_some h)]
theorem abU (k:List UInt8) (t:Nat): ∀ m j acc,(∀ i,j≤i→i<j+m→nm R.L t i≠0→ ∀ tb ix,oZ R (nm R.L t i)=rM k ⟨tb,ix,nm R.L t i⟩)→(sH R t m j acc).isNone= !((nX R.L t m j).find? (rM k)).isNone
 | 0,_,_,_=>rfl
 | m+1,j,acc,h=>by
  rw [sH,nX]
  by_cases h0:num (cl R.L t) (2*j)=0
  ·rw [au h0,au h0,ql];exact abU k t m (j+1) acc (fun i h1 h2=>h i om om)
  ·have e:=h j om om h0 t j;rw [ak h0,ak h0,UZ,ad6,← e];cases hb:oZ R (num (cl R.L t) (2*j)) with
   | true=>rfl
   | false=>exact abU k t m (j+1) _ (fun i h1 h2=>h i om om)
theorem abZ (k:List UInt8) (t:Nat): ∀ m i acc,(∀ s ∈ jg R.L t m i,oZ R s.number=rM k s)→(uS R t m i acc).1=JH ((jg R.L t m i).find? (rM k))
 | 0,_,_,_=>rfl
 | m+1,i,acc,h=>by
  rw [jg] at h;rw [uS,jg]
  by_cases h0:num (cl R.L t) (2*i)=0
  ·rw [au h0] at h;rw [au h0,au h0,ql];exact abZ k t m (i+1) acc h
  ·rw [ak h0] at h;have e:=h ⟨t,i,nm R.L t i⟩ sm;have hin: ∀ s ∈ nX R.L (nm R.L t i%32768) 32 0,oZ R s.number=rM k s:=fun s hs=>h s (by simp [hs]);have hrest: ∀ s ∈ jg R.L t m (i+1),oZ R s.number=rM k s:=fun s hs=>h s (by simp [hs]);rw [ak h0,ak h0,sO,ad6,← e];cases hb:oZ R (num (cl R.L t) (2*i)) with
   | true=>rfl
   | false=>
    have e3:=abU (R:=R) k (nm R.L t i%32768) 32 0 (acc+sG R (nm R.L t i)) (fun j h1 h2 h3 tb ix=>by
     have hm:(⟨nm R.L t i%32768,j,nm R.L (nm R.L t i%32768) j⟩:mX) ∈ nX R.L (nm R.L t i%32768) 32 0:=by
      have key: ∀ m k,k≤j→j<k+m→(⟨nm R.L t i%32768,j,nm R.L (nm R.L t i%32768) j⟩:mX) ∈ nX R.L (nm R.L t i%32768) m k:=by
       intro m
       induction m with
       | zero=>intro k h4 h5;omega
       | succ m ih=>
        intro k h4 h5;rw [nX]
        by_cases e:j=k
        ·subst e;rw [ak h3];simp
        ·exact gq.2 (ay (ih (k+1) om om))
      exact key 32 0 h1 h2
     exact (hin _ hm).trans rfl)
    have e4:=aoz (p:=rM k) (l:=nX R.L (nm R.L t i%32768) 32 0) (fun s hs=>(Yt _ _ _ _ _ hs).1);simp only [Bg,yc];rw [Rq];cases hx:sH R (num (cl R.L t) (2*i)%32768) 32 0 (acc+sG R (num (cl R.L t) (2*i))) with
    | none=>
     change sH R (nm R.L t i%32768) 32 0 (acc+sG R (nm R.L t i))=none at hx;rw [hx] at e3;cases hf:(nX R.L (nm R.L t i%32768) 32 0).find? (rM k) with
     | none=>rw [hf] at e3;cases e3
     | some s=>
      rw [hf] at e4;show _=JH (some s);rw [e4];rfl
    | some a=>
     change sH R (nm R.L t i%32768) 32 0 (acc+sG R (nm R.L t i))=some a at hx;rw [hx] at e3;cases hf:(nX R.L (nm R.L t i%32768) 32 0).find? (rM k) with
     | none=>exact abZ k t m (i+1) a hrest
     | some s=>rw [hf] at e3;cases e3
theorem amT (o:Option mX):JH o= -1∨0≤JH o:=by
 cases o with
 | none=>exact aA rfl
 | some s=>exact ay (by show (0:Int)≤(s.table:Int);omega)
theorem aiG (k:List UInt8) (hR:R.roots=rs) (hz: ∀ r ∈ rs,∀ i,1<i→i<32→nm R.L r.N i=0) (h: ∀ r ∈ rs,∀ s ∈ jg R.L r.N 32 0,oZ R s.number=rM k s): ∀ m i,i+m=rs.length→wX R m i (-1)=FC R.L k ((rs.drop i).map (·.N))
 | 0,i,hi=>by rw [U8 om];rfl
 | m+1,i,hi=>by
  have hlt:i<rs.length:=om;have hro:rootOf R i=rs[i]:=by unfold rootOf;rw [hR,aK,bI hlt];rfl
  have hm:rs[i] ∈ rs:=oP hlt;have e2:=UK (hz _ hm);rw [wX,au dc,hro,KO hlt];unfold FC;rw [jC,qA,Rq];have e:=abZ (R:=R) k rs[i].N 2 0 0 (by rw [← e2];exact h _ hm);unfold marked;rw [e,e2];cases hf:(jg R.L rs[i].N 2 0).find? (rM k) with
  | none=>
   have:=aiG k hR hz h m (i+1) om
   rw [Option.none_or];exact this
  | some s=>
   rw [Option.some_or];exact aiH R m (i+1) _ (by show (0:Int)≤(s.table:Int);omega)
end
theorem ahr {C:List aj} (n:Nat): ∀ rs:List bC,(∀ r ∈ rs,∀ i,1<i→i<32→nm C r.N i=0)→((rs.map (·.N)).flatMap (mZ C)).count n=dM C rs n
 | [],_=>rfl
 | r :: t,hz=>by
  have h1:=ahr n t (fun x hx=>hz x (MP _ hx));have h2:=V8 (hz r (Ro ..)) n;rw [jC,qA,Ik,h1,h2];simp [dM]
theorem auL {V:aB} {rs:List bC} (hf:bK V=rs.map (·.N)) (hz: ∀ r ∈ rs,∀ i,1<i→i<32→nm V.C r.N i=0) (n:Nat) (hn:n<256):(iE V).getD n 0=gX n+dM V.C rs n:=by
 unfold iE zq;rw [aao _ _ _ (by rw [XF 6 om];exact hn),ajb n,hf,ahr n rs hz]
theorem aaA {C:List aj} (hl: ∀ c ∈ C,c.length=64) (h5:5≤C.length):(aJ C).length=256∧ ∀ n,n<256→aI (aJ C) n=aS C n:=⟨BI C hl h5,fun n hn=>Gq hl h5 n hn⟩
section
variable {L:List aj} {rs:List bC} {R:aU}
structure yu (L:List aj) (rs:List bC):Prop where
 len:L.length≤256
 qj:6≤L.length
 ok:wK L (lM L rs rs.length 0)
 zero: ∀ r ∈ rs,∀ i,1<i→i<32→nm L r.N i=0
theorem yu.fst (h:yu L rs) {t:Nat} (hf:ng rs t):6≤t∧t<L.length:=by
 have:=h.ok.lo (t,1) ((AL h.zero _).2 (aA ⟨rfl,hf⟩))
 exact ⟨this.1,this.2.1⟩
theorem yu.sec (h:yu L rs) {t:Nat} (hf:fB L rs t):6≤t∧t<L.length:=by
 have:=h.ok.lo (t,2) ((AL h.zero _).2 (ay (aA ⟨rfl,hf⟩)))
 exact ⟨this.1,this.2.1⟩
theorem yu.aF (h:yu L rs) {t:Nat} (hf:oK L rs t):6≤t∧t<L.length:=by
 have:=h.ok.lo (t,3) ((AL h.zero _).2 (ay (ay ⟨rfl,hf⟩)))
 exact ⟨this.1,this.2.1⟩
theorem yu.Di {V:aB} (h:yu V.C rs) {f:Nat} (hf:f ∈ rs.map (·.N)):gJ V f:=by
 obtain ⟨r,hr,rfl⟩:=gQ.1 hf;have nums: ∀ (Pc:Nat→Prop) (t:Nat),(∀ j,j<32→num (cl V.C t) (2*j)≠0→Pc (num (cl V.C t) (2*j)%32768))→Ai Pc V.C t:=by
  intro Pc t hp j
  by_cases hj:j<32
  ·rw [uT _ _ hj];exact ⟨iD _ _,hp j hj⟩
  ·rw [aK,eu (by rw [numsOf_length];omega)];exact ⟨dc,fun x=>absurd rfl x⟩
 have two: ∀ j,j<32→nm V.C r.N j≠0→j<2:=fun j hj h0=>by
  rcases Jw j 2 with x | x
  ·exact x
  ·exact absurd (h.zero r hr j om hj) h0
 have nD: ∀ j,j<32→nm V.C r.N j≠0→tK V (nm V.C r.N j%32768):=fun j hj h0=>h.sec ⟨r,hr,j,two j hj h0,h0,rfl⟩;exact ⟨⟨h.fst ⟨r,hr,rfl⟩,nums _ _ nD⟩,nums _ _ fun j hj h0=>⟨nD j hj h0,nums _ _ fun k hk h1=>h.aF ⟨_,⟨r,hr,j,two j hj h0,h0,rfl⟩,k,hk,h1,rfl⟩⟩⟩
theorem yu.used (h:yu L rs) {b:Int} (hT:Told L rs b gX (lM L rs rs.length 0) R) (n:Nat) (hn:n<256):R.used.getD n 0=gX n+dM L rs n:=by
 rw [hT.used n hn,← N9 h.zero];rfl
theorem yu.ajm (h:yu L rs) (n:Nat) (hn:L.length≤n):gX n+dM L rs n=0:=by
 have h6:=h.qj;rw [vV,ak om,qR,← N9 h.zero];unfold zX;rw [FU];intro hm;obtain ⟨x,hx,rfl⟩:=gQ.1 hm
 have:=(h.ok.lo x hx).2.1
 omega
theorem yu.counts {V:aB} (h:yu V.C rs) (hl: ∀ c ∈ V.C,c.length=64) (hf:bK V=rs.map (·.N)) {b:Int} (hT:Told V.C rs b gX (lM V.C rs rs.length 0) R):
  Ak (iE V) (aJ V.C) V.C.length 256 0=qm R 256 0:=by
 obtain ⟨_,k2⟩:=aaA hl (by have:=h.qj;omega);refine af9 256 0 fun j _ hj=> ?_;have hj:j<256:=om;have hu:=h.used hT j hj;have hb:=h.ajm j;have hc:aS V.C j<256:=tV _ _;unfold Sj DW QW;rw [auL hf h.zero j hj,k2 j hj,hu,hT.hL];rw [Vk];simp only [Bool.or_eq_true,vU,CO,Rx,nR];constructor
 ·rintro (x | x | ⟨x,y⟩)
  ·left
   refine ⟨?_,x⟩;rcases Jw j V.C.length with z | z
   ·exact z
   ·have:=hb z;omega
  ·right;left;omega
  ·right;right;exact ⟨x,y⟩
 ·rintro (⟨_,x⟩ | x | ⟨x,y⟩)
  ·left;exact x
  ·right;left;omega
  ·right;right;exact ⟨x,y⟩
theorem yu.mark {V:aB} (h:yu V.C rs) (hl: ∀ c ∈ V.C,c.length=64) {b:Int} (hT:Told V.C rs b gX (lM V.C rs rs.length 0) R) (hc:qm R 256 0= -1):
  ∀ r ∈ rs,∀ s ∈ jg V.C r.N 32 0,oZ R s.number=rM (aJ V.C) s:=by
 intro r hr s hs;obtain ⟨_,k2⟩:=aaA hl (by have:=h.qj;omega);rw [UK (h.zero r hr)] at hs;have hs': ∃ j,j<2∧nm V.C r.N j≠0∧(s=⟨r.N,j,nm V.C r.N j⟩∨s ∈ nX V.C (nm V.C r.N j%32768) 32 0):=by
  rw [jg,jg,jg,rU] at hs;rcases gq.1 hs with y | y
  ·split at y
   ·simp at y
   ·rename_i h0;exact ⟨0,om,h0,dD.1 y⟩
  ·split at y
   ·simp at y
   ·rename_i h0;exact ⟨1,om,h0,dD.1 y⟩
 obtain ⟨j,hj,h0,hd⟩:=hs';have key:s.number%32768<V.C.length∧1≤dM V.C rs (s.number%32768):=by
  rcases hd with rfl | hm
  ·have hs:fB V.C rs (nm V.C r.N j%32768):=⟨r,hr,j,hj,h0,rfl⟩;exact ⟨(h.sec hs).2,QV hs⟩
  ·obtain ⟨h1,_,h3,h4,h5⟩:=Yt _ _ _ _ _ hm;have hb:oK V.C rs (s.number%32768):=⟨_,⟨r,hr,j,hj,h0,rfl⟩,s.index,om,by rw [← h4];exact h5,by rw [← h4]⟩;exact ⟨(h.aF hb).2,QU hb⟩
 have h256:=h.len;have hn:s.number%32768<256:=om;have hu:=h.used hT _ hn;have hbc:=aaM 256 0 hc (s.number%32768) om om;unfold DW QW at hbc;rw [hT.hL,hu,Bj,Rk] at hbc;have hle:gX (s.number%32768)+dM V.C rs (s.number%32768)≤aS V.C (s.number%32768):=by
  rcases hbc.1 with x | x
  ·have:=EL x;omega
  ·have:=EL x;omega
 unfold oZ rM;rw [k2 _ hn,hT.hL,hu]
 by_cases hm:32768≤s.number
 ·rw [au hm,eH hm,tC]
  by_cases h1:aS V.C (s.number%32768)=1
  ·have:gX (s.number%32768)+dM V.C rs (s.number%32768)=1:=om
   rw [this,h1];rfl
  ·rw [eH h1];simp [h1]
 ·rw [ak hm,gU hm,Jr]
theorem aoy {p:mX→Bool} {l:List mX} (h:JH (l.find? p)= -1): ∀ s ∈ l,p s=false:=by
 cases hf:l.find? p with
 | none=>intro s hs;simpa using List.find?_eq_none.1 hf s hs
 | some s=>rw [hf] at h;change (s.table:Int)= -1 at h;omega
theorem YO {C:List aj} {t j:Nat} (hj:j<2) (h0:nm C t j≠0) (s:mX) (hs:s=⟨t,j,nm C t j⟩∨s ∈ nX C (nm C t j%32768) 32 0):s ∈ jg C t 2 0:=by
 rw [jg,jg,jg,rU]
 have:j=0∨j=1:=om
 rcases this with rfl | rfl
 ·rw [ak h0];exact gq.2 (aA (dD.2 hs))
 ·rw [ak h0];exact gq.2 (ay (dD.2 hs))
theorem Yr {C:List aj} {t j:Nat} (h0:nm C t j≠0): ∀ m k,k≤j→j<k+m→(⟨t,j,nm C t j⟩:mX) ∈ nX C t m k
 | 0,k,h4,h5=>om
 | m+1,k,h4,h5=>by
  rw [nX]
  by_cases e:j=k
  ·subst e;rw [ak h0];simp
  ·exact gq.2 (ay (Yr h0 m (k+1) om om))
theorem yu.sound {V:aB} (h:yu V.C rs) (hl: ∀ c ∈ V.C,c.length=64) {b:Int} (hT:Told V.C rs b gX (lM V.C rs rs.length 0) R) (hc:qm R 256 0= -1) (hm:FC V.C (aJ V.C) (rs.map (·.N))= -1):cZ V.C rs:=by
 obtain ⟨_,k2⟩:=aaA hl (by have:=h.qj;omega);have h256:=h.len;have hbad:=aaM 256 0 hc;have hcnt: ∀ n,n<256→(n<V.C.length→gX n+dM V.C rs n≤aS V.C n)∧aS V.C n≠255∧(V.C.length≤n→aS V.C n=0):=by
  intro n hn;have hbc:=hbad n om om;unfold DW QW at hbc;rw [hT.hL,h.used hT n hn,Bj,Rk,Bj,Rk] at hbc;obtain ⟨h1,h2,h3⟩:=hbc;refine ⟨fun hlt=> ?_,by simpa using h2,fun hge=> ?_⟩
  ·rcases h1 with x | x
   ·have:=EL x;omega
   ·have:=EL x;omega
  ·rcases h3 with x | x
   ·have:=EL x;omega
   ·simpa using x
 have hall:=aoy hm;have hmk: ∀ r ∈ rs,∀ s ∈ jg V.C r.N 2 0,32768≤s.number→s.number%32768<256→aS V.C (s.number%32768)=1:=by
  intro r hr s hs hmm hlt;have h1:=hall s (Ae.2 ⟨r.N,gQ.2 ⟨r,hr,rfl⟩,by rw [UK (h.zero r hr)];exact hs⟩);unfold rM at h1;rw [eH hmm,tC,k2 _ hlt] at h1
  have:=EL h1
  omega
 have kinds: ∀ a b t,(t,a) ∈ lM V.C rs rs.length 0→(t,b) ∈ lM V.C rs rs.length 0→a=b:=fun a b t h1 h2=>h.ok.kind _ h1 _ h2 rfl;refine ⟨h.len,h.qj,fun r hr=>h.fst ⟨r,hr,rfl⟩,?_,h.zero,fun s hs=>h.sec hs,fun s hs=>h.aF hs,fun t h1 h2=> ?_,fun t h1 h2=> ?_,fun t h1 h2=> ?_,fun n hn=> ?_,fun n hn=> ?_,fun n hn hL=>(hcnt n hn).2.2 hL,fun r hr j hj hmm=> ?_,fun s hs k hk hmm=> ?_⟩
 ·rw [List.nodup_iff_count];intro n;rw [← aaI (L:=V.C) n rs h.zero,← VI];exact h.ok.once n
 ·have:=kinds 1 2 t ((AL h.zero _).2 (aA ⟨rfl,h1⟩)) ((AL h.zero _).2 (ay (aA ⟨rfl,h2⟩)))
  omega
 ·have:=kinds 1 3 t ((AL h.zero _).2 (aA ⟨rfl,h1⟩)) ((AL h.zero _).2 (ay (ay ⟨rfl,h2⟩)))
  omega
 ·have:=kinds 2 3 t ((AL h.zero _).2 (ay (aA ⟨rfl,h1⟩))) ((AL h.zero _).2 (ay (ay ⟨rfl,h2⟩)))
  omega
 ·rcases Jw n V.C.length with z | z
  ·exact (hcnt n hn).1 z
  ·rw [h.ajm n z];exact nN _
 ·have:=(hcnt n hn).2.1
  have:aS V.C n<256:=tV _ _
  omega
 ·have h0:nm V.C r.N j≠0:=by intro e;rw [e] at hmm;omega
  have:=(h.sec ⟨r,hr,j,hj,h0,rfl⟩).2
  exact hmk r hr ⟨r.N,j,nm V.C r.N j⟩ (YO hj h0 _ (aA rfl)) hmm (by show nm V.C r.N j%32768<256;omega)
 ·obtain ⟨r,hr,j,hj,h0,rfl⟩:=hs;have h1:nm V.C (nm V.C r.N j%32768) k≠0:=by intro e;rw [e] at hmm;omega
  have:=(h.aF ⟨_,⟨r,hr,j,hj,h0,rfl⟩,k,hk,h1,rfl⟩).2
  exact hmk r hr ⟨nm V.C r.N j%32768,k,nm V.C (nm V.C r.N j%32768) k⟩ (YO hj h0 _ (ay (Yr h1 32 0 om om))) hmm (by show nm V.C (nm V.C r.N j%32768) k%32768<256;omega)
end
def dJ (file:List aj):aB:=⟨aZ file (num (cl file 0) 4),[],false,decide (file.length<num (cl file 0) 4)⟩
def rO (file:List aj):Int:=
 if lQ file=false then 0
 else if wW (cl (dJ file).C 5)=false then 5
 else if (nC (bK (dJ file)) 0 (qE file)).1=false then (nC (bK (dJ file)) 0 (qE file)).2.bad
 else if 0≤Ak (iE (dJ file)) (aJ (dJ file).C) (dJ file).C.length 256 0 then Ak (iE (dJ file)) (aJ (dJ file).C) (dJ file).C.length 256 0
 else FC (dJ file).C (aJ (dJ file).C) (bK (dJ file))
theorem Tz {file:List aj} (h:lQ file=true):6≤file.length∧file.length≤256∧(cl file 0).take 4=yR∧7≤num (cl file 0) 4∧num (cl file 0) 4≤256∧file.length≤num (cl file 0) 4∧uX (cl file 0) 56 8=true:=by
 unfold lQ at h;simp only [vU,CO] at h;exact h
section
variable {file:List aj}
theorem H9 (file:List aj):(dJ file).C.length=num (cl file 0) 4:=jV _ _
theorem Oa (hl: ∀ c ∈ file,c.length=64): ∀ c ∈ (dJ file).C,c.length=64:=acs hl _
theorem XI (h:lQ file=true) (t:Nat) (ht:t<file.length):cl (dJ file).C t=cl file t:=by
 obtain ⟨_,_,_,_,_,h6,_⟩:=Tz h;show cl (aZ file _) t=_;rw [Gs _ _ _ om,lV ht]
theorem aaY (h:lQ file=true) (hl: ∀ c ∈ file,c.length=64) (hg:wW (cl (dJ file).C 5)=true): ∃ E,kM file (num (cl file 0) 4) (num (cl file 0) 6) E:=by
 obtain ⟨h1,h2,h3,h4,h5,h6,h7⟩:=Tz h;have hc0:(cl file 0).length=64:=iM hl om;rw [XI h 5 om] at hg;obtain ⟨E,hE,he⟩:=(ah8 (iM hl om)).1 hg;have hh:Tv (cl file 0)=true:=by rw [abn hc0,h7,eH h3];rfl
 exact ⟨E,hl,h1,h6,h4,h5,iD _ _,(Zo hh).symm,he,hE⟩
theorem ap0 (h:lQ file=true) (hl: ∀ c ∈ file,c.length=64):(iO (gu file)).1=wW (cl (dJ file).C 5):=by
 obtain ⟨h1,_,_,h4,_,_,_⟩:=Tz h;exact (apY (iM (Oa hl) (by rw [H9];omega)) _).symm
variable {T N0:Nat} {E:List aX}
theorem kM.Uj (h:kM file T N0 E):(dJ file).C=aZ file T:=by show aZ file _=_;rw [h.Qq]
theorem kM.cl5 (h:kM file T N0 E) (t:Nat) (ht:t<file.length):cl (aZ file T) t=cl file t:=by rw [Gs _ _ _ (by have:=h.le;omega),lV ht]
theorem kM.XH (h:kM file T N0 E):bK (dJ file)=(aH N0 E).map (·.N):=by
 have h6:=h.qj;unfold bK;rw [h.Uj,h.cl5 0 om,h.Cc,h.jT.zZ (by rw [h.cl5 5 om];exact h.list)];simp [aH,kV]
theorem kM.R2 (h:kM file T N0 E):qE file=⟨aZ file T,aH N0 E,EJ,UQ,-1⟩:=by
 show (⟨(gu file).L,(Go.Proofs.YtknjjjenklfeoaaGreatDoor.iO (gu file)).2,_,_,_⟩:aU)=_;rw [h.iO,h.pad];rfl
theorem kM.nums (h:kM file T N0 E):iG file=nC ((aH N0 E).map (·.N)) 0 (qE file):=by
 have hm:=h.most;have key:=aoG (aH N0 E) 0 (aH N0 E).length 0 (qE file) om (by rw [h.R2]) (by rw [h.R2];show (aZ file T).length≤EJ.length;rw [jV,Y4];exact hm) (fun j _ hj=>by
  by_cases e:j=0
  ·subst e;rfl
  ·rw [ak e];obtain ⟨q,rfl⟩: ∃ q,j=q+1:=⟨j - 1,om⟩;unfold aH at hj ⊢;rw [Jt,aK,jD,bI (by simpa using hj)]
   rfl)
 rw [U9] at key;rw [key];unfold iG;rw [h.R2]
theorem kM.aum (h:kM file T N0 E):Told (aZ file T) (aH N0 E) (-1) gX [] (qE file):=by
 rw [h.R2];exact ⟨rfl,rfl,rfl,Y4,YV,fun x hx=>by simp at hx,fun n _=>by
   show EJ.getD n 0=0;unfold EJ;rw [aK,qU]
   split <;> rfl,fun n _=>rfl⟩
theorem kM.trees (h:kM file T N0 E) (h3:(iG file).1=true):yu (aZ file T) (aH N0 E)∧Told (aZ file T) (aH N0 E) (-1) gX (lM (aZ file T) (aH N0 E) (aH N0 E).length 0) (iG file).2:=by
 have hm:=h.most;have h7:=h.seven;have e:iG file=AZ (aH N0 E).length 0 (qE file):=by unfold iG;rw [h.R2]
 rw [e] at h3 ⊢;obtain ⟨h4,h5,h6⟩:=akO (rs:=aH N0 E) (b:= -1) (base:=gX) (L:=aZ file T) (by rw [jV];exact hm) (aH N0 E).length 0 [] (qE file) om h.aum ⟨fun x hx=>by simp at hx,fun x hx=>by simp at hx,fun n=>sm⟩ h3;rw [ql] at h4 h6;refine ⟨⟨by rw [jV];exact hm,by rw [jV];omega,h4,fun r hr i hi1 hi2=> ?_⟩,h6⟩;obtain ⟨j,hj,rfl⟩:=Rn hr
 have:=h5 j om om i hi1 hi2
 rw [aK,bI hj] at this;exact this
theorem ais (hl: ∀ c ∈ file,c.length=64):(look file).bad=rO file:=by
 unfold rO
 by_cases hh:lQ file=false
 ·rw [au hh];unfold look;rw [au hh]
 ·rw [ak hh];have hh':lQ file=true:=by simpa using hh
  have hlo:=ap0 hh' hl
  by_cases hg:wW (cl (dJ file).C 5)=false
  ·rw [au hg];unfold look;rw [ak hh,hlo,au hg]
  ·rw [ak hg];have hg':wW (cl (dJ file).C 5)=true:=by simpa using hg
   obtain ⟨E,hE⟩:=aaY hh' hl hg';have hn:=hE.nums;have hf:=hE.XH;have hC:=hE.Uj;have e0:look file=if (iG file).1=false then (iG file).2 else { (iG file).2 with bad:=wX (iG file).2 (iG file).2.roots.length 0 (qm (iG file).2 256 0) }:=by
    unfold look;rw [ak hh,hlo,ak hg]
   rw [e0,hf,← hn]
   by_cases h3:(iG file).1=false
   ·rw [au h3,au h3]
   ·rw [ak h3,ak h3];have h3':(iG file).1=true:=by simpa using h3
    obtain ⟨ht,hT⟩:=hE.trees h3';rw [← hC] at ht hT;have hc:=ht.counts (Oa hl) hf hT;have hvl:=Oa hl;clear e0 hn;generalize iG file=Q at*;generalize dJ file=V at*;show wX Q.2 Q.2.roots.length 0 (qm Q.2 256 0)=_;rw [hc];rcases aaK Q.2 256 0 with hx | hx
    ·rw [ak om,hx,hT.hR]
     have:=aiG (aJ V.C) hT.hR (by rw [hT.hL];exact ht.zero) (by rw [hT.hL];exact ht.mark hvl hT hx) (aH (num (cl file 0) 6) E).length 0 om
     rw [this,hT.hL,U9]
    ·rw [au hx];exact aiH _ _ _ _ hx
theorem arj (hl: ∀ c ∈ file,c.length=64) (h:rO file= -1): ∃ N0 E,kM file (num (cl file 0) 4) N0 E∧lQ file=true∧cZ (dJ file).C (aH N0 E)∧bD (dJ file).C (dJ file) N0 E:=by
 unfold rO at h
 by_cases hh:lQ file=false
 ·rw [au hh] at h;omega
 ·rw [ak hh] at h;have hh':lQ file=true:=by simpa using hh
  by_cases hg:wW (cl (dJ file).C 5)=false
  ·rw [au hg] at h;omega
  ·rw [ak hg] at h;have hg':wW (cl (dJ file).C 5)=true:=by simpa using hg
   obtain ⟨E,hE⟩:=aaY hh' hl hg';have hn:=hE.nums;have hf:=hE.XH;have hC:=hE.Uj;rw [hf,← hn] at h
   by_cases h3:(iG file).1=false
   ·rw [au h3] at h;have hb:0≤(iG file).2.bad:=by
     rw [hn] at h3 ⊢;have key: ∀ (fs:List Nat) (a:Nat) (R:aU),(nC fs a R).1=false→0≤(nC fs a R).2.bad:=by
      intro fs
      induction fs with
      | nil=>intro a R hx;cases hx
      | cons f fs ih=>
       intro a R hx;rw [nC] at hx ⊢
       by_cases h2:(qZ f a R).1=true
       ·rw [au h2] at hx ⊢;exact ih _ _ hx
       ·rw [ak h2] at hx ⊢;have h2':(qZ f a R).1=false:=by simpa using h2
        show 0≤(qZ f a R).2.bad;unfold qZ at h2' ⊢
        by_cases h4:(tell R f 1 a).1=true
        ·rw [au h4] at h2' ⊢;have key2: ∀ (ss:List mX) (R:aU),(jH f ss R).1=false→0≤(jH f ss R).2.bad:=by
          intro ss
          induction ss with
          | nil=>intro R hy;cases hy
          | cons s ss ih2=>
           intro R hy;rw [jH] at hy ⊢
           by_cases h5:(qx R f s).1=true
           ·rw [au h5] at hy ⊢;exact ih2 _ hy
           ·rw [ak h5] at hy ⊢;show 0≤(qx R f s).2.bad;rw [ado (by simpa using h5)];omega
         exact key2 _ _ h2'
        ·rw [ak h4] at h2' ⊢;show 0≤(tell R f 1 a).2.bad;rw [YK (by simpa using h4)];omega
     exact key _ _ _ h3
    omega
   ·rw [ak h3] at h;have h3':(iG file).1=true:=by simpa using h3
    obtain ⟨ht,hT⟩:=hE.trees h3';rw [← hC] at ht hT;have hc:=ht.counts (Oa hl) hf hT;rw [hc] at h;rcases aaK (iG file).2 256 0 with hx | hx
    ·rw [ak om] at h;have hs:=ht.sound (Oa hl) hT hx h;obtain ⟨h1,h2,_,h4,h5,h6,_⟩:=Tz hh';refine ⟨_,E,hE,hh',hs,⟨⟨Oa hl,by rw [H9];omega,aP _,by rw [H9];exact h4,by rw [H9];exact h5,hE.n0,?_,?_,hE.jT⟩,hs,rfl,⟨fun _=>by rw [H9];omega,rfl,fun x hx=>(by cases hx),fun _=>aA rfl⟩⟩⟩
     ·rw [XI hh' 0 om,H9];exact hE.head
     ·rw [XI hh' 5 om];exact hE.list
    ·rw [au hx] at h;omega
end
section
variable {base:List aj} {V:aB} {N0:Nat} {E:List aX} {R:aU}
theorem VW {p q:Nat→Bool} (a:Nat) (h: ∀ n,n<a→p n=q n): ∀ m,(∀ n,a≤n→n<a+m→p n=false)→bF p (a+m)=bF q a
 | 0,_=>by rw [jL];exact anP a h
 | m+1,h2=>by rw [Nat.add_succ,bF,VW a h m (fun n h3 h4=>h2 n h3 om),h2 (a+m) om om];rfl
theorem ahU (M:List Nat) (n:Nat) (ns:List Nat):wV M (n :: ns)=(if BP M n then 1 else 0)+wV M ns:=by
 have:=abE M [n] ns
 rw [UZ] at this;rw [this]
 congr 1
 unfold wV;cases h:BP M n <;> simp [h]
theorem asf (C:List aj) (t:Nat):Du (numsOf (cl C t))=(nX C t 32 0).map (·.number):=by
 have key: ∀ m k,k+m=32→Du ((numsOf (cl C t)).drop k)=(nX C t m k).map (·.number):=by
  intro m
  induction m with
  | zero=>intro k hk;rw [U8 (by rw [numsOf_length];omega)];rfl
  | succ m ih=>
   intro k hk;have hlt:k<(numsOf (cl C t)).length:=by rw [numsOf_length];omega
   have hg:(numsOf (cl C t))[k]=nm C t k:=by
    have:=uT (cl C t) k om
    rw [aK,bI hlt] at this;exact this
   rw [KO hlt,nX,rE,← ih (k+1) om,hg];unfold Du;rw [Zl]
   by_cases h0:nm C t k=0
   ·rw [ak (by simp [h0]),au h0];rfl
   ·rw [au (by simp [h0]),ak h0];rfl
 have:=key 32 0 om
 rw [U9] at this;exact this
theorem abV (M:List Nat) (t:Nat): ∀ m k acc,(∀ j,k≤j→j<k+m→nm R.L t j≠0→oZ R (nm R.L t j)=false∧sG R (nm R.L t j)=if BP M (nm R.L t j) then 1 else 0)→sH R t m k acc=some (acc+wV M ((nX R.L t m k).map (·.number)))
 | 0,_,acc,_=>rfl
 | m+1,k,acc,h=>by
  rw [sH,nX]
  by_cases h0:num (cl R.L t) (2*k)=0
  ·rw [au h0,au h0,ql];exact abV M t m (k+1) acc (fun j h1 h2=>h j om om)
  ·obtain ⟨h1,h2⟩:=h k om om h0;change oZ R (num (cl R.L t) (2*k))=false at h1;change sG R (num (cl R.L t) (2*k))=_ at h2;rw [ak h0,ak h0,h1,h2,UZ,jC,ahU];simp only [Bg,yc];rw [abV M t m (k+1) _ (fun j h1 h2=>h j om om),OL]
theorem ab1 (M:List Nat) (t:Nat): ∀ m i acc,(∀ s ∈ jg R.L t m i,oZ R s.number=false∧sG R s.number=if BP M s.number then 1 else 0)→uS R t m i acc=(-1,acc+wV M ((jg R.L t m i).map (·.number)))
 | 0,_,acc,_=>rfl
 | m+1,i,acc,h=>by
  rw [jg] at h;rw [uS,jg]
  by_cases h0:num (cl R.L t) (2*i)=0
  ·rw [au h0] at h;rw [au h0,au h0,ql];exact ab1 M t m (i+1) acc h
  ·rw [ak h0] at h;obtain ⟨h1,h2⟩:=h ⟨t,i,nm R.L t i⟩ sm;have hin:=abV (R:=R) M (nm R.L t i%32768) 32 0 (acc+if BP M (nm R.L t i) then 1 else 0) (fun j j1 j2 j3=>h ⟨nm R.L t i%32768,j,nm R.L (nm R.L t i%32768) j⟩ (by
    have:=Yr (C:=R.L) (t:=nm R.L t i%32768) (j:=j) j3 32 0 j1 j2
    simp [this]))
   change oZ R (num (cl R.L t) (2*i))=false at h1;change sG R (num (cl R.L t) (2*i))=_ at h2;rw [ak h0,ak h0,h1,h2];simp only [Bg,yc];change sH R (num (cl R.L t) (2*i)%32768) 32 0 _=_ at hin;rw [hin];show uS R t m (i+1) _=_;rw [ab1 M t m (i+1) _ (fun s hs=>h s (by simp [hs])),sO,jC,rE,ahU,abE];show ((-1:Int),_)=_
   congr 1
   dsimp only;omega
theorem akI (C:List aj) (f:Nat):Ic C f=(jg C f 32 0).map (·.number):=by
 have key: ∀ m i,i+m=32→((Du ((numsOf (cl C f)).drop i)).flatMap fun s=>s :: Du (numsOf (cl C (s%32768))))=(jg C f m i).map (·.number):=by
  intro m
  induction m with
  | zero=>intro k hk;rw [U8 (by rw [numsOf_length];omega)];rfl
  | succ m ih=>
   intro k hk;have hlt:k<(numsOf (cl C f)).length:=by rw [numsOf_length];omega
   have hg:(numsOf (cl C f))[k]=nm C f k:=by
    have:=uT (cl C f) k om
    rw [aK,bI hlt] at this;exact this
   rw [KO hlt,jg,rE,← ih (k+1) om,hg];unfold Du;rw [Zl]
   by_cases h0:nm C f k=0
   ·rw [ak (by simp [h0]),au h0];rfl
   ·rw [au (by simp [h0]),ak h0,qA]
    congr 1
    rw [jC,← asf];rfl
 have:=key 32 0 om
 rw [U9] at this;exact this
theorem bD.state (h:bD base V N0 E) (hL:R.L=V.C) (hR:R.roots=aH N0 E) (hu: ∀ n,n<256→R.used.getD n 0=gX n+dM V.C (aH N0 E) n):EY V=Cm R:=by
 obtain ⟨k1,k2⟩:=h.ok.Gu rfl;have hlen:=h.sound.len;have Az:=h.adJ;have hpast: ∀ n,V.C.length≤n→gX n+dM V.C (aH N0 E) n=0:=fun n hn=>by
  have h6:=h.sound.qj;rw [vV,ak om,qR,← N9 h.sound.zero];unfold zX;rw [FU];intro hm;obtain ⟨x,hx,rfl⟩:=gQ.1 hm
  have:=(h.sound.ok.lo x hx).2.1
  omega
 have e256:256=V.C.length+(256 - V.C.length):=om;have e1:bF (yQ (iE V)) 256=bF (zx R) V.C.length:=by
  rw [e256];refine VW _ (fun n hn=> ?_) _ (fun n h1 h2=> ?_)
  ·unfold yQ zx;rw [Az n om,hu n om]
  ·unfold yQ;rw [Az n om,hpast n h1];rfl
 have e2:bF (vS (iE V) (aJ V.C)) 256=bF (xO R) V.C.length:=by
  rw [e256];refine VW _ (fun n hn=> ?_) _ (fun n h1 h2=> ?_)
  ·unfold vS xO;rw [Az n om,hu n om,k2 n om,hL]
  ·unfold vS;rw [k2 n om,h.sound.none n om h1];simp
 have e3:bF (vT (iE V) (aJ V.C)) 256=bF (xP R) V.C.length:=by
  rw [e256];refine VW _ (fun n hn=> ?_) _ (fun n h1 h2=> ?_)
  ·unfold vT xP;rw [Az n om,hu n om,k2 n om,hL]
  ·unfold vT;rw [k2 n om,h.sound.none n om h1];simp
 have hfind: ∀ r ∈ aH N0 E,∀ s ∈ jg V.C r.N 2 0,oZ R s.number=false∧sG R s.number=if BP (iE V) s.number then 1 else 0:=by
  intro r hr s hs;have hsr:s.number%32768<256∧1≤dM V.C (aH N0 E) (s.number%32768)∧(32768≤s.number→aS V.C (s.number%32768)=1):=by
   have hs': ∃ j,j<2∧nm V.C r.N j≠0∧(s=⟨r.N,j,nm V.C r.N j⟩∨s ∈ nX V.C (nm V.C r.N j%32768) 32 0):=by
    rw [jg,jg,jg,rU] at hs;rcases gq.1 hs with y | y
    ·split at y
     ·simp at y
     ·rename_i h0;exact ⟨0,om,h0,dD.1 y⟩
    ·split at y
     ·simp at y
     ·rename_i h0;exact ⟨1,om,h0,dD.1 y⟩
   obtain ⟨j,hj,h0,hd⟩:=hs';have nD:fB V.C (aH N0 E) (nm V.C r.N j%32768):=⟨r,hr,j,hj,h0,rfl⟩;rcases hd with rfl | hm
   ·have:=(h.sound.sec _ nD).2
    exact ⟨by show nm V.C r.N j%32768<256;omega,QV nD,fun hmm=>h.sound.BU r hr j hj hmm⟩
   ·obtain ⟨h1,_,h3,h4,h5⟩:=Yt _ _ _ _ _ hm;have hb:oK V.C (aH N0 E) (s.number%32768):=⟨_,nD,s.index,om,by rw [← h4];exact h5,by rw [← h4]⟩
    have:=(h.sound.aF _ hb).2
    exact ⟨om,QU hb,fun hmm=>by rw [h4] at hmm ⊢;exact h.sound.AB _ nD s.index om hmm⟩
  obtain ⟨g1,g2,g3⟩:=hsr;have hle:=h.sound.jy _ g1;unfold oZ sG BP;rw [hu _ g1,Az _ g1,hL]
  by_cases hm:32768≤s.number
  ·have:=g3 hm
   have h1:gX (s.number%32768)+dM V.C (aH N0 E) (s.number%32768)=1:=om;rw [au hm,au hm,h1,this,eH hm];exact ⟨rfl,rfl⟩
  ·rw [ak hm,ak hm,gU hm];refine ⟨rfl,?_⟩
   by_cases h1:gX (s.number%32768)+dM V.C (aH N0 E) (s.number%32768)=1
   ·rw [au h1,eH h1];rfl
   ·rw [ak h1,gU h1];rfl
 have e4:yI V (iE V) (bK V)=Ac R R.roots.length:=by
  rw [h.Au,hR];have key: ∀ k,k≤(aH N0 E).length→yI V (iE V) (((aH N0 E).take k).map (·.N))=Ac R k:=by
   intro k
   induction k with
   | zero=>intro _;rfl
   | succ k ih=>
    intro hk;have hlt:k<(aH N0 E).length:=om;have hm:(aH N0 E)[k] ∈ aH N0 E:=oP hlt;have hro:rootOf R k=(aH N0 E)[k]:=by unfold rootOf;rw [hR,aK,bI hlt];rfl
    rw [yU hlt,rE,List.map_singleton,ahT,ih om,Ac,hro]
    congr 1
    have:=ab1 (R:=R) (iE V) ((aH N0 E)[k]).N 2 0 0 (by rw [hL];exact hfind _ hm)
    unfold marked;rw [this,hL,akI,UK (h.sound.zero _ hm),qR]
  have:=key _ (aP _)
  rw [Ij] at this;exact this
 unfold EY Cm;rw [e1,e2,e3,e4,h.file.Qq,hL]
end
section
variable {base:List aj} {V:aB} {N0:Nat} {E:List aX}
theorem aay {p:Nat→Bool} {n:Nat} (hp:p n=true): ∀ k,n<k→0<bF p k
 | 0,h=>om
 | k+1,h=>by
  rw [bF]
  by_cases e:n=k
  ·subst e;rw [hp,au rfl];omega
  ·have:=aay hp k om;omega
theorem bD.aou (h:bD base V N0 E) (h1:(EY V).lost=0) (h2:(EY V).over=0) (h3:(EY V).QT=0):wI V.C (aH N0 E):=by
 obtain ⟨k1,k2⟩:=h.ok.Gu rfl;have hlen:=h.sound.len;have Az:=h.adJ;have h1:bF (vS (iE V) (aJ V.C)) 256=0:=h1;have h2:bF (vT (iE V) (aJ V.C)) 256=0:=h2;have h3:yI V (iE V) (bK V)=0:=h3;have heq: ∀ n,n<256→aS V.C n=gX n+dM V.C (aH N0 E) n:=by
  intro n hn;have hc:=h.sound.jy n hn;have hl:vS (iE V) (aJ V.C) n=false:=by
   cases e:vS (iE V) (aJ V.C) n with
   | false=>rfl
   | true=>have:=aay e 256 hn;omega
  have ho:vT (iE V) (aJ V.C) n=false:=by
   cases e:vT (iE V) (aJ V.C) n with
   | false=>rfl
   | true=>have:=aay e 256 hn;omega
  unfold vS at hl;unfold vT at ho;rw [Az n hn,k2 n hn] at hl ho;rw [Rk] at hl ho;rcases Nat.eq_zero_or_pos (gX n+dM V.C (aH N0 E) n) with hz | hz
  ·rcases hl with x | x
   ·rw [hz] at x;cases x
   ·have:=EL x;omega
  ·rcases ho with x | x
   ·have:=EL x;omega
   ·have:=EL x;omega
 have hno: ∀ r ∈ aH N0 E,∀ s ∈ jg V.C r.N 2 0,BP (iE V) s.number=false:=by
  intro r hr s hs;unfold yI wV at h3;rw [adR,ad1] at h3
  have:=h3 s.number (Ae.2 ⟨r.N,by rw [h.Au];exact gQ.2 ⟨r,hr,rfl⟩,by rw [akI,UK (h.sound.zero r hr)];exact gQ.2 ⟨s,hs,rfl⟩⟩)
  simpa using this
 have key: ∀ r ∈ aH N0 E,∀ s ∈ jg V.C r.N 2 0,s.number%32768<256→aS V.C (s.number%32768)=1→32768≤s.number:=by
  intro r hr s hs hlt hc
  have:=hno r hr s hs
  unfold BP at this;rw [Az _ hlt,← heq _ hlt,hc,eH rfl,tC] at this;rcases Jw s.number 32768 with x | x
  ·rw [gU om] at this;cases this
  ·exact x
 refine ⟨heq,fun r hr j hj h0 hc=> ?_,fun s hs k hk h0 hc=> ?_⟩
 ·have:=(h.sound.sec _ ⟨r,hr,j,hj,h0,rfl⟩).2
  exact key r hr ⟨r.N,j,nm V.C r.N j⟩ (YO hj h0 _ (aA rfl)) (by show nm V.C r.N j%32768<256;omega) hc
 ·obtain ⟨r,hr,j,hj,h1',rfl⟩:=hs
  have:=(h.sound.aF _ ⟨_,⟨r,hr,j,hj,h1',rfl⟩,k,hk,h0,rfl⟩).2
  exact key r hr ⟨nm V.C r.N j%32768,k,nm V.C (nm V.C r.N j%32768) k⟩ (YO hj h1' _ (ay (Yr h0 32 0 om om))) (by show nm V.C (nm V.C r.N j%32768) k%32768<256;omega) hc
end
structure amd (file:List aj) (N0:Nat) (E:List aX):Prop where
 head:lQ file=true
 bP:bD (dJ file).C (dJ file) N0 E
 bad:(look file).bad= -1
 L:(look file).L=(dJ file).C
 roots:(look file).roots=aH N0 E
 low:uK 1000 (look file)
 state:EY (dJ file)=Cm (look file)
 nS:D9 (look file)=bU (dJ file).C N0 E
 exact:y7 (look file)=true→wI (dJ file).C (aH N0 E)
theorem aje {file:List aj} (hl: ∀ c ∈ file,c.length=64) (h:rO file= -1): ∃ N0 E,amd file N0 E:=by
 obtain ⟨N0,E,hE,hh,hs,hv⟩:=arj hl h;have hC:=hE.Uj;have hs':cZ (aZ file (num (cl file 0) 4)) (aH N0 E):=by rw [← hC];exact hs
 obtain ⟨l1,l2,l3,l4,l5⟩:=hE.look hs';have hst:EY (dJ file)=Cm (look file):=hv.state (by rw [l2,hC]) l3 (fun n hn=>by rw [l4 n hn,hC]);refine ⟨N0,E,hh,hv,l1,by rw [l2,hC],l3,l5,hst,by rw [hE.nS hs',hC],fun hx=> ?_⟩;unfold y7 at hx;rw [← hst] at hx;simp only [vU,Rx] at hx;exact hv.aou hx.1 hx.2.1 hx.2.2
theorem agS (f:Nat): ∀ (ss:List mX) (R:aU),(jH f ss R).1=false→0≤(jH f ss R).2.bad
 | [],R,h=>by cases h
 | s :: ss,R,h=>by
  rw [jH] at h ⊢
  by_cases h5:(qx R f s).1=true
  ·rw [au h5] at h ⊢;exact agS f ss _ h
  ·rw [ak h5] at h ⊢;show 0≤(qx R f s).2.bad;rw [ado (by simpa using h5)];omega
theorem agP: ∀ (fs:List Nat) (a:Nat) (R:aU),(nC fs a R).1=false→0≤(nC fs a R).2.bad
 | [],a,R,h=>by cases h
 | f :: fs,a,R,h=>by
  rw [nC] at h ⊢
  by_cases h2:(qZ f a R).1=true
  ·rw [au h2] at h ⊢;exact agP fs _ _ h
  ·rw [ak h2] at h ⊢;have h2':(qZ f a R).1=false:=by simpa using h2
   show 0≤(qZ f a R).2.bad;unfold qZ at h2' ⊢
   by_cases h4:(tell R f 1 a).1=true
   ·rw [au h4] at h2' ⊢;exact agS f _ _ h2'
   ·rw [ak h4] at h2' ⊢;show 0≤(tell R f 1 a).2.bad;rw [YK (by simpa using h4)];omega
theorem ard (file:List aj):rO file= -1∨0≤rO file:=by
 unfold rO;split
 ·exact ay om
 ·split
  ·exact ay om
  ·split
   ·rename_i h;exact ay (agP _ _ _ h)
   ·split
    ·rename_i h;exact ay h
    ·exact amT _
section
variable {V V':aB} {N0 N1:Nat} {E E':List aX} {data:aj} {base base':List aj}
end
end Go.Proofs.YtknjjjenklfeoaaGreatDoor
