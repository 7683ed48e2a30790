import Derived.Test.YtknjjjenklfeoaaGreatDoorO20
set_option maxHeartbeats 8000000
set_option maxRecDepth 100000
set_option linter.all false
namespace Go.Proofs.YtknjjjenklfeoaaGreatDoor
open Go.RowKit
section
section
variable {L L':List aj} {rs:List bC} {r:bC} {j s k n:Nat}
theorem Jj (h:cZ L rs) {n:Nat} (un: ¬ ng rs n∧ ¬ fB L rs n∧ ¬ oK L rs n):dM L rs n=0:=by
 by_cases z:dM L rs n=0
 ·exact z
 ·exfalso;have h4:0<dM L rs n:=om;rw [← N9 h.zero] at h4;unfold zX at h4;obtain ⟨y,hy,e⟩:=gQ.1 (Za.1 h4);rcases (AL h.zero y).1 hy with ⟨_,k1⟩ | ⟨_,k1⟩ | ⟨_,k1⟩
  ·rw [e] at k1;exact un.1 k1
  ·rw [e] at k1;exact un.2.1 k1
  ·rw [e] at k1;exact un.2.2 k1
def zY (L:List aj) (t j q:Nat):Nat:=if nm L t j=0 then 0 else nm L (nm L t j%32768) q
structure yt (L L':List aj) (rs:List bC) (r:bC) (j s k n:Nat):Prop where
 put:RX L L' r.N j (s+32768)
 hr:r ∈ rs
 hj:j<2
 hk:k<32
 tk:nm L s k=n+32768
 tq: ∀ q,q<32→q≠k→nm L s q=zY L r.N j q
 ne:s≠n
 sin:6≤s∧s<L.length
 Ko:6≤n∧n<L.length
 cs:aS L s=1
 cn:aS L n=1
 us: ¬ ng rs s∧ ¬ fB L rs s∧ ¬ oK L rs s
 un: ¬ ng rs n∧ ¬ fB L rs n∧ ¬ oK L rs n
theorem yt.ls (b:yt L L' rs r j s k n) (hL:L.length≤256):(s+32768)%32768=s:=by have:=b.sin;omega
theorem yt.ln (b:yt L L' rs r j s k n) (hL:L.length≤256):(n+32768)%32768=n:=by have:=b.Ko;omega
theorem yt.other (h:cZ L rs) (b:yt L L' rs r j s k n) {x:Nat} (hx:fB L rs x∨x=s):cl L' x=cl L x:=by
 refine b.put.same x fun e=> ?_;rcases hx with y | y
 ·exact h.fs _ ⟨r,b.hr,e.symm⟩ y
 ·exact b.us.1 ⟨r,b.hr,by rw [← e];exact y⟩
theorem yt.fst (b:yt L L' rs r j s k n) {r':bC} (hne:r'.N≠r.N):cl L' r'.N=cl L r'.N:=b.put.same _ hne
theorem yt.rJ (h:cZ L rs) (b:yt L L' rs r j s k n) (x:Nat) (hx:fB L' rs x):fB L rs x∨x=s:=by
 obtain ⟨r',hr',q,hq,h0,e⟩:=hx
 by_cases e1:r'.N=r.N
 ·rw [e1] at h0 e
  by_cases e2:q=j
  ·subst e2;rw [b.put.now,b.ls h.len] at e;exact ay e.symm
  ·rw [b.put.Kt q om e2] at h0 e;exact aA ⟨r,b.hr,q,hq,h0,e⟩
 ·unfold nm at h0 e;rw [b.fst e1] at h0 e;exact aA ⟨r',hr',q,hq,h0,e⟩
theorem yt.zS (h:cZ L rs) (b:yt L L' rs r j s k n) (x:Nat) (hx:oK L' rs x):oK L rs x∨x=n:=by
 obtain ⟨s',hs',q,hq,h0,e⟩:=hx;have hs:=b.rJ h s' hs';unfold nm at h0 e;rw [b.other h hs] at h0 e;rcases hs with y | y
 ·exact aA ⟨s',y,q,hq,h0,e⟩
 ·subst y
  by_cases e2:q=k
  ·subst e2
   have:=b.tk
   unfold nm at this;rw [this,b.ln h.len] at e;exact ay e.symm
  ·have:=b.tq q hq e2
   unfold nm zY at this;rw [this] at h0 e
   split at h0
   ·exact absurd rfl h0
   ·rename_i h3;rw [ak h3] at e;exact aA ⟨_,⟨r,b.hr,j,b.hj,h3,rfl⟩,q,hq,h0,e⟩
theorem ahA {n m:Nat} (hn:(n+32768)%32768=n):iH (n+32768) m=if n=m then 1 else 0:=by
 unfold iH;rw [hn]
 by_cases e:n=m
 ·rw [au e,au ⟨om,e⟩]
 ·rw [ak e,ak (fun z=>e z.2)]
theorem apC (L:List aj) (t j m:Nat):sK (fun q=>iH (zY L t j q) m) 32 0=if nm L t j=0 then 0 else yG L (nm L t j%32768) m:=by
 unfold zY yG
 by_cases e:nm L t j=0
 ·simp only [e,wH];exact akw _ _ fun q _ _=>TF m
 ·simp only [e,yc]
theorem yt.use (h:cZ L rs) (b:yt L L' rs r j s k n) (m:Nat):
  dM L' rs m+(iH (nm L r.N j) m+iH (zY L r.N j k) m)=dM L rs m+((if s=m then 1 else 0)+if n=m then 1 else 0):=by
 have hin:yG L s m+iH (zY L r.N j k) m=(if nm L r.N j=0 then 0 else yG L (nm L r.N j%32768) m)+iH (n+32768) m:=by
  have:=adg (f:=fun q=>iH (nm L s q) m) (g:=fun q=>iH (zY L r.N j q) m) (a:=k) 32 0 om (by have:=b.hk;omega) (fun q _ hq hne=>by rw [b.tq q om hne])
  simp only [b.tk] at this;rw [apC] at this;exact this
 have nD: ∀ r' ∈ rs,∀ q,q<2→(r'.N≠r.N∨q≠j)→nJ L' r'.N q m=nJ L r'.N q m:=by
  intro r' hr' q hq hne;have e:nm L' r'.N q=nm L r'.N q:=by
   by_cases e1:r'.N=r.N
   ·rw [e1];exact b.put.Kt q om (by rcases hne with z | z;exact absurd e1 z;exact z)
   ·unfold nm;rw [b.fst e1]
  refine Ym (by rw [e];exact kN.refl _) fun h0 k' hk'=> ?_;unfold nm;rw [b.other h (aA ⟨r',hr',q,hq,h0,rfl⟩)];exact kN.refl _
 have hat:nJ L' r.N j m+(iH (nm L r.N j) m+iH (zY L r.N j k) m)=nJ L r.N j m+((if s=m then 1 else 0)+if n=m then 1 else 0):=by
  rw [← ahA (b.ls h.len),← ahA (b.ln h.len)];have e:yG L' s m=yG L s m:=ahM fun q hq=>by unfold nm;rw [b.other h (ay rfl)];exact kN.refl _
  unfold nJ;rw [b.put.now,ak om,b.ls h.len,e]
  by_cases z:nm L r.N j=0
  ·rw [au z] at hin ⊢;rw [z,TF];omega
  ·rw [ak z] at hin ⊢;omega
 exact akW h.nodup ⟨r,b.hr,rfl⟩ (fun r' hr' hne=>by
  unfold kK;rw [nD r' hr' 0 om (aA hne),nD r' hr' 1 om (aA hne)]) (akN b.hj (fun q hq hne=>nD r b.hr q hq (ay hne)) hat)
theorem yt.sound (h:cZ L rs) (b:yt L L' rs r j s k n):cZ L' rs:=by
 have hf:=h.fst r b.hr;have hc:=fun m hm=>b.put.count hf.1 m hm;have hlen:=h.len;have hj:=b.hj;refine ⟨by rw [b.put.len];exact h.len,by rw [b.put.len];exact h.qj,fun r' hr'=>by rw [b.put.len];exact h.fst r' hr',h.nodup,fun r' hr' i h1 h2=> ?_,fun x hx=> ?_,fun x hx=> ?_,fun t ht x=> ?_,fun t ht x=> ?_,fun t ht x=> ?_,fun m hm=> ?_,fun m hm=>by rw [hc m hm];exact h.top m hm,fun m hm hl=>by rw [hc m hm];exact h.none m hm (by rw [← b.put.len];exact hl),fun r' hr' q hq hm=> ?_,fun x hx q hq hm=> ?_⟩
 ·by_cases e1:r'.N=r.N
  ·rw [e1,b.put.Kt i h2 om,← e1];exact h.zero r' hr' i h1 h2
  ·unfold nm;rw [b.fst e1];exact h.zero r' hr' i h1 h2
 ·rw [b.put.len];rcases b.rJ h x hx with y | y
  ·exact h.sec x y
  ·rw [y];exact b.sin
 ·rw [b.put.len];rcases b.zS h x hx with y | y
  ·exact h.aF x y
  ·rw [y];exact b.Ko
 ·rcases b.rJ h t x with y | y
  ·exact h.fs t ht y
  ·rw [y] at ht;exact b.us.1 ht
 ·rcases b.zS h t x with y | y
  ·exact h.fb t ht y
  ·rw [y] at ht;exact b.un.1 ht
 ·rcases b.rJ h t ht with z | z
  ·rcases b.zS h t x with y | y
   ·exact h.sb t z y
   ·rw [y] at z;exact b.un.2.1 z
  ·rcases b.zS h t x with y | y
   ·rw [z] at y;exact b.us.2.2 y
   ·exact b.ne (z.symm.trans y)
 ·rw [hc m hm];have h1:=b.use h m;have h2:=h.jy m hm;have e1:=b.sin;have e2:=b.Ko;have e3:=b.ne;have e4:=b.cs;have e5:=b.cn
  by_cases z:s=m
  ·subst z;rw [au rfl,ak (fun e=>e3 e.symm),Jj h b.us] at h1;rw [vV,ak om];omega
  ·rw [ak z] at h1
   by_cases z2:n=m
   ·subst z2;rw [au rfl,Jj h b.un] at h1;rw [vV,ak om];omega
   ·rw [ak z2] at h1;omega
 ·by_cases e1:r'.N=r.N
  ·rw [e1] at hm ⊢
   by_cases e2:q=j
   ·subst e2;rw [b.put.now,b.ls h.len,hc _ (by have:=b.sin;omega)];exact b.cs
   ·rw [b.put.Kt q om e2] at hm ⊢;have hx:=h.sec _ ⟨r,b.hr,q,hq,om,rfl⟩;rw [hc _ om];exact h.BU r b.hr q hq hm
  ·have e:nm L' r'.N q=nm L r'.N q:=by unfold nm;rw [b.fst e1]
   rw [e] at hm ⊢;have hx:=h.sec _ ⟨r',hr',q,hq,om,rfl⟩;rw [hc _ om];exact h.BU r' hr' q hq hm
 ·have hs:=b.rJ h x hx;have e:nm L' x q=nm L x q:=by unfold nm;rw [b.other h hs]
  rw [e] at hm ⊢;rcases hs with y | y
  ·have hy:=h.aF _ ⟨x,y,q,hq,om,rfl⟩;rw [hc _ om];exact h.AB x y q hq hm
  ·subst y
   by_cases e2:q=k
   ·subst e2;rw [b.tk,b.ln h.len,hc _ (by have:=b.Ko;omega)];exact b.cn
   ·rw [b.tq q hq e2] at hm ⊢;unfold zY at hm ⊢
    split at hm
    ·omega
    ·rename_i h3;rw [ak h3];have hss:fB L rs (nm L r.N j%32768):=⟨r,b.hr,j,b.hj,h3,rfl⟩;have hy:=h.aF _ ⟨_,hss,q,hq,om,rfl⟩;rw [hc _ om];exact h.AB _ hss q hq hm
theorem yt.content (h:cZ L rs) (b:yt L L' rs r j s k n) {r':bC} (hr':r' ∈ rs):
  dZ L' r'.N=if r'.N=r.N then (dZ L r'.N).set (32*j+k) (cl L n) else dZ L r'.N:=by
 have hbl: ∀ x,oK L rs x→cl L' x=cl L x:=fun x hx=>b.put.same x fun e=>h.fb _ ⟨r,b.hr,e.symm⟩ hx;have hn:cl L' n=cl L n:=b.put.same n fun e=>b.un.1 ⟨r,b.hr,e.symm⟩;have hj:=b.hj;have hk:=b.hk;have hss:=b.other h (ay rfl:fB L rs s∨s=s);have key: ∀ c,c<64→(r'.N≠r.N∨c≠32*j+k)→tN L' r'.N c=tN L r'.N c:=by
  intro c hc hne;have e:bY L' r'.N c=bY L r'.N c:=by
   by_cases e1:r'.N=r.N
   ·by_cases e2:c / 32=j
    ·have hq:c%32≠k:=by rcases hne with z | z;exact absurd e1 z;omega
     have h1:=b.put.now;have h2:=b.tq (c%32) om hq;unfold nm zY at h2;unfold nm at h1;unfold bY;rw [e1,e2,h1,ak om,b.ls h.len,hss,h2]
    ·have h1:=b.put.Kt (c / 32) om e2;unfold nm at h1;unfold bY;rw [e1,h1]
     by_cases h0:num (cl L r.N) (2*(c / 32))=0
     ·rw [au h0,au h0]
     ·rw [ak h0,ak h0,b.other h (aA ⟨r,b.hr,c / 32,om,h0,rfl⟩)]
   ·unfold bY;rw [b.fst e1]
    by_cases h0:num (cl L r'.N) (2*(c / 32))=0
    ·rw [au h0,au h0]
    ·rw [ak h0,ak h0,b.other h (aA ⟨r',hr',c / 32,om,h0,rfl⟩)]
  exact aan (by rw [e];exact kN.refl _) (fun h0=>hbl _ (Qr hr' hc h0))
 by_cases e:r'.N=r.N
 ·rw [au e];apply uH;intro c;rw [uf]
  by_cases hc:c<64
  ·by_cases e2:32*j+k=c
   ·rw [au e2,au (by rw [Fb];omega),D8 _ _ _ hc,Lm];have e3:bY L' r'.N c=n+32768:=by
     have h1:=b.put.now;have h2:=b.tk;unfold nm at h1 h2;unfold bY;rw [e,show c / 32=j by omega,show c%32=k by omega,h1,ak om,b.ls h.len,hss];exact h2
    rw [e3,ak om,b.ln h.len,hn]
   ·rw [ak e2,D8 _ _ _ hc,D8 _ _ _ hc,key c hc (ay (fun z=>e2 z.symm))]
  ·rw [ak om,eu (by rw [Fb];omega),eu (by rw [Fb];omega)]
 ·rw [ak e];exact VZ fun c hc=>key c hc (aA e)
end
section
variable {L:List aj} {rs:List bC} {b:Int} {R:aU}
theorem cZ.ahR {L:List aj} {rs:List bC} {r:bC} (hr:r ∈ rs) {j k:Nat} (hj:j<2) (hk:k<32) (h0:nm L r.N j≠0) (h1:nm L (nm L r.N j%32768) k≠0):oK L rs (nm L (nm L r.N j%32768) k%32768):=
 ⟨_,⟨r,hr,j,hj,h0,rfl⟩,k,hk,h1,rfl⟩
theorem cZ.aul (h:cZ L rs) (x:wI L rs):CU L rs:=by
 refine ⟨h.len,h.qj,h.ok,h.zero,fun n hn=> ?_,h.top,fun i hi j hj=> ?_⟩
 ·rw [x.eq n hn,← N9 h.zero];rfl
 ·have hr:rs.getD i ⟨0,0,[]⟩ ∈ rs:=by
   rw [aK,bI hi];exact oP hi
  refine ⟨fun h0=>⟨fun hm=>h.BU _ hr j hj hm,fun hc=>x.Xg _ hr j hj h0 hc⟩,fun h0 k hk h1=> ?_⟩;have hs:fB L rs (nm L (rs.getD i ⟨0,0,[]⟩).N j%32768):=⟨_,hr,j,hj,h0,rfl⟩;exact ⟨fun hm=>h.AB _ hs k hk hm,fun hc=>x.Xh _ hs k hk h1 hc⟩
theorem cZ.used (h:cZ L rs) (hT:Told L rs b gX (lM L rs rs.length 0) R) (n:Nat) (hn:n<256):R.used.getD n 0=gX n+dM L rs n:=by
 rw [hT.used n hn,← N9 h.zero];rfl
theorem cZ.counts (h:cZ L rs) (hT:Told L rs b gX (lM L rs rs.length 0) R):qm R 256 0= -1:=by
 refine aaL 256 0 fun j _ hj=> ?_;have h1:=h.used hT j om;have h2:=h.top j om;have h3:=h.jy j om;unfold DW QW;rw [h1,hT.hL];have e1:decide (aS L j<gX j+dM L rs j)=false:=by simp;omega
 have e2:(aS L j == 255)=false:=by rw [lI];omega
 rw [e1,e2,QZ,EO,EO]
 by_cases hl:L.length≤j
 ·rw [h.none j om hl];simp
 ·rw [gU hl];rfl
theorem ai0 (h:cZ L rs) (hT:Told L rs b gX (lM L rs rs.length 0) R) (x:Nat) (hx:x%32768<256) (hu:1≤dM L rs (x%32768)) (hm:32768≤x→aS L (x%32768)=1):oZ R x=false:=by
 unfold oZ
 by_cases e:32768≤x
 ·have h1:=h.used hT _ hx;have h2:=h.jy _ hx;have h3:=hm e;rw [au e,hT.hL,h3,show R.used.getD (x%32768) 0=1 by omega];rfl
 ·rw [ak e]
theorem abY (t:Nat) (hx: ∀ k,k<32→num (cl R.L t) (2*k)≠0→oZ R (num (cl R.L t) (2*k))=false): ∀ (m k acc:Nat),k+m≤32→ ∃ a,sH R t m k acc=some a
 | 0,_,acc,_=>⟨acc,rfl⟩
 | m+1,k,acc,hm=>by
  rw [sH]
  by_cases h0:num (cl R.L t) (2*k)=0
  ·rw [au h0];exact abY t hx m (k+1) acc om
  ·rw [ak h0,hx k om h0];exact abY t hx m (k+1) _ om
theorem ab4 (t:Nat) (hx: ∀ i,i<2→num (cl R.L t) (2*i)≠0→oZ R (num (cl R.L t) (2*i))=false∧ ∀ k,k<32→num (cl R.L (num (cl R.L t) (2*i)%32768)) (2*k)≠0→oZ R (num (cl R.L (num (cl R.L t) (2*i)%32768)) (2*k))=false): ∀ (m i acc:Nat),i+m≤2→(uS R t m i acc).1= -1
 | 0,_,_,_=>rfl
 | m+1,i,acc,hm=>by
  rw [uS]
  by_cases h0:num (cl R.L t) (2*i)=0
  ·rw [au h0];exact ab4 t hx m (i+1) acc om
  ·obtain ⟨h1,h2⟩:=hx i om h0;obtain ⟨a,ha⟩:=abY (R:=R) _ h2 32 0 (acc+sG R (num (cl R.L t) (2*i))) om;rw [ak h0,h1,ha];exact ab4 t hx m (i+1) a om
theorem cZ.marked (h:cZ L rs) (hT:Told L rs b gX (lM L rs rs.length 0) R) (i:Nat) (hi:i<rs.length):(marked R (rootOf R i)).1= -1:=by
 have hr:rootOf R i=rs.getD i ⟨0,0,[]⟩:=by unfold rootOf;rw [hT.hR]
 have hmem:rs.getD i ⟨0,0,[]⟩ ∈ rs:=by
  rw [aK,bI hi];exact oP hi
 have hl:=h.len;unfold Go.Proofs.YtknjjjenklfeoaaGreatDoor.marked;refine ab4 _ (fun j hj h0=> ?_) 2 0 0 om;rw [hr] at h0 ⊢;rw [hT.hL] at h0 ⊢;have hs:fB L rs (nm L (rs.getD i ⟨0,0,[]⟩).N j%32768):=⟨_,hmem,j,hj,h0,rfl⟩;have hsr:=h.sec _ hs;refine ⟨ai0 h hT _ (by unfold nm at hsr;omega) (QV hs) (fun hm=>h.BU _ hmem j hj hm),fun k hk h1=> ?_⟩;have hb:=cZ.ahR hmem hj hk h0 h1;have hbr:=h.aF _ hb;exact ai0 h hT _ (by unfold nm at hbr;omega) (QU hb) (fun hm=>h.AB _ hs k hk hm)
theorem cZ.marks (h:cZ L rs) (hT:Told L rs b gX (lM L rs rs.length 0) R): ∀ (m i:Nat),i+m≤rs.length→wX R m i (-1)= -1
 | 0,_,_=>rfl
 | m+1,i,hm=>by
  rw [wX,au dc,h.marked hT i om];exact h.marks hT m (i+1) om
theorem aqg {file:List aj} (hh:lQ file=true) (hl:(iO (gu file)).1=true) (hx:cZ (gu file).L (iO (gu file)).2):
  (look file).bad= -1∧(look file).L=(gu file).L∧(look file).roots=(iO (gu file)).2∧(∀ n,n<256→(look file).used.getD n 0=gX n+dM (gu file).L (iO (gu file)).2 n)∧uK 1000 (look file):=by
 have T0:Told (gu file).L (iO (gu file)).2 (-1) gX [] (qE file):=
  ⟨rfl,rfl,rfl,Y4,YV,fun x hx=>by simp at hx,fun n _=>by
   show EJ.getD n 0=0;unfold EJ;rw [aK,qU]
   split <;> rfl,fun n _=>rfl⟩
 obtain ⟨h1,h2⟩:=adF hx.len hx.zero (iO (gu file)).2.length 0 [] (qE file) om T0 hx.ok;rw [ql] at h2;have h1':(iG file).1=true:=h1;have h2':Told (gu file).L (iO (gu file)).2 (-1) gX (lM (gu file).L (iO (gu file)).2 (iO (gu file)).2.length 0) (iG file).2:=h2;have e:look file={ (iG file).2 with bad:=wX (iG file).2 (iG file).2.roots.length 0 (qm (iG file).2 256 0) }:=by
  unfold look;rw [ak (by rw [hh];decide),ak (by rw [hl];decide),ak (by rw [h1'];decide)]
 clear h1 h2 T0 h1';generalize iG file=Q at h2' e;have h3:Told (gu file).L (iO (gu file)).2 (-1) gX (lM (gu file).L (iO (gu file)).2 (iO (gu file)).2.length 0) (look file):=by
  rw [e,hx.counts h2',h2'.hR,hx.marks h2' _ 0 om];exact ⟨h2'.hL,h2'.hR,rfl,h2'.tl,h2'.ul,h2'.told,h2'.none,h2'.used⟩
 refine ⟨h3.hB,h3.hL,h3.hR,fun n hn=>hx.used h3 n hn,fun n=> ?_⟩
 by_cases hn:n<256
 ·rw [hx.used h3 n hn]
  have:=hx.top n hn
  have:=hx.jy n hn
  omega
 ·rw [aK,eu (by rw [h3.ul];omega)];exact nN _
theorem cZ.JZ (h:cZ L rs) {r:bC} (hr:r ∈ rs):rH L r.N:=by
 refine ⟨(h.fst r hr).2,fun i hi h0=>(h.sec _ ⟨r,hr,i,hi,h0,rfl⟩).2,fun i hi h0 k hk=> ?_⟩
 by_cases h1:nm L (nm L r.N i%32768) k=0
 ·unfold nm at h1;rw [h1]
  have:=h.qj
  omega
 ·exact (h.aF _ (cZ.ahR hr hi hk h0 h1)).2
end
def jf (C:List aj) (f:Nat):List Nat:=(dL (numsOf (cl C f))).flatMap fun s=>s :: dL (numsOf (cl C s))
def mZ (C:List aj) (f:Nat):List Nat:=f :: jf C f
def Dt (k:List UInt8) (n:Nat):List UInt8:=k.set n (UInt8.ofNat ((aI k n+1)%256))
def plus (k:List UInt8) (us:List Nat):List UInt8:=us.foldl Dt k
def oz:List UInt8→List Nat→Bool
 | _,[]=>true
 | k,u :: us=>decide (aI k u<254) && oz (Dt k u) us
theorem acB (k:List UInt8) (n:Nat):(Dt k n).length=k.length:=by simp [Dt]
theorem QA (us:List Nat): ∀ k:List UInt8,(plus k us).length=k.length:=by
 induction us with
 | nil=>intro k;rfl
 | cons u r ih=>intro k;show (plus (Dt k u) r).length=_;rw [ih,acB]
theorem arY (k:List UInt8) (us:List Nat) (u:Nat):plus k (us++[u])=Dt (plus k us) u:=by simp [plus]
theorem aoC (us:List Nat) (u:Nat): ∀ k,oz k (us++[u])=(oz k us && decide (aI (plus k us) u<254)):=by
 induction us with
 | nil=>
  intro k;show (decide (aI k u<254) && true)=(true && decide (aI k u<254));rw [Y6,tC]
 | cons a r ih=>
  intro k;rw [sO,oz,oz,ih,Bool.and_assoc];rfl
theorem aoB {us pre:List Nat} {k:List UInt8} (h:pre <+: us) (hf:oz k pre=false):oz k us=false:=by
 obtain ⟨r,rfl⟩:=h
 induction pre generalizing k with
 | nil=>simp [oz] at hf
 | cons a p ih=>
  rw [oz,Rk] at hf;rw [sO,oz,Rk];rcases hf with x | x
  ·exact aA x
  ·exact ay (ih x)
theorem acA (k:List UInt8) (n m:Nat) (hn:n<k.length) (h1:aI k n<255):aI (Dt k n) m=if n=m then aI k n+1 else aI k m:=by
 unfold Dt;rw [Aj _ _ _ _ hn,toNat_ofNat _ om]
 by_cases e:n=m
 ·rw [au e,au e];omega
 ·rw [ak e,ak e]
theorem ajv: ∀ (us:List Nat) (k:List UInt8) (m:Nat),(∀ u ∈ us,u<k.length)→oz k us=true→aI (plus k us) m=aI k m+us.count m
 | [],_,_,_,_=>rfl
 | u :: us,k,m,hl,hf=>by
  rw [oz,vU,CO] at hf;show aI (plus (Dt k u) us) m=_;rw [ajv us (Dt k u) m (fun x hx=>by rw [acB];exact hl x (by simp [hx])) hf.2,acA k u m (hl u sm) om,DI]
  by_cases e:u=m
  ·subst e;simp;omega
  ·rw [ak e,ak (by simp [e])];omega
theorem aa3: ∀ (us:List Nat) (k:List UInt8),(∀ u ∈ us,u<k.length)→(oz k us=true↔ ∀ u ∈ us,aI k u+us.count u≤254)
 | [],_,_=>by simp [oz]
 | u :: us,k,hl=>by
  rw [oz,vU,CO];have ih:=aa3 us (Dt k u) (fun x hx=>by rw [acB];exact hl x (by simp [hx]));constructor
  ·rintro ⟨h1,h2⟩ x hx;rw [DI]
   by_cases hm:x ∈ us
   ·have:=ih.1 h2 x hm
    rw [acA k u x (hl u sm) om] at this
    by_cases e:u=x
    ·subst e;simp at this ⊢;omega
    ·rw [ak e] at this;rw [ak (by simp [e])];omega
   ·rcases dD.1 hx with e | e
    ·subst e;rw [FU.2 hm];simp;omega
    ·exact absurd e hm
  ·intro h;have hu:=h u sm;rw [DI] at hu;simp only [beq_self_eq_true,wH] at hu;refine ⟨om,ih.2 fun x hx=> ?_⟩;rw [acA k u x (hl u sm) om]
   have:=h x (by simp [hx])
   rw [DI] at this
   by_cases e:u=x
   ·subst e;simp at this ⊢;omega
   ·rw [ak (by simp [e])] at this;rw [ak e];omega
end
section
attribute [local go_sem ↓] dw fP fZ LK Ou OH Ns SL
attribute [local go_sem] dK fO fV gK gy aV MF Oj Ol QJ
theorem atl (D:List aj) (hD: ∀ c ∈ D,c.length=64) (k:Nat) (hk:k<D.length) (c:aj) (hc:c.length=64) (rest:List Value):lU (aQ D++rest).toArray (k*64) (cv c)=(aQ (D.set k c)++rest).toArray:=by
 have hl:=yC D hD;have e:=acZ D hD k hk c hc;have hl':(aQ (D.set k c)).length=(aQ D).length:=by
  have:=FV Array.size e
  rw [Yq] at this;simpa using this.symm
 apply Io;intro i;have e2:(lU (aQ D).toArray (k*64) (cv c))[i]? = (aQ (D.set k c)).toArray[i]? := by rw [e]
 rw [DC (cv c) _ _ i (by rw [bg,hc];simp;omega),bW,bW] at e2;rw [DC (cv c) _ _ i (by rw [bg,hc];simp;omega),bW,bW]
 by_cases hi:i<(aQ D).length
 ·rw [oJ om,oJ om];exact e2
 ·rw [ak (by rw [bg,hc];omega),nP om,nP om,hl']
theorem eP.setBlock {w:World} {d:Nat} {Pv:Value} {D:dY} (h:eP w d Pv D) (k:Nat) (hk:k<64) (c:aj) (hc:c.length=64):eP (w.setCells d (k*64) (cv c)) d Pv { D with C:=D.C.set k c }:=by
 have hkl:k<D.C.length:=by have:=h.cont.len;omega
 have hkept:Kept (fun x=>x=d) w (w.setCells d (k*64) (cv c)):=(Kept.refl (fun x=>x=d) w).setCells (b:=d) (aA rfl) _ _;refine ⟨?_,bQ hkept h.row h.neP,⟨?_,by simp [h.cont.len]⟩,h.yM⟩
 ·rw [JY _ _ _ _ _ _ _ h.aF];rw [vZ,atl D.C h.cont.all k hkl c hc];rfl
 ·intro x hx;rcases MR hx with y | y
  ·exact h.cont.all x y
  ·rw [y];exact hc
def Ie (D:dY) (n:Int) (c:aj):dY × Nat:=if kP n then ({ D with C:=D.C.set n.toNat c },0) else (D,1)
theorem asy (w:World) (d:Nat) (Pv:Value) (D:dY) (h:eP w d Pv D) (n:Int) (c:aj) (hc:c.length=64):
  Calls Tryz.prog 118 #[.pointer (some ⟨d,0,none⟩),.int .i64 n,.agg (cv c).toArray] w fun e w'=>
   e= .returned (.int .i64 ((Ie D n c).2:Nat))∧eP w' d Pv (Ie D n c).1∧Kept (fun x=>x=d) w w':=by
 have hB:aC w (w.alloc (.cells (cv c).toArray 38)):=fC;have hW:=h.below hB;have hbx:(w.alloc (.cells (cv c).toArray 38)).heap[w.heap.size]? = some (.cells (cv c).toArray 38 (0,0)):=aW _ _;have Hi:=ah (Xc n (w.alloc (.cells (cv c).toArray 38)));have Hr:Hid (Ie D n c=if kP n then ({ D with C:=D.C.set n.toNat c },0) else (D,1)):=rfl;cases hb:kP n with
 | false=>
  rw [hb] at Hi Hr;rw [ak dc] at Hr;have HW:=ah hW;have HB:=ah hB;clear hW hbx hB
  go_enter Tryz.func118,Tryz.ntmps118
  go_wp2_with fail
  refine Hi.mono ?_;rintro e w1 ⟨rfl,rfl⟩;go_wp2;go_ret;rw [uh Hr];exact ⟨rfl,uh HW,Kept.dS HB⟩
 | true=>
  rw [hb] at Hi Hr;rw [au rfl] at Hr;have hn:0≤n∧n<64:=by simpa [kP] using hb
  obtain ⟨k,rfl⟩:=CP hn.1;rw [vC] at Hr;have hk:k<64:=om;have hki:(k:Int)<64:=om;have HW:=ah hW;have HB:=ah hB;clear hb hn;have l1:dN (w.alloc (.cells (cv c).toArray 38)).drew w.heap.size 0 64:=gZ hbx hc;have l2:dI (w.alloc (.cells (cv c).toArray 38)).drew w.heap.size 0 64=cv c:=gY hbx hc;have ht:(w.alloc (.cells (cv c).toArray 38)).drew.there d (k*64) 64:=iI (w:=w.alloc (.cells (cv c).toArray 38)) hW.aF _ _ (by simp [vZ,hW.cont.flat];omega);have Hs:=ah (HW.kept (S:=fun _=>False) ((Kept.refl _ _).drew) id (fun _ _=>id));clear hW hbx hB
  go_enter Tryz.func118,Tryz.ntmps118
  go_wp2_with fail
  refine Hi.mono ?_;rintro e w1 ⟨rfl,rfl⟩;clear Hi;generalize w.alloc (.cells (cv c).toArray 38)=W at*;go_wp2
  go_region
  all_goals
   go_wp2;go_ret;rw [uh Hr];exact ⟨rfl,Hs.setBlock k hk c hc,Kept.setCells (S:=fun x=>x=d) (Kept.dS HB).drew (b:=d) (aA rfl) _ _⟩
def D9 (R:aU):dY:=⟨dZ R.L (rootOf R 0).N,(List.range (R.roots.length - 1)).map fun i=>⟨(rootOf R (i+1)).name,dZ R.L (rootOf R (i+1)).N⟩⟩
end
theorem yL {p:jQ} (h:ug p.C):(fM p).length=4097:=by simp [fM,h.flat]
theorem XP (p:jQ): ∀ v ∈ fM p,v.oneCell'=true:=by
 intro v hv;rcases dD.1 hv with rfl | h
 ·rfl
 ·exact Wy p.C v h
def aij (a:Addr):Sem Value:=loadVar 139 a
theorem Xe (a:Addr):loadVar 139 a=aij a:=rfl
theorem Yh {w:World} {b o:Nat} (h:dN w b o 4097):(aij ⟨b,o,none⟩).run Tryz.prog w= .ok (.agg (dI w b o 4097).toArray) w:=
 AX h 139 _ Tryz.underlying139 rfl kr
def afm (parts:Array (Nat × Value)):Sem Value:=Instr.buildSlice 68 1 parts
theorem VN (parts:Array (Nat × Value)):Instr.buildSlice 68 1 parts=afm parts:=rfl
theorem Ye {w:World} {p:jQ} (h:ug p.C):(afm #[(0,.agg (fM p).toArray)]).run Tryz.prog w= .ok (.slice (some ⟨w.heap.size,0,none⟩) 1 1) (w.alloc (.cells (fM p).toArray 139)):=
 Ux w 68 139 4097 (.agg (fM ⟨[],zD⟩).toArray) (.agg (fM p).toArray) Tryz.underlying68 kr om om (by simp [Value.cells,yL h])
theorem Tryz.Xa:(Tryz.prog.info? 139).map (fun i=>(i.zero,i.size,i.bytes))=some (some (.agg (fM ⟨[],zD⟩).toArray),4097,4112):=kr
def avp:jQ:=⟨[],zD⟩
def iT (Ps:List jQ) (k:Nat):jQ:=Ps.getD k avp
theorem LY {Ps:List jQ} {k:Nat} (hk:k<Ps.length):iT Ps k ∈ Ps:=by
 unfold iT;rw [aK,bI hk];exact oP hk
theorem ajq: ∀ (Ps:List jQ),(∀ p ∈ Ps,ug p.C)→ ∀ k,k<Ps.length→ ∀ j,j<4097→(Ps.flatMap fM)[k*4097+j]? = (fM (iT Ps k))[j]?
 | [],_,k,hk,_,_=>by simp at hk
 | p :: r,h,k,hk,j,hj=>by
  have hl:=yL (h p sm);rw [qA];cases k with
  | zero=>rw [yV,qR,oJ om];rfl
  | succ k=>
   have ih:=ajq r (fun q hq=>h q (by simp [hq])) k (by simpa using hk) j hj;rw [nP (by rw [hl];omega),hl,show (k+1)*4097+j - 4097=k*4097+j by omega,ih];rfl
theorem LZ {w:World} {base g cap:Nat} {Ps:List jQ} (h:w.ownsRow base 139 4097 (.slice (some ⟨g,0,none⟩) Ps.length cap) Ps.length (Ps.flatMap fM)) (hp: ∀ p ∈ Ps,ug p.C) (k:Nat) (hk:k<Ps.length):w.rangeAt g (k*4097) (fM (iT Ps k)):=fun j v hv=>by
 have hj:=(FW.1 hv).1;rw [yL (hp _ (LY hk))] at hj
 have:=h.cells (g:=g) rfl (k*4097+j) v (by rw [ajq Ps hp k hk j hj];exact hv)
 have hadd:(⟨g,0,none⟩:Addr).add (k*4097+j)=⟨g,k*4097+j,none⟩:=by unfold Addr.add;split <;> simp_all
 rw [hadd] at this;exact this
def aaU (x y:Value):Sem Bool:=Op.equalIn 10000 139 x y
theorem Wq (x y:Value):Op.equalIn 10000 139 x y=aaU x y:=rfl
theorem atD (w:World):(Go.sizeOf 67).run Tryz.prog w= .ok 4096 w:=by
 cases hq:Tryz.prog.info? 67 with
 | none=>
  have h:(Tryz.prog.info? 67).isSome=true:=kr;exact absurd hq (by intro e;rw [e] at h;cases h)
 | some i=>
  have hz:(Tryz.prog.info? 67).map (·.size)=some 4096:=kr;rw [hq] at hz;simp at hz;simp [Go.sizeOf,typeInfo,hq,hz]
theorem acz (p:jQ) (w:World):(part 9 (fM p).toArray 0).run Tryz.prog w= .ok (.string (bJ p.name)) w:=by
 have ha:(isAgg 9).run Tryz.prog w= .ok false w:=by unfold isAgg;rw [jh,xw Tryz.underlying9 w];rfl
 unfold part;rw [jh,ha];rfl
theorem XO (p:jQ) (hp:ug p.C) (w:World):(part 67 (fM p).toArray 1).run Tryz.prog w= .ok (.agg (aQ p.C).toArray) w:=by
 have ha:(isAgg 67).run Tryz.prog w= .ok true w:=by unfold isAgg;rw [jh,xw Tryz.underlying67 w];rfl
 unfold part;rw [jh,ha];simp only [rQ,wH,jh,atD,yX];rw [show (fM p).toArray.extract 1 (1+4096)=(aQ p.C).toArray by
  apply Array.ext';rw [Array.toList_extract];simp only [adY,fM,List.drop_one,List.tail_cons,Zp];exact Js (by rw [hp.flat];exact aP _)]
def Ob (p q:jQ):Bool:=decide (p.name=q.name) && decide (p.C=q.C)
theorem as4 {p q:jQ} (hp:ug p.C) (hq:ug q.C) (w:World):(aaU (.agg (fM p).toArray) (.agg (fM q).toArray)).run Tryz.prog w= .ok (Ob p q) w:=by
 have hs:Tryz.prog.stoodInHeld 139=false:=kr;have h0:(Op.equalIn 9999 9 (.string (bJ p.name)) (.string (bJ q.name))).run Tryz.prog w= .ok ((bJ p.name).toList == (bJ q.name).toList) w:=run_equalIn_string (P:=Tryz.prog) w 9998 9 (bJ p.name) (bJ q.name) Tryz.underlying9;rw [MH,MH] at h0;have h1:(Op.equalIn 9999 67 (.agg (aQ p.C).toArray) (.agg (aQ q.C).toArray)).run Tryz.prog w= .ok (decide (p.C=q.C)) w:=akb 9996 p.C q.C hp.all hq.all hp.len hq.len w;show (Op.equalIn (9999+1) 139 _ _).run Tryz.prog w=_;rw [Op.equalIn];simp only [jh,xw Tryz.underlying139,rQ,Vh,hs,Bg,yc];rw [← adZ];unfold Ob
 by_cases e:p.name=q.name
 ·have e':(p.name == q.name)=true:=by simpa using e
  rw [e'] at h0;rw [eH e,tC]
  by_cases e2:p.C=q.C
  ·rw [eH e2] at h1 ⊢;simp only [MS,OQ,jh,acz,XO p hp,XO q hq,rQ,h0,h1,ne_eq,String.reduceEq,OT,wH,Va,Bg,yc,yX]
  ·rw [gU e2] at h1 ⊢;simp only [MS,OQ,jh,acz,XO p hp,XO q hq,rQ,h0,h1,ne_eq,String.reduceEq,OT,wH,Va,Zj,Bg,yc,yX]
 ·have e':(p.name == q.name)=false:=by simpa using e
  rw [e'] at h0;rw [gU e,Jr];simp only [MS,OQ,jh,acz,rQ,h0,ne_eq,String.reduceEq,OT,wH,Zj,yX]
section
attribute [local go_sem ↓] dw fP fZ LK Ou OH Ns SL Xe VN Wq VP
attribute [local go_sem] dK fO fV gK gy aV MF Oj Ol QJ Yh Ye QK
theorem eP.abd {w w5:World} {d g5 cap5:Nat} {Pv:Value} {C:List aj} {Ps:List jQ} {p:jQ} (h:eP w d Pv ⟨C,Ps⟩) (hp:ug p.C) (hne: ∀ g,Pv.ownBlock=some g→g≠d) (hg:w.grownBy w5 Pv.ownBlock)
  (hrow:w5.ownsRow 0 139 4097 (.slice (some ⟨g5,0,none⟩) (Ps.length+1) cap5) (Ps.length+1) (Ps.flatMap fM++fM p)) (hd:g5≠d):
  eP (w5.setCell ⟨d,4096,none⟩ (.slice (some ⟨g5,0,none⟩) (Ps.length+1) cap5)) d (.slice (some ⟨g5,0,none⟩) (Ps.length+1) cap5) ⟨C,Ps++[p]⟩:=by
 have b5:=qH hg h.aF hne;have hfl:=h.cont.flat;simp only at hfl;refine ⟨?_,?_,h.cont,fun q hq=> ?_⟩
 ·rw [heap_setCell_same _ _ _ _ _ _ _ b5]
  congr 2
  apply Io;intro i;rw [alx,bW,bW];simp only [vZ,iR,oO,Zb,hfl]
  by_cases e:4096=i
  ·subst e;rw [au rfl,au om,nP om,hfl];rfl
  ·rw [ak e]
   by_cases hi:i<4096
   ·rw [oJ om,oJ om]
   ·rw [eu (by simp [hfl];omega),eu (by simp [hfl];omega)]
 ·have:=bQ (Kept.only w5 d 4096 (.slice (some ⟨g5,0,none⟩) (Ps.length+1) cap5)) hrow (fun g hg e=>by simp only [Value.ownBlock,jv] at hg;omega)
  simpa using this
 ·rcases gq.1 hq with x | x
  ·exact h.yM q x
  ·rw [jw.1 x];exact hp
theorem V7 (w:World) (d:Nat) (Pv:Value) (D:dY) (h:eP w d Pv D) (h4:D.L.length≤1000):
  Calls Tryz.prog 58 #[.pointer (some ⟨d,0,none⟩)] w fun e w'=>
   ∃ Qv,e= .returned (.pointer (some ⟨w.heap.size,0,none⟩))∧eP w' w.heap.size Qv D∧(∀ g,Qv.ownBlock=some g→w.heap.size<g)∧aC w w':=by
 obtain ⟨C,L⟩:=D;have l1:=h.has;have l2:=h.cells;have hA:=h.cont.all;have hl:=h.cont.len;have hC:=h.cont;have hP:=h.yM;obtain ⟨a,cap,BL⟩:=iq h.row;subst BL;obtain ⟨i0,hi0,hz0,hz1,hz2⟩:=qy Tryz.Xa;have H:=ah h;clear h;simp only at l2 hA hl hC hP h4
 go_enter Tryz.func58,Tryz.ntmps58
 go_wp2
 go_loopw [4] (fun i w'=> ∃ (k:Nat) (Qv:Value),k≤L.length∧i= .int .i64 k∧eP w' w.heap.size Qv ⟨C,L.take k⟩∧(∀ g,Qv.ownBlock=some g→w.heap.size<g)∧aC w w') (fun i _=>L.length - (intOf i).toNat)
 case atStart=>
  refine ⟨0,.slice none 0 0,om,rfl,?_,fun g hg=>(by cases hg),fC⟩;exact ⟨aW _ _,wF _ _ _ _,hC,fun p hp=>by cases hp⟩
 case round=>
  obtain ⟨k,Qv,hk,rfl,hQ,IG,hb⟩:=hrel;have hd:=H.below hb
  by_cases hlt:k<L.length
  ·obtain ⟨g2,cap2,e2,_⟩:=gB hd.row (show 0<L.length by omega);obtain ⟨rfl,rfl⟩:a=some ⟨g2,0,none⟩∧cap=cap2:=by injection e2 with x1 x2 x3;exact ⟨x1,x3⟩
   have rg:=LZ hd.row hP k hlt;have hpc:=hP _ (LY hlt);have m1:dN wr.drew g2 (k*4097) 4097:=sV (w:=wr) rg (yL hpc);have m2:dI wr.drew g2 (k*4097) 4097=fM (iT L k):=qX (w:=wr) rg (yL hpc);have hki:(k:Int)<(L.length:Int):=om;have c2:wr.cell? ⟨d,4096,none⟩=some (.slice (some ⟨g2,0,none⟩) L.length cap):=hd.wQ;have c0:wr.drew.cell? ⟨d,4096,none⟩=some (.slice (some ⟨g2,0,none⟩) L.length cap):=hd.wQ;have c1:wr.drew.cell? ⟨w.heap.size,4096,none⟩=some Qv:=hQ.wQ;have c3: ∀ o,(wr.alloc o).drew.cell? ⟨w.heap.size,4096,none⟩=some Qv:=fun o=>(MO wr o _ hQ.lt).trans hQ.wQ;have c4: ∀ o,(wr.alloc o).drew.cell? ⟨d,4096,none⟩=some (.slice (some ⟨g2,0,none⟩) L.length cap):=fun o=>(MO wr o _ hd.lt).trans hd.wQ;have ht:L.take (k+1)=L.take k++[iT L k]:=by
    rw [yU hlt];unfold iT;rw [aK,bI hlt];rfl
   have hlk:(L.take k).length=k:=by simp;omega
   have hrow:wr.ownsRow 0 139 4097 Qv k ((L.take k).flatMap fM):=by have:=hQ.row;simp only [hlk] at this;exact this
   have hne: ∀ g,Qv.ownBlock=some g→g≠w.heap.size:=fun g hg e=>by have:=IG g hg;omega
   have HQ:=ah hQ;have fA:=ah hrow;have Hb:=ah hb;have Ht:=ah ht;have uj:=ah hne;have Gg:=ah IG;have hsz:=hb.size;have avC:=hQ.lt;clear hd rg e2 hQ hrow hb ht hne IG hlk;generalize hpk:iT L k=pk at*;go_wp2
   go_region_law (
    refine Jq _ (by rfl) _ _ _ (by rfl) 0 139 i0 _ 4097 4112 Tryz.underlying68 hi0 hz0 hz1 hz2 (by rw [show (Value.agg (fM ⟨[],zD⟩).toArray).cells.size=(fM ⟨[],zD⟩).length from by simp [Value.cells]];exact yL (p:=⟨[],zD⟩) ⟨MK,ML⟩) om Qv k ((L.take k).flatMap fM) (by rfl) ((bQ (S:=fun _=>False) ((Kept.refl _ wr).drew) fA (fun _ _=>id)).alloc _) ⟨wr.heap.size,0,none⟩ 1 1 (fM pk) (by rfl) (by rw [yL hpc]) (pU (cs:=(fM pk).toArray) (t:=139) (fr:=(0,0)) (aW wr.drew _)) (XP pk) om (by unfold maxLen;omega) om om (wr.heap.size+1) sm ?_;intro g5 cap5 w5 hown5 hgrow hat uP;have b5:=ah (qH hgrow (HQ.below (((bG _ wr).drew).alloc (aP _) _)).aF uj);have c5:w5.cell? ⟨w.heap.size,4096,none⟩=some Qv:=(aG b5 4096).trans (by rw [← aG HQ.aF];exact HQ.wQ);have z5: ∀ i,w5.frozen? ⟨w.heap.size,i,none⟩=false:=fun i=>eG b5 i)
   all_goals
    have hgn:g5≠w.heap.size∧w.heap.size<g5:=by
     rcases hat with x | x
     ·exact ⟨uh uj g5 x,uh Gg g5 x⟩
     ·omega
    have S1:=ah (Hb.alloc hsz (.cells (fM pk).toArray 139));have S2:=ah ((S1.drew.grown hgrow (by simp;omega) (fun k hk=>by have:=uh Gg k hk;omega)).setCell (p:=⟨w.heap.size,4096,none⟩) (aP _) (.slice (some ⟨g5,0,none⟩) (k+1) cap5));have hD5:eP (w5.setCell ⟨w.heap.size,4096,none⟩ (.slice (some ⟨g5,0,none⟩) (k+1) cap5)) w.heap.size (.slice (some ⟨g5,0,none⟩) (k+1) cap5) ⟨C,L.take (k+1)⟩:=by
     have hl:(L.take k).length=k:=by simp;omega
     have:=(HQ.below (((bG _ wr).drew).alloc (aP _) (.cells (fM pk).toArray 139))).abd (g5:=g5) (cap5:=cap5) hpc uj hgrow (by rw [hl];exact hown5) hgn.1
     rw [hl] at this;rw [uh Ht];exact this
    have HD5:=ah hD5;clear hD5 hgrow hown5;go_wp2;go_roundw
    case rel=>exact ⟨k+1,_,om,gn,uh HD5,fun g hg=>(by simp only [Value.ownBlock,jv] at hg;omega),uh S2⟩
    case measure=>exact cO
  ·have c2:wr.cell? ⟨d,4096,none⟩=some (.slice a L.length cap):=hd.wQ;have hkl:k=L.length:=om;have hfin:eP wr w.heap.size Qv ⟨C,L⟩:=by rw [hkl,Ij] at hQ;exact hQ
   have HQ:=ah hfin;have Hb:=ah hb;have Gg:=ah IG;clear hd hQ hfin hb hkl IG;go_wp2;go_ret;exact ⟨Qv,rfl,uh HQ,uh Gg,uh Hb⟩
end
end Go.Proofs.YtknjjjenklfeoaaGreatDoor
