import Derived.Test.YtknjjjenklfeoaaGreatDoorO06
set_option maxHeartbeats 8000000
set_option maxRecDepth 100000
set_option linter.all false
namespace Go.Proofs.YtknjjjenklfeoaaGreatDoor
open Go.RowKit
section
abbrev wL:=List (Nat × Nat)
def tY (L:List aj) (t:Nat):Nat→Nat→wL
 | 0,_=>[]
 | m+1,k=>(if num (cl L t) (2*k)=0 then [] else [(num (cl L t) (2*k)%32768,3)])++tY L t m (k+1)
def uq (L:List aj) (t:Nat):Nat→Nat→wL
 | 0,_=>[]
 | m+1,i=>(if num (cl L t) (2*i)=0 then [] else (num (cl L t) (2*i)%32768,2) :: tY L (num (cl L t) (2*i)%32768) 32 0)++uq L t m (i+1)
def xq (L:List aj) (t:Nat):wL:=(t,1) :: uq L t 32 0
structure wK (L:List aj) (ts:wL):Prop where
 lo: ∀ x ∈ ts,6≤x.1∧x.1<L.length∧x.2≠0
 kind: ∀ x ∈ ts,∀ y ∈ ts,x.1=y.1→x.2=y.2
 once: ∀ n,ts.count (n,1)≤1
theorem wK.pre {L:List aj} {a b:wL} (h:wK L (a++b)):wK L a:=
 ⟨fun x hx=>h.lo x (by simp [hx]),fun x hx y hy=>h.kind x (by simp [hx]) y (by simp [hy]),fun n=>by have:=h.once n;rw [Ik] at this;omega⟩
structure Told (L:List aj) (rs:List bC) (b:Int) (base:Nat→Nat) (ts:wL) (R:aU):Prop where
 hL:R.L=L
 hR:R.roots=rs
 hB:R.bad=b
 tl:R.told.length=256
 ul:R.used.length=256
 told: ∀ x ∈ ts,R.told.getD x.1 0=x.2
 none: ∀ n,(∀ x ∈ ts,x.1≠n)→R.told.getD n 0=0
 used: ∀ n,n<256→R.used.getD n 0=base n+(ts.map (·.1)).count n
theorem WE (T:List Nat) (k n i:Nat) (hk:k<T.length):(T.set k n).getD i 0=if k=i then n else T.getD i 0:=by
 rw [aK,uf]
 by_cases h:k=i
 ·subst h;rw [au rfl,au hk,au rfl];rfl
 ·rw [ak h,ak h,aK]
theorem Told.step {L:List aj} {rs:List bC} {b:Int} {base:Nat→Nat} {ts:wL} {R:aU} (h:Told L rs b base ts R) (jk:L.length≤256) (n kind at':Nat) (ok:wK L (ts++[(n,kind)])):
  (tell R n kind at').1=true∧Told L rs b base (ts++[(n,kind)]) (tell R n kind at').2:=by
 obtain ⟨h6,hn,hk0⟩:=ok.lo (n,kind) sm;simp only at h6 hn hk0;have hno:Dn R n kind=false:=by
  have e1:decide (n<6)=false:=by simp;omega
  have e2:decide (R.L.length≤n)=false:=by rw [h.hL];simp;omega
  unfold Dn;rw [e1,e2,EO,EO]
  by_cases hx: ∃ x ∈ ts,x.1=n
  ·obtain ⟨x,hx,he⟩:=hx;have h1:=h.told x hx;rw [he] at h1;have h2:=ok.kind x (by simp [hx]) (n,kind) sm he;simp only at h2;rw [h1,h2];have h3:kind≠1:=by
    intro hk;have h4:=ok.once n;rw [Ik,hk] at h4;have h5:0<ts.count (n,1):=by
     rw [Za]
     have:x=(n,1):=by rw [← he,← hk,← h2]
     rw [← this];exact hx
    simp at h4;omega
   simp [h3]
  ·have h1:=h.none n (fun x hx' e=>hx ⟨x,hx',e⟩);rw [h1];rfl
 unfold tell;rw [hno];refine ⟨rfl,⟨h.hL,h.hR,h.hB,by simp [h.tl],by simp [h.ul],?_,?_,?_⟩⟩
 ·intro x hx;show (R.told.set n kind).getD x.1 0=x.2;rw [WE _ _ _ _ (by rw [h.tl];omega)]
  by_cases e:n=x.1
  ·rw [au e];exact ok.kind (n,kind) sm x hx e
  ·rw [ak e];rcases gq.1 hx with y | y
   ·exact h.told x y
   ·exact absurd (by rw [jw.1 y]) e
 ·intro m hm;show (R.told.set n kind).getD m 0=0;rw [WE _ _ _ _ (by rw [h.tl];omega),ak (hm (n,kind) sm)];exact h.none m (fun x hx=>hm x (by simp [hx]))
 ·intro m hm;show (R.used.set n (R.used.getD n 0+1)).getD m 0=_;rw [WE _ _ _ _ (by rw [h.ul];omega),rE,Ik]
  by_cases e:n=m
  ·subst e;rw [au rfl,h.used n hm]
   simp
   omega
  ·rw [ak e,h.used m hm];simp [e]
theorem YR {L:List aj} {rs:List bC} {b:Int} {base:Nat→Nat} (jk:L.length≤256) (t:Nat): ∀ (m k:Nat) (ts:wL) (R:aU),Told L rs b base ts R→wK L (ts++tY L t m k)→
  (oN t m k R).1=true∧Told L rs b base (ts++tY L t m k) (oN t m k R).2
 | 0,_,ts,R,h,_=>⟨rfl,by rw [tY,rU];exact h⟩
 | m+1,k,ts,R,h,ok=>by
  by_cases h0:num (cl R.L t) (2*k)=0
  ·rw [akL _ _ _ _ h0];have h0':num (cl L t) (2*k)=0:=by rw [← h.hL];exact h0
   have e:tY L t (m+1) k=tY L t m (k+1):=by rw [tY,au h0'];rfl
   rw [e] at ok ⊢;exact YR jk t m (k+1) ts R h ok
  ·have h0': ¬ num (cl L t) (2*k)=0:=by rw [← h.hL];exact h0
   have e:ts++tY L t (m+1) k=(ts++[(num (cl L t) (2*k)%32768,3)])++tY L t m (k+1):=by rw [tY,ak h0',uG]
   rw [e] at ok ⊢;obtain ⟨h1,h2⟩:=h.step jk (num (cl L t) (2*k)%32768) 3 t ok.pre;rw [akK _ _ _ _ h0 (by rw [h.hL];exact h1),h.hL];exact YR jk t m (k+1) _ _ h2 ok
theorem adD {L:List aj} {rs:List bC} {b:Int} {base:Nat→Nat} (jk:L.length≤256) (t:Nat) (hz: ∀ i,1<i→i<32→num (cl L t) (2*i)=0): ∀ (m i:Nat) (ts:wL) (R:aU),i+m≤32→Told L rs b base ts R→wK L (ts++uq L t m i)→
  (xk t m i R).1=true∧Told L rs b base (ts++uq L t m i) (xk t m i R).2
 | 0,_,ts,R,_,h,_=>⟨rfl,by rw [uq,rU];exact h⟩
 | m+1,i,ts,R,hm,h,ok=>by
  rw [xk,h.hL]
  by_cases h0:num (cl L t) (2*i)=0
  ·rw [au h0];have e:uq L t (m+1) i=uq L t m (i+1):=by rw [uq,au h0];rfl
   rw [e] at ok ⊢;exact adD jk t hz m (i+1) ts R om h ok
  ·have hi: ¬ 1<i:=fun hi=>h0 (hz i hi om);have e:ts++uq L t (m+1) i=((ts++[(num (cl L t) (2*i)%32768,2)])++tY L (num (cl L t) (2*i)%32768) 32 0)++uq L t m (i+1):=by
    rw [uq,ak h0];simp
   rw [e] at ok ⊢;obtain ⟨h1,h2⟩:=h.step jk (num (cl L t) (2*i)%32768) 2 t ok.pre.pre;obtain ⟨h3,h4⟩:=YR jk (num (cl L t) (2*i)%32768) 32 0 _ _ h2 ok.pre;rw [ak h0,ak hi,au h1,au h3];exact adD jk t hz m (i+1) _ _ om h4 ok
theorem auB {L:List aj} {rs:List bC} {b:Int} {base:Nat→Nat} (jk:L.length≤256) (r:bC) (hz: ∀ i,1<i→i<32→num (cl L r.N) (2*i)=0) (ts:wL) (R:aU) (h:Told L rs b base ts R) (ok:wK L (ts++xq L r.N)):
  (tree R r).1=true∧Told L rs b base (ts++xq L r.N) (tree R r).2:=by
 have e:ts++xq L r.N=(ts++[(r.N,1)])++uq L r.N 32 0:=by rw [xq];simp
 rw [e] at ok ⊢;obtain ⟨h1,h2⟩:=h.step jk r.N 1 r.At ok.pre;unfold tree;rw [au h1];exact adD jk r.N hz 32 0 _ _ om h2 ok
def lM (L:List aj) (rs:List bC):Nat→Nat→wL
 | 0,_=>[]
 | m+1,i=>xq L (rs.getD i ⟨0,0,[]⟩).N++lM L rs m (i+1)
theorem adF {L:List aj} {rs:List bC} {b:Int} {base:Nat→Nat} (jk:L.length≤256) (hz: ∀ r ∈ rs,∀ i,1<i→i<32→num (cl L r.N) (2*i)=0): ∀ (m i:Nat) (ts:wL) (R:aU),i+m≤rs.length→Told L rs b base ts R→wK L (ts++lM L rs m i)→
  (AZ m i R).1=true∧Told L rs b base (ts++lM L rs m i) (AZ m i R).2
 | 0,_,ts,R,_,h,_=>⟨rfl,by rw [lM,rU];exact h⟩
 | m+1,i,ts,R,hm,h,ok=>by
  have hr:rootOf R i=rs.getD i ⟨0,0,[]⟩:=by unfold rootOf;rw [h.hR]
  have hmem:rs.getD i ⟨0,0,[]⟩ ∈ rs:=by
   rw [aK,bI om];exact oP _
  have e:ts++lM L rs (m+1) i=(ts++xq L (rs.getD i ⟨0,0,[]⟩).N)++lM L rs m (i+1):=by rw [lM,uG]
  rw [e] at ok ⊢;obtain ⟨h1,h2⟩:=auB jk (rs.getD i ⟨0,0,[]⟩) (hz _ hmem) ts R h ok.pre;rw [AZ,hr,au h1];exact adF jk hz m (i+1) _ _ om h2 ok
theorem aaL {R:aU}: ∀ (m n:Nat),(∀ j,n≤j→j<n+m→DW R j=false)→qm R m n= -1
 | 0,_,_=>rfl
 | m+1,n,h=>by
  rw [qm,h n om om];exact aaL m (n+1) (fun j h1 h2=>h j om om)
def gX (n:Nat):Nat:=UQ.getD n 0
theorem YV:UQ.length=256:=kr
theorem Y4:EJ.length=256:=kr
theorem vV (n:Nat):gX n=if n<6 then 1 else 0:=by
 unfold gX
 by_cases h:n<256
 ·have: ∀ k:Fin 256,UQ.getD k.val 0=if k.val<6 then 1 else 0:=by decide +kernel
  exact this ⟨n,h⟩
 ·rw [aK,eu (by rw [YV];omega),ak om];rfl
theorem ahN (L:List aj) (t:Nat): ∀ (m k j:Nat),k≤j→j<k+m→num (cl L t) (2*j)≠0→(num (cl L t) (2*j)%32768,3) ∈ tY L t m k
 | 0,_,_,h1,h2,_=>om
 | m+1,k,j,h1,h2,hj=>by
  rw [tY]
  by_cases e:j=k
  ·subst e;rw [ak hj];simp
  ·exact gq.2 (ay (ahN L t m (k+1) j om om hj))
theorem acp (L:List aj) (t:Nat): ∀ (m i j:Nat),i≤j→j<i+m→num (cl L t) (2*j)≠0→ ∀ x,(x=(num (cl L t) (2*j)%32768,2)∨x ∈ tY L (num (cl L t) (2*j)%32768) 32 0)→x ∈ uq L t m i
 | 0,_,_,h1,h2,_,_,_=>om
 | m+1,i,j,h1,h2,hj,x,hx=>by
  rw [uq]
  by_cases e:j=i
  ·subst e;rw [ak hj];rcases hx with rfl | hx
   ·simp
   ·simp [hx]
  ·exact gq.2 (ay (acp L t m (i+1) j om om hj x hx))
theorem ae2 (L:List aj) (rs:List bC): ∀ (m i j:Nat),i≤j→j<i+m→ ∀ x ∈ xq L (rs.getD j ⟨0,0,[]⟩).N,x ∈ lM L rs m i
 | 0,_,_,h1,h2,_,_=>om
 | m+1,i,j,h1,h2,x,hx=>by
  rw [lM]
  by_cases e:j=i
  ·subst e;exact gq.2 (aA hx)
  ·exact gq.2 (ay (ae2 L rs m (i+1) j om om x hx))
def Pq (L:List aj) (x:Nat):Prop:=x≠0→(32768≤x↔aS L (x%32768)=1)
def amg (L:List aj) (t:Nat):Prop:= ∀ i,i<2→Pq L (num (cl L t) (2*i))∧(num (cl L t) (2*i)≠0→ ∀ k,k<32→Pq L (num (cl L (num (cl L t) (2*i)%32768)) (2*k)))
structure CU (L:List aj) (rs:List bC):Prop where
 len:L.length≤256
 qj:6≤L.length
 ok:wK L (lM L rs rs.length 0)
 zero: ∀ r ∈ rs,∀ i,1<i→i<32→num (cl L r.N) (2*i)=0
 jy: ∀ n,n<256→aS L n=gX n+((lM L rs rs.length 0).map (·.1)).count n
 top: ∀ n,n<256→aS L n<255
 mark: ∀ i,i<rs.length→amg L (rs.getD i ⟨0,0,[]⟩).N
section
variable {L:List aj} {rs:List bC} {b:Int} {R:aU}
theorem CU.used (h:CU L rs) (hT:Told L rs b gX (lM L rs rs.length 0) R) (n:Nat) (hn:n<256):R.used.getD n 0=aS R.L n:=by
 rw [hT.used n hn,hT.hL,h.jy n hn]
theorem CU.none (h:CU L rs) (n:Nat) (hn:n<256) (hL:L.length≤n):aS L n=0:=by
 rw [h.jy n hn,vV,ak (by have:=h.qj;omega),qR,FU];intro hm;obtain ⟨x,hx,rfl⟩:=gQ.1 hm
 have:=(h.ok.lo x hx).2.1
 omega
theorem CU.counts (h:CU L rs) (hT:Told L rs b gX (lM L rs rs.length 0) R):qm R 256 0= -1:=by
 refine aaL 256 0 fun j _ hj=> ?_;have h1:=h.used hT j om;have h2:=h.top j om;unfold DW QW;rw [h1,hT.hL];have e1:decide (aS L j<aS L j)=false:=sm;have e2:(aS L j == 255)=false:=by rw [lI];omega
 rw [e1,e2,QZ,EO,EO]
 by_cases hl:L.length≤j
 ·rw [h.none j om hl];simp
 ·rw [gU hl];rfl
theorem ajV (hu: ∀ n,n<256→R.used.getD n 0=aS R.L n) (x:Nat) (hx0:x≠0) (hx:x%32768<256) (hr:Pq R.L x):oZ R x=false∧sG R x=0:=by
 have h:=hr hx0;have h1:=hu _ hx;unfold oZ sG
 by_cases hm:32768≤x
 ·rw [au hm,au hm,h1,h.1 hm];exact ⟨rfl,rfl⟩
 ·rw [ak hm,ak hm,h1,ak (fun e=>hm (h.2 e))];exact ⟨rfl,rfl⟩
theorem abX (hu: ∀ n,n<256→R.used.getD n 0=aS R.L n) (t:Nat) (hx: ∀ k,k<32→num (cl R.L t) (2*k)≠0→num (cl R.L t) (2*k)%32768<256∧Pq R.L (num (cl R.L t) (2*k))): ∀ (m k acc:Nat),k+m≤32→sH R t m k acc=some acc
 | 0,_,_,_=>rfl
 | m+1,k,acc,hm=>by
  rw [sH]
  by_cases h0:num (cl R.L t) (2*k)=0
  ·rw [au h0];exact abX hu t hx m (k+1) acc om
  ·obtain ⟨h1,h2⟩:=hx k om h0;obtain ⟨h3,h4⟩:=ajV hu _ h0 h1 h2;rw [ak h0,h3,h4];exact abX hu t hx m (k+1) _ om
theorem ab3 (hu: ∀ n,n<256→R.used.getD n 0=aS R.L n) (t:Nat) (hx: ∀ i,i<2→num (cl R.L t) (2*i)≠0→num (cl R.L t) (2*i)%32768<256∧Pq R.L (num (cl R.L t) (2*i))∧
  ∀ k,k<32→num (cl R.L (num (cl R.L t) (2*i)%32768)) (2*k)≠0→num (cl R.L (num (cl R.L t) (2*i)%32768)) (2*k)%32768<256∧Pq R.L (num (cl R.L (num (cl R.L t) (2*i)%32768)) (2*k))): ∀ (m i acc:Nat),i+m≤2→uS R t m i acc=(-1,acc)
 | 0,_,_,_=>rfl
 | m+1,i,acc,hm=>by
  rw [uS]
  by_cases h0:num (cl R.L t) (2*i)=0
  ·rw [au h0];exact ab3 hu t hx m (i+1) acc om
  ·obtain ⟨h1,h2,h5⟩:=hx i om h0;obtain ⟨h3,h4⟩:=ajV hu _ h0 h1 h2;rw [ak h0,h3,h4,jL,abX hu _ h5 32 0 acc om];exact ab3 hu t hx m (i+1) acc om
theorem CU.marked (h:CU L rs) (hT:Told L rs b gX (lM L rs rs.length 0) R) (i:Nat) (hi:i<rs.length):marked R (rootOf R i)=(-1,0):=by
 have hu:=fun n hn=>h.used hT n hn;have hr:rootOf R i=rs.getD i ⟨0,0,[]⟩:=by unfold rootOf;rw [hT.hR]
 unfold Go.Proofs.YtknjjjenklfeoaaGreatDoor.marked;refine ab3 hu _ (fun j hj h0=> ?_) 2 0 0 om;rw [hr] at h0 ⊢;rw [hT.hL] at h0 ⊢;have hm:=h.mark i hi j hj;have hin: ∀ x ∈ xq L (rs.getD i ⟨0,0,[]⟩).N,x.1<256:=fun x hx=>by
  have:=(h.ok.lo x (ae2 L rs rs.length 0 i om om x hx)).2.1
  have:=h.len
  omega
 refine ⟨hin (_,2) (dD.2 (ay (acp L _ 32 0 j om om h0 _ (aA rfl)))),hm.1,fun k hk hy=>⟨?_,hm.2 h0 k hk⟩⟩;exact hin (_,3) (dD.2 (ay (acp L _ 32 0 j om om h0 _ (ay (ahN L _ 32 0 k om om hy)))))
theorem CU.marks (h:CU L rs) (hT:Told L rs b gX (lM L rs rs.length 0) R): ∀ (m i:Nat),i+m≤rs.length→wX R m i (-1)= -1
 | 0,_,_=>rfl
 | m+1,i,hm=>by
  rw [wX,au dc,h.marked hT i om];exact h.marks hT m (i+1) om
theorem aaz (p:Nat→Bool): ∀ k,(∀ j,j<k→p j=false)→bF p k=0
 | 0,_=>rfl
 | k+1,h=>by rw [bF,aaz p k (fun j hj=>h j om),h k om];rfl
theorem CU.exact (h:CU L rs) (hT:Told L rs b gX (lM L rs rs.length 0) R):y7 R=true:=by
 have hu:=fun n hn=>h.used hT n hn;have hl:=h.len;have e1:bF (xO R) R.L.length=0:=aaz _ _ fun j hj=>by
  unfold xO;rw [hu j (by rw [hT.hL] at hj;omega)]
  by_cases hc:aS R.L j=0
  ·rw [hc];rfl
  ·rw [show (aS R.L j == 0)=false by rw [lI];exact hc];rfl
 have e2:bF (xP R) R.L.length=0:=aaz _ _ fun j hj=>by
  unfold xP;rw [hu j (by rw [hT.hL] at hj;omega)]
  simp
 have e3: ∀ k,k≤rs.length→Ac R k=0:=by
  intro k
  induction k with
  | zero=>intro _;rfl
  | succ k ih=>
   intro hk;rw [Ac,ih om,h.marked hT k om];rfl
 unfold y7 Cm;simp only [e1,e2,hT.hR,e3 rs.length (aP _)];rfl
theorem aqf {file:List aj} (hh:lQ file=true) (hl:(iO (gu file)).1=true) (hx:CU (gu file).L (iO (gu file)).2):
  (look file).bad= -1∧(look file).L=(gu file).L∧(look file).roots=(iO (gu file)).2∧y7 (look file)=true∧uK 1000 (look file):=by
 have T0:Told (gu file).L (iO (gu file)).2 (-1) gX [] (qE file):=
  ⟨rfl,rfl,rfl,Y4,YV,fun x hx=>by simp at hx,fun n _=>by
   show EJ.getD n 0=0;unfold EJ;rw [aK,qU]
   split <;> rfl,fun n _=>rfl⟩
 obtain ⟨h1,h2⟩:=adF hx.len hx.zero (iO (gu file)).2.length 0 [] (qE file) om T0 hx.ok;rw [ql] at h2;have h1':(iG file).1=true:=h1;have h2':Told (gu file).L (iO (gu file)).2 (-1) gX (lM (gu file).L (iO (gu file)).2 (iO (gu file)).2.length 0) (iG file).2:=h2;have e:look file={ (iG file).2 with bad:=wX (iG file).2 (iG file).2.roots.length 0 (qm (iG file).2 256 0) }:=by
  unfold look;rw [ak (by rw [hh];decide),ak (by rw [hl];decide),ak (by rw [h1'];decide)]
 clear h1 h2 T0 h1';generalize iG file=Q at h2' e;have h3:Told (gu file).L (iO (gu file)).2 (-1) gX (lM (gu file).L (iO (gu file)).2 (iO (gu file)).2.length 0) (look file):=by
  rw [e,hx.counts h2',h2'.hR,hx.marks h2' _ 0 om];exact ⟨h2'.hL,h2'.hR,rfl,h2'.tl,h2'.ul,h2'.told,h2'.none,h2'.used⟩
 refine ⟨h3.hB,h3.hL,h3.hR,hx.exact h3,fun n=> ?_⟩
 by_cases hn:n<256
 ·rw [hx.used h3 n hn,h3.hL]
  have:=hx.top n hn
  omega
 ·rw [aK,eu (by rw [h3.ul];omega)];exact nN _
end
end
def ae8 (parts:Array (Nat × Value)):Sem Value:=Instr.build 93 parts
theorem am3 (parts:Array (Nat × Value)):Instr.build 93 parts=ae8 parts:=rfl
theorem asU (w:World):(ae8 #[(4,.int .i64 (-1))]).run Tryz.prog w= .ok (.agg (Dh (.slice none 0 0) (.slice none 0 0) R0).toArray) w:=kr
theorem abH (c:aj): ∀ m i over Q,(∀ r ∈ Q,r.N<65536∧r.At<65536)→(∀ r ∈ (qJ c m i over Q).2,r.N<65536∧r.At<65536)∧Q.length≤(qJ c m i over Q).2.length∧(qJ c m i over Q).2.length≤Q.length+m
 | 0,_,_,Q,h=>⟨h,aP _,aP _⟩
 | m+1,i,over,Q,h=>by
  rw [qJ];split
  ·split
   ·obtain ⟨a,b,d⟩:=abH c m (i+1) true Q h;exact ⟨a,b,om⟩
   ·exact ⟨h,aP _,by show Q.length≤_;omega⟩
  ·split
   ·exact ⟨h,aP _,by show Q.length≤_;omega⟩
   ·split
    ·exact ⟨h,aP _,by show Q.length≤_;omega⟩
    ·obtain ⟨a,b,d⟩:=abH c m (i+1) over (Q++[⟨num c (16*i),5,(nameOf c (16*i+2)).1⟩]) (by
      intro r hr;rcases gq.1 hr with x | x
      ·exact h r x
      ·rw [jw.1 x];exact ⟨iD _ _,by show 5<65536;omega⟩)
     simp only [oO,Zb] at b d;exact ⟨a,om,om⟩
theorem ame (file:List aj): ∀ r ∈ (gu file).roots,r.N<65536∧r.At<65536:=by
 intro r hr;rw [jw.1 hr];exact ⟨iD _ _,by show 0<65536;omega⟩
theorem amf (file:List aj):(∀ r ∈ (qE file).roots,r.N<65536∧r.At<65536)∧1≤(qE file).roots.length∧(qE file).roots.length≤5:=by
 have h:=abH (cl (gu file).L 5) 4 0 false (gu file).roots (ame file);have e:(gu file).roots.length=1:=rfl;rw [e] at h;exact ⟨h.1,h.2.1,h.2.2⟩
theorem asL {R:aU} {i:Nat} (h:i<R.roots.length):rootOf R i ∈ R.roots:=by
 unfold rootOf;rw [aK,bI h];exact oP h
theorem aiz (R:aU) (b:Int) (x:Nat):oZ { R with bad:=b } x=oZ R x:=rfl
theorem aiB (R:aU) (b:Int) (x:Nat):sG { R with bad:=b } x=sG R x:=rfl
theorem aiC (R:aU) (b:Int) (t:Nat): ∀ m k acc,sH { R with bad:=b } t m k acc=sH R t m k acc
 | 0,_,_=>rfl
 | m+1,k,acc=>by simp only [sH,aiz,aiB,aiC R b t m]
theorem aiD (R:aU) (b:Int) (t:Nat): ∀ m k acc,uS { R with bad:=b } t m k acc=uS R t m k acc
 | 0,_,_=>rfl
 | m+1,k,acc=>by simp only [uS,aiz,aiB,aiC,aiD R b t m]
theorem aqm (R:aU) (b:Int) (r:bC):marked { R with bad:=b } r=marked R r:=aiD R b r.N 2 0 0
def KI (k:Nat):List Nat:=List.replicate k 1++List.replicate (256 - k) 0
theorem auI (k:Nat) (h:k≤6):(KI k).length=256:=by simp [KI];omega
theorem auK (k:Nat) (h:k<6):(KI k).set k 1=KI (k+1):=by
 refine uH fun i=> ?_;rw [uf,auI k om];unfold KI
 by_cases hi:k=i
 ·subst hi;rw [au rfl,au om,oJ sm,qU,au om]
 ·rw [ak hi]
  by_cases h1:i<k
  ·rw [oJ (by simp;omega),oJ (by simp;omega),qU,qU,au h1,au om]
  ·rw [nP (by simp;omega),nP (by simp;omega),qU,qU];simp only [zy]
   by_cases h2:i<256
   ·rw [au om,au om]
   ·rw [ak om,ak om]
theorem auJ (k n:Nat):(KI k).getD n 0≤1:=by
 unfold KI;rw [aK]
 by_cases h:n<k
 ·rw [oJ (by rw [zy];exact h),qU,au h];exact aP _
 ·rw [nP (by rw [zy];omega),qU];split
  ·exact nN _
  ·exact nN _
section
attribute [local go_sem ↓] am3
attribute [local go_sem] asU
theorem Kept.toBelow {S:Nat→Prop} {n:Nat} {w W w':World} (hk:Kept S W w') (hB:Below n w W) (hn:n≤W.heap.size) (hS: ∀ k,S k→n≤k):Below n w w':=
 ⟨hk.os.trans hB.os,hk.tape.trans hB.tape,hk.output.trans hB.output,jZ hB.size hk.size,fun k hk'=>(hk.block k (iZ hk' hn) (fun x=>by have:=hS k x;omega)).trans (hB.block k hk')⟩
theorem ao8 {file:List aj} (h:lQ file=true):6≤file.length∧file.length≤256∧7≤num (cl file 0) 4∧num (cl file 0) 4≤256∧file.length≤num (cl file 0) 4:=by
 simp only [lQ,vU,decide_eq_true_eq] at h;omega
structure aeZ (W w':World) (f:Nat) (Lv Rv:Value) (R R':aU) (k:Nat):Prop where
 at':bV w' f Lv Rv R'
 kept:Kept (fun k=>k=f) W w'
 hL:R'.L=R.L
 hR:R'.roots=R.roots
 low:uK (1+2000*k) R'
 yH: ∀ i,i<k→rH R.L (rootOf R i).N
structure al7 (w w':World) (file:List aj) (Lv Rv:Value):Prop where
 at':bV w' w.heap.size Lv Rv (look file)
 below:aC w w'
 fresh: ∀ g,Lv.ownBlock=some g→w.heap.size≤g
theorem NV (w:World) (fv:Value) (file:List aj) (hf:lK w fv file) (hlen:file.length≤1000):
  Calls Tryz.prog 41 #[fv] w fun e w'=>
   e= .returned (.pointer (some ⟨w.heap.size,0,none⟩))∧ ∃ Lv Rv,al7 w w' file Lv Rv:=by
 have hF0:bV (w.alloc (.cells (Dh (.slice none 0 0) (.slice none 0 0) R0).toArray 93)) w.heap.size (.slice none 0 0) (.slice none 0 0) R0:=
  ⟨aW _ _,wF _ _ _ _,wF _ _ _ _,by simp [R0,EJ],by simp [R0,EJ],by intro c hc;cases hc⟩
 have hB0:aC w (w.alloc (.cells (Dh (.slice none 0 0) (.slice none 0 0) R0).toArray 93)):=fC;have hfW:lK (w.alloc (.cells (Dh (.slice none 0 0) (.slice none 0 0) R0).toArray 93)) fv file:=hf.kept (S:=fun _=>False) ((Kept.refl _ _).alloc _) (fun _ _=>id);have hWs:(w.alloc (.cells (Dh (.slice none 0 0) (.slice none 0 0) R0).toArray 93)).heap.size=w.heap.size+1:=sm;have Hh:=ah (ao9 _ w.heap.size fv file R0 hF0 hfW hlen);have HB0:=ah hB0;have HWs:=ah hWs;clear hF0 hB0 hfW hWs
 go_enter Tryz.func41,Tryz.ntmps41
 go_wp2_with fail
 generalize w.alloc (.cells (Dh (.slice none 0 0) (.slice none 0 0) R0).toArray 93)=W at*;refine Hh.mono ?_;rintro e w1 (⟨hgood,rfl,hF1,hK1⟩ | ⟨hgood,rfl,⟨Lv,Rv,hF1,hRv,ag7⟩,hK1⟩)
 ·have hl:look file={ R0 with bad:=0 }:=by simp [look,hgood]
  have c1:=hF1.CY;have z1:=hF1.fz;have Hb:=ah (hF1.QN 0);have HL:=ah hl;have HK:=ah hK1;clear hgood hF1 hK1 hl Hh;go_wp2;go_ret;refine ⟨rfl,_,_,by rw [uh HL];exact uh Hb,?_,fun g hg=>by cases hg⟩;exact (HK.setCell (p:=⟨w.heap.size,514,none⟩) (aA rfl) (.int .i64 0)).toBelow HB0 (by have:=uh HWs;omega) (fun k hk=>om)
 ·have Vq:Hid (∀ g,Lv.ownBlock=some g→w.heap.size≤g):=fun g hg=>by have:=ag7 g hg;have:=uh HWs;omega
  clear ag7;have hbd:=ao8 hgood;have hLlen:(gu file).L.length=num (cl file 0) 4:=jV _ _;have HF1:Hid (bV w1 w.heap.size Lv Rv (gu file)):=hF1;have HK1:=ah hK1;have HRv:=ah hRv;have RP:=ah (ap1 w1 w.heap.size Lv Rv (gu file) hF1 (by rw [hLlen];omega) rfl);have hlk:look file=if (iO (gu file)).1=false then { gu file with roots:=(iO (gu file)).2,bad:=5 }
    else if (iG file).1=false then (iG file).2
    else { (iG file).2 with bad:=wX (iG file).2 (iG file).2.roots.length 0 (qm (iG file).2 256 0) }:=by simp [look,hgood]
  have Iu:=ah hlk;clear hF1 hK1 hRv hgood hlk Hh
  go_wp2_with fail
  refine RP.mono ?_;rintro e w2 ⟨rfl,Rv2,hF2,hK2,PY⟩;have hB2:aC w w2:=by
   refine hK2.toBelow (HK1.toBelow HB0 (by have:=uh HWs;omega) (fun k hk=>om)) (by have:=HK1.size;have:=uh HWs;omega) (fun k hk=> ?_);rcases hk with x | x
   ·omega
   ·have:=uh HRv k x;have:=uh HWs;omega
  have HB2:=ah hB2;clear hB2 hK2 PY HK1 HRv HF1 RP HB0;cases hls:(iO (gu file)).1 with
  | false=>
   rw [hls,au rfl] at Iu;have c1:=hF2.CY;have z1:=hF2.fz;have Hb:=ah (hF2.QN 5);clear hls hF2;go_wp2;go_ret;refine ⟨rfl,_,_,by rw [uh Iu];exact uh Hb,?_,uh Vq⟩;exact HB2.setCell (p:=⟨w.heap.size,514,none⟩) (aP _) _
  | true=>
   rw [hls,ak dc] at Iu;clear hls;have HF2:Hid (bV w2 w.heap.size Lv Rv2 { gu file with roots:=(iO (gu file)).2,used:=KI 0 }):=hF2;clear hF2;go_wp2
   go_loopw [5] (fun i w'=> ∃ k:Nat,k≤6∧i= .int .i64 k∧bV w' w.heap.size Lv Rv2 { gu file with roots:=(iO (gu file)).2,used:=KI k }∧aC w w') (fun i _=>6 - (intOf i).toNat)
   case atStart=>exact ⟨0,om,rfl,uh HF2,uh HB2⟩
   case round=>
    obtain ⟨k,hk,rfl,hF,hB⟩:=hrel;clear HF2 HB2
    by_cases hlt:k<6
    ·have cu:=hF.SA k om;have zu:=hF.fz;have Hs:=ah (hF.aki k 1 om);have HB:=ah hB;clear hF hB;go_wp2;go_roundw
     case rel=>
      refine ⟨k+1,om,gn,?_,HB.setCell (p:=⟨w.heap.size,258+k,none⟩) (aP _) _⟩;rw [← auK k hlt];exact uh Hs
     case measure=>exact cO
    ·have hk6:k=6:=om;subst hk6;have HF:Hid (bV wr w.heap.size Lv Rv2 (qE file)):=hF;have HB:=ah hB;clear hF hB;have hr2:=amf file;have c1:=HF.BG;obtain ⟨a2,cap2,PY⟩:=iq HF.o8;have jk:(qE file).L.length≤256:=by show (gu file).L.length≤256;rw [hLlen];omega
     have hL5:5≤(qE file).L.length:=by show 5≤(gu file).L.length;rw [hLlen];omega
     have hT3:iG file=AZ (qE file).roots.length 0 (qE file):=rfl;have hlow2:uK 1 (qE file):=fun n=>auJ 6 n;have HT3:=ah hT3;have Hr2:=ah hr2;have aeJ:=ah hlow2;clear hT3 hlow2;generalize qE file=R2 at*;subst PY;have avY:=hr2.2.2;clear hr2;have HTr:Hid (aeZ wr wr w.heap.size Lv (.slice a2 R2.roots.length cap2) R2 R2 0):=⟨uh HF,Kept.refl _ _,rfl,rfl,uh aeJ,fun i hi=>om⟩;clear HF aeJ c1;have HB3:=HB;clear HB;go_wp2;generalize Value.int .i64 ((6:Nat):Int)=s5;generalize wr=W3 at*
     go_loopw [6] (fun i w'=> ∃ (k:Nat) (R':aU),k≤R2.roots.length∧i= .int .i64 k∧aeZ W3 w' w.heap.size Lv (.slice a2 R2.roots.length cap2) R2 R' k∧iG file=AZ (R2.roots.length - k) k R') (fun i _=>R2.roots.length - (intOf i).toNat)
     case atStart=>exact ⟨0,R2,om,rfl,uh HTr,uh HT3⟩
     case round=>
      obtain ⟨k,R',hk,rfl,ht,he⟩:=hrel;have He:=ah he;clear he HTr HT3;have c1:=ht.at'.BG
      by_cases hlt2:k<R2.roots.length
      ·have hrow:=ht.at'.o8;rw [ht.hR] at hrow;obtain ⟨g2,cap3,e2,_⟩:=gB hrow om;obtain ⟨rfl,rfl⟩:a2=some ⟨g2,0,none⟩∧cap2=cap3:=by injection e2 with x1 x2 x3;exact ⟨x1,x3⟩
       have r0:=xU hrow k hlt2 0 om;have r1:=xU hrow k hlt2 1 om;have r2:=xU hrow k hlt2 2 om;have hro:rootOf R' k=rootOf R2 k:=by unfold rootOf;rw [ht.hR]
       rw [show R2.roots.getD k ⟨0,0,[]⟩=rootOf R2 k from rfl] at r0 r1 r2;simp only [ig,Ju,EN,jL] at r0 r1 r2;have hkb:=Hr2.1 _ (asL hlt2);have zF:=ah (auw wr w.heap.size Lv _ R' (rootOf R2 k) ht.at' (by rw [ht.hL];exact jk) hkb.1 hkb.2 (1+2000*k) om ht.low);have hki:(k:Int)<(R2.roots.length:Int):=om;have hst:iG file=if (tree R' (rootOf R2 k)).1 then AZ (R2.roots.length - (k+1)) (k+1) (tree R' (rootOf R2 k)).2 else (false,(tree R' (rootOf R2 k)).2):=by
        rw [uh He,show R2.roots.length - k=(R2.roots.length - (k+1))+1 by omega,AZ,hro]
       have fK:=ah hst;have HT:=ah ht;clear hst ht He hrow e2 hro hkb;have abt:=fun h=>auz (R:=R') (r:=rootOf R2 k) h;rw [HT.hL] at abt;have aeF:=ah abt;clear abt;unfold ig at zF
       go_wp2_with fail
       refine zF.mono ?_;rintro e w4 ⟨rfl,hg4⟩;clear zF r0 r1 r2 c1;cases htt:(tree R' (rootOf R2 k)).1 with
       | false=>
        rw [htt] at fK;have hx:iG file=(false,(tree R' (rootOf R2 k)).2):=uh fK;rw [show (iG file).1=false by rw [hx],au rfl,show (iG file).2=(tree R' (rootOf R2 k)).2 by rw [hx]] at Iu;have Hg4:=ah hg4;clear htt fK hx hg4;go_wp2;go_ret;refine ⟨rfl,_,_,by rw [uh Iu];exact Hg4.at',?_,uh Vq⟩;exact (HT.kept.trans Hg4.kept).toBelow HB3 HB3.size (fun k hk=>om)
       | true=>
        rw [htt] at fK;have hi:=uh aeF htt;have hx:iG file=AZ (R2.roots.length - (k+1)) (k+1) (tree R' (rootOf R2 k)).2:=uh fK;have HX:=ah hx;have HI:=ah hi;have Hg4:=ah hg4;clear htt fK hx hg4 hi aeF;go_wp2;go_roundw
        case rel=>
         refine ⟨k+1,(tree R' (rootOf R2 k)).2,om,gn,⟨Hg4.at',HT.kept.trans Hg4.kept,Hg4.hL.trans HT.hL,Hg4.hR.trans HT.hR,Hg4.low.mono om,fun i hi=> ?_⟩,uh HX⟩
         by_cases hik:i=k
         ·subst hik;exact uh HI
         ·exact HT.yH i om
        case measure=>exact cO
      ·have hkr:k=R2.roots.length:=om;have hx:iG file=(true,R'):=by rw [uh He,hkr,Bf];rfl
       rw [show (iG file).1=true by rw [hx],ak dc,show (iG file).2=R' by rw [hx]] at Iu;have hlow':uK 100000 R':=ht.low.mono om;have hL':R'.L.length≤256:=by rw [ht.hL];exact jk
       have hL5':5≤R'.L.length:=by rw [ht.hL];exact hL5
       have ahz: ∀ i,i<R'.roots.length→rH R'.L (rootOf R' i).N:=by
        intro i hi;rw [ht.hR] at hi;rw [show rootOf R' i=rootOf R2 i by unfold rootOf;rw [ht.hR],ht.hL];exact ht.yH i om
       have alW:=ah ahz;have hBw:aC w wr:=ht.kept.toBelow HB3 HB3.size (fun k hk=>om);have Hc:=ah (an1 wr w.heap.size Lv _ R' ht.at' hL5' (hlow'.mono om));have hRl:R'.roots.length=R2.roots.length:=by rw [ht.hR]
       have HF:=ah ht.at';have HBw:=ah hBw;have cb:=ht.at'.CY;have zb:=ht.at'.fz;clear ht hx He ahz hBw
       go_wp2_with fail
       refine Hc.mono ?_;rintro e w4 ⟨rfl,rfl⟩;have HFc:=ah (HF.QN (qm R' 256 0));have HBc:=ah (HBw.setCell (p:=⟨w.heap.size,514,none⟩) (aP _) (.int .i64 (qm R' 256 0)));generalize hcc:qm R' 256 0=cc at*;have Hcc:=ah hcc;clear Hc hcc;go_wp2;generalize Value.int .i64 (k:Int)=s6;have hcl:wX R' R'.roots.length 0 cc=wX R' R2.roots.length 0 cc:=by rw [hRl]
       rw [hcl] at Iu;generalize hM:wX R' R2.roots.length 0 cc=M at Iu;have HM:=ah hM;clear hM hcl cb HF
       go_loopw [7] (fun i w'=> ∃ (m:Nat) (b:Int),m≤R2.roots.length∧i= .int .i64 m∧bV w' w.heap.size Lv (.slice a2 R2.roots.length cap2) { R' with bad:=b }∧aC w w'∧wX R' (R2.roots.length - m) m b=M) (fun i _=>R2.roots.length - (intOf i).toNat)
       case atStart=>exact ⟨0,cc,om,rfl,uh HFc,uh HBc,uh HM⟩
       case round=>
        obtain ⟨m,b,hm,rfl,hF,hB,hz⟩:=hrel;have Hz:=ah hz;clear hz HM HFc HBc;have c1:=hF.BG;have cb:=hF.CY;have zb:=hF.fz
        by_cases hlt3:m<R2.roots.length
        ·have hz2:(if b<0 then wX R' (R2.roots.length - (m+1)) (m+1) (marked R' (rootOf R' m)).1 else b)=M:=by
          rw [← uh Hz,show R2.roots.length - m=(R2.roots.length - (m+1))+1 by omega,wX]
         have Hz2:=ah hz2;clear hz2 Hz
         by_cases hb0:b<0
         ·rw [au hb0] at Hz2;have hrow:=hF.o8;rw [show ({ R' with bad:=b }:aU).roots=R'.roots from rfl] at hrow;have hrow2:wr.ownsRow 0 132 3 (.slice a2 R'.roots.length cap2) R'.roots.length (R'.roots.flatMap ig):=by rw [hRl] at *;exact hrow
          obtain ⟨g2,cap3,e2,_⟩:=gB hrow2 om;obtain ⟨rfl,rfl⟩:a2=some ⟨g2,0,none⟩∧cap2=cap3:=by injection e2 with x1 x2 x3;exact ⟨x1,x3⟩
          have r0:=xU hrow2 m om 0 om;have r1:=xU hrow2 m om 1 om;have r2:=xU hrow2 m om 2 om;rw [show R'.roots.getD m ⟨0,0,[]⟩=rootOf R' m from rfl] at r0 r1 r2;simp only [ig,Ju,EN,jL] at r0 r1 r2;have wJ:=ah (aiE wr w.heap.size Lv _ { R' with bad:=b } (rootOf R' m) hF hL' hL5' (uh alW m om) (hlow'.mono om));rw [aqm] at wJ;have TJ:(m:Int)<(R2.roots.length:Int):=om;have HF:=ah hF;have HB:=ah hB;clear hF hB hrow hrow2 e2;unfold ig at wJ
          go_wp2_with fail
          refine wJ.mono ?_;rintro e w5 ⟨rfl,hb5⟩;have hF5:=HF.below hb5;have cb5:=hF5.CY;have zb5:=hF5.fz;have HF5:=ah (hF5.QN (marked R' (rootOf R' m)).1);have HB5:=ah ((HB.trans (hb5.mono HB.size)).setCell (p:=⟨w.heap.size,514,none⟩) (aP _) (.int .i64 (marked R' (rootOf R' m)).1));clear wJ hb5 hF5 HF HB r0 r1 r2 c1 cb zb;generalize (marked R' (rootOf R' m)).1=b5 at*;generalize (marked R' (rootOf R' m)).2=q5 at*;go_wp2;go_roundw
          case rel=>exact ⟨m+1,b5,om,gn,uh HF5,uh HB5,uh Hz2⟩
          case measure=>exact cO
         ·rw [ak hb0] at Hz2;have db:decide (b<0)=false:=by simpa using hb0
          have HF:=ah hF;have HB:=ah hB;clear hF hB;go_wp2;go_ret;exact ⟨rfl,Lv,_,by rw [uh Iu,← uh Hz2];exact uh HF,uh HB,uh Vq⟩
        ·have hmn:m=R2.roots.length:=om;have hz2:b=M:=by rw [← uh Hz,hmn,Bf];rfl
         have Hz2:=ah hz2;have HF:=ah hF;have HB:=ah hB;clear hF hB hz2 Hz hmn;go_wp2;go_ret;exact ⟨rfl,Lv,_,by rw [uh Iu,← uh Hz2];exact uh HF,uh HB,uh Vq⟩
end
structure jQ where
 name:List UInt8
 C:List aj
structure dY where
 C:List aj
 L:List jQ
def fM (p:jQ):List Value:= .string (bJ p.name) :: aQ p.C
def vZ (D:dY) (Pv:Value):List Value:=aQ D.C++[Pv]
structure ug (C:List aj):Prop where
 all:EP C
 len:C.length=64
theorem ug.flat {C:List aj} (h:ug C):(aQ C).length=4096:=by rw [yC C h.all,h.len]
structure eP (w:World) (d:Nat) (Pv:Value) (D:dY):Prop where
 aF:w.heap[d]? = some (.cells (vZ D Pv).toArray 70 (0,0))
 row:w.ownsRow 0 139 4097 Pv D.L.length (D.L.flatMap fM)
 cont:ug D.C
 yM: ∀ p ∈ D.L,ug p.C
theorem eP.lt {w:World} {d:Nat} {Pv:Value} {D:dY} (h:eP w d Pv D):d<w.heap.size:=aO h.aF
theorem eP.wQ {w:World} {d:Nat} {Pv:Value} {D:dY} (h:eP w d Pv D):w.cell? ⟨d,4096,none⟩=some Pv:=by
 rw [aG h.aF,bW,vZ,nP (by rw [h.cont.flat];omega),h.cont.flat];rfl
theorem eP.range {w:World} {d:Nat} {Pv:Value} {D:dY} (h:eP w d Pv D):w.rangeAt d 0 (aQ D.C):=fun j v hv=>by
 have hj:=(FW.1 hv).1;rw [qR,aG h.aF,bW,vZ,oJ hj];exact hv
theorem eP.has {w:World} {d:Nat} {Pv:Value} {D:dY} (h:eP w d Pv D):dN w d 0 4096:=sV h.range h.cont.flat
theorem eP.cells {w:World} {d:Nat} {Pv:Value} {D:dY} (h:eP w d Pv D):dI w d 0 4096=aQ D.C:=qX h.range h.cont.flat
theorem eP.neP {w:World} {d:Nat} {Pv:Value} {D:dY} (h:eP w d Pv D): ∀ g,Pv.ownBlock=some g→g≠d:=iw h.row h.aF dc
theorem eP.kept {w w':World} {d:Nat} {Pv:Value} {D:dY} {S:Nat→Prop} (h:eP w d Pv D) (hk:Kept S w w') (hd: ¬ S d) (hP: ∀ g,Pv.ownBlock=some g→ ¬ S g):eP w' d Pv D:=
 ⟨hk.aF hd h.aF,bQ hk h.row hP,h.cont,h.yM⟩
theorem eP.below {w w':World} {d:Nat} {Pv:Value} {D:dY} (h:eP w d Pv D) (hb:aC w w'):eP w' d Pv D:=
 h.kept (S:=fun _=>False) (Kept.dS hb) id (fun _ _=>id)
theorem eP.drewN {w:World} {d:Nat} {Pv:Value} {D:dY} (h:eP w d Pv D) (n:Nat):eP (w.drewN n) d Pv D:=
 h.kept (S:=fun _=>False) ((Kept.refl _ _).drewN n) id (fun _ _=>id)
def aaf (parts:Array (Nat × Value)):Sem Value:=Instr.build 70 parts
theorem Ns (parts:Array (Nat × Value)):Instr.build 70 parts=aaf parts:=rfl
theorem QJ {w:World} {C:List aj} (hC:EP C) (hl:C.length=64):(aaf #[(0,.agg (aQ C).toArray)]).run Tryz.prog w= .ok (.agg (vZ ⟨C,[]⟩ (.slice none 0 0)).toArray) w:=by
 have hz:=(uI (P:=Tryz.prog) (t:=70) (v:= .agg (vZ ⟨zD,[]⟩ (.slice none 0 0)).toArray) (n:=4097) kr).1;have hfl:=(ug.mk hC hl).flat;have hzl:=(ug.mk (C:=zD) MK ML).flat;have hf:Instr.fill (fun x=>(#[(0,4096),(4096,1)]:Array (Nat × Nat))[x]?) (aQ zD++[Value.slice none 0 0]).toArray [(0,Value.agg (aQ C).toArray)]=some (vZ ⟨C,[]⟩ (.slice none 0 0)).toArray:=by
  rw [JR _ _ 0 0 4096 (.agg (aQ C).toArray) [] (by rfl) (by simp [Value.cells,hfl]) (by simp [hzl]),Instr.fill,show (Value.agg (aQ C).toArray).cells.toList=aQ C from rfl,
   Oo (aQ zD) [Value.slice none 0 0] (aQ C) (by rw [hzl,hfl])]
  rfl
 exact KF w 70 _ (.agg (vZ ⟨zD,[]⟩ (.slice none 0 0)).toArray) #[(0,4096),(4096,1)] #[(0,.agg (aQ C).toArray)] _ Tryz.underlying70 hz (fun w=>kr) hf
def aai (parts:Array (Nat × Value)):Sem Value:=Instr.build 139 parts
theorem VP (parts:Array (Nat × Value)):Instr.build 139 parts=aai parts:=rfl
theorem QK {w:World} {nm:List UInt8} {C:List aj} (hC:EP C) (hl:C.length=64):(aai #[(0,.string (bJ nm)),(1,.agg (aQ C).toArray)]).run Tryz.prog w= .ok (.agg (fM ⟨nm,C⟩).toArray) w:=by
 have hz:=(uI (P:=Tryz.prog) (t:=139) (v:= .agg (fM ⟨[],zD⟩).toArray) (n:=4097) kr).1;have hfl:=(ug.mk hC hl).flat;have hzl:=(ug.mk (C:=zD) MK ML).flat;have hf:Instr.fill (fun x=>(#[(0,1),(1,4096)]:Array (Nat × Nat))[x]?) ([Value.string (bJ [])]++aQ zD).toArray [(0,Value.string (bJ nm)),(1,Value.agg (aQ C).toArray)]=some (fM ⟨nm,C⟩).toArray:=by
  rw [JR _ _ 0 0 1 (.string (bJ nm)) _ (by rfl) (by rfl) sm,show (Value.string (bJ nm)).cells.toList=[Value.string (bJ nm)] from rfl,Oo [Value.string (bJ [])] (aQ zD) [Value.string (bJ nm)] rfl,
   JR _ _ 1 1 4096 (.agg (aQ C).toArray) [] (by rfl) (by simp [Value.cells,hfl]) (by simp [hzl]),Instr.fill,show (Value.agg (aQ C).toArray).cells.toList=aQ C from rfl]
  have:=Yo [Value.string (bJ nm)] (aQ zD) (aQ C) (by rw [hzl,hfl])
  rw [show ([Value.string (bJ nm)]:List Value).length=1 from rfl] at this;rw [this];rfl
 exact KF w 139 _ (.agg (fM ⟨[],zD⟩).toArray) #[(0,1),(1,4096)] #[(0,.string (bJ nm)),(1,.agg (aQ C).toArray)] _ Tryz.underlying139 hz (fun w=>kr) hf
end Go.Proofs.YtknjjjenklfeoaaGreatDoor
