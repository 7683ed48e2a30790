import Derived.Test.YtknjjjenklfeoaaGreatDoorO23
set_option maxHeartbeats 8000000
set_option maxRecDepth 100000
set_option linter.all false
namespace Go.Proofs.YtknjjjenklfeoaaGreatDoor
open Go.RowKit
section
variable {base:List aj} {V:aB} {T N0:Nat} {E:List aX} {D:dY}
theorem af8 {C:List aj} (h5:5≤C.length) (T n:Nat) (hT:5≤T) (hn:n<256):aS (aZ C T) n=aS C n:=by
 rw [Nu _ _ _ hT hn];unfold aS;rw [lV om]
theorem bD.ok (h:bD base V N0 E):Ok V.C V.C.length N0 E (bU V.C N0 E):=⟨h.file,by rw [XM];exact h.sound,by rw [XM]⟩
theorem Ok.bP (h:Ok V.C T N0 E D) (hT:V.C.length=T) (hf:V.loose=false) (hl:yY base V):bD base V N0 E:=by
 have hs:=h.sound;rw [rP hT] at hs;exact ⟨by rw [hT];exact h.file,hs,hf,hl⟩
def je (C:List aj) (F:List Nat):Nat:=max C.length (uo F+1)
theorem bD.longer (h:bD base V N0 E) (F:List Nat) (hF:uo F<256):Ok (dQ V F).C (je V.C F) N0 E (bU V.C N0 E)∧(dQ V F).C.length=V.C.length∧(dQ V F).loose=false∧(∀ t,t≠0→cl (dQ V F).C t=cl V.C t)∧iF V (dQ V F):=by
 have h7:=h.file.seven;have hm:=h.file.most;refine ⟨?_,?_,?_,fun t ht=> ?_,acH (iF.refl V) F⟩
 ·unfold dQ;rw [h.file.Qq,h.file.Cc];unfold je
  by_cases hc:V.C.length≤uo F
  ·rw [au hc,zK,Ul,show max V.C.length (uo F+1)=uo F+1 by omega];exact h.ok.longer (uo F+1) om om
  ·rw [ak hc,show max V.C.length (uo F+1)=V.C.length by omega];exact h.ok
 ·exact TQ V F om
 ·unfold dQ;split
  ·exact SQ _
  ·exact h.agE
 ·unfold dQ;split
  ·rw [zK]
   by_cases htl:t<V.C.length
   ·exact SE _ _ _ _ htl (fun e=>ht e.symm)
   ·rw [Dc (by rw [yN];omega),Dc om]
  ·rfl
theorem Ok.anA (h:Ok V.C T N0 E D) (F:List Nat) (hF: ∀ n ∈ F,n<T∧aS V.C n=0) (ps:List (Nat × aj)) (hp: ∀ x ∈ ps,x ∈ jo (fU (aJ V.C) F)∨(x.1 ∈ F∧x.2.length=64)):Ok (dV V.C ps) T N0 E D:=by
 have h6:=h.file.qj;have h7:=h.file.seven;have hm:=h.file.most;have hs:=h.sound;have hc: ∀ n,n<256→aS (aZ V.C T) n=aS V.C n:=fun n hn=>af8 om T n om hn;have hb: ∀ n,n<256→aI (fU (aJ V.C) F) n=if n ∈ F then 1 else aS V.C n:=fun n hn=>by
  rw [aaq n F _ (BI _ h.file.lens om) (fun m hm'=>by have:=(hF m hm').1;omega),Gq h.file.lens om n hn]
 have hun: ∀ n,n ∈ F→ ¬ ng (aH N0 E) n∧ ¬ fB (aZ V.C T) (aH N0 E) n∧ ¬ oK (aZ V.C T) (aH N0 E) n:=fun n hn=>hs.untold (by have:=(hF n hn).1;omega) (by rw [hc n (by have:=(hF n hn).1;omega)];exact (hF n hn).2);have WY: ∀ n,n ∈ F→6≤n:=fun n hn=>hs.Fg (by have:=(hF n hn).1;omega) (by rw [hc n (by have:=(hF n hn).1;omega)];exact (hF n hn).2);have key: ∀ t,(ng (aH N0 E) t∨fB (aZ V.C T) (aH N0 E) t)→ ∀ q,q<32→32768≤nm (aZ V.C T) t q→aI (fU (aJ V.C) F) (nm (aZ V.C T) t q%32768)=1:=by
  intro t ht q hq hmk;have hin:=hs.zh ht q hq om;rw [jV] at hin;have h1:=hs.Xq ht q hq hmk;rw [hc _ om] at h1;rw [hb _ om];split
  ·rfl
  ·exact h1
 refine h.counts (fU (aJ V.C) F) (by rw [acj];exact BI _ h.file.lens om) (fun n=>n ∈ F) (fun n hn=>⟨(hF n hn).1,WY n hn,hun n hn⟩) (fun n hn=> ?_) (fun n hn=> ?_) (fun n hn ND=> ?_) (fun r hr j hj hmk=>key r.N (aA ⟨r,hr,rfl⟩) j om hmk) (fun s hs' q hq hmk=>key s (ay hs') q hq hmk) ps (fun x hx=> ?_)
 ·rw [hb n hn];split
  ·rename_i hnF;rw [Jj hs (hun n hnF),vV,ak (by have:=WY n hnF;omega)];omega
  ·rw [← hc n hn];exact hs.jy n hn
 ·rw [hb n hn];split
  ·omega
  ·rw [← hc n hn];exact hs.top n hn
 ·rw [hb n hn,ak (fun hnF=>by have:=(hF n hnF).1;omega),← hc n hn];exact hs.none n hn (by rw [jV];exact ND)
 ·rcases hp x hx with y | y
  ·exact aA (JL y)
  ·exact ay y
theorem Ok.afN (h:Ok V.C T N0 E D) (F:List Nat) (hF: ∀ n ∈ F,n<T∧aS V.C n=0) (qs:List (Nat × aj)) (hq: ∀ x ∈ qs,x.1 ∈ F∧x.2.length=64) (hend:V.C.length=T∨ ∃ x ∈ qs,x.1+1=T):
  Ok (jR V (jo (fU (aJ V.C) F)++qs)).C T N0 E D∧(jR V (jo (fU (aJ V.C) F)++qs)).C.length=T∧
   (∀ m,m<256→aS (jR V (jo (fU (aJ V.C) F)++qs)).C m=if m ∈ F then 1 else aS V.C m)∧
   (∀ t,5≤t→t<V.C.length→(∀ x ∈ qs,x.1≠t)→cl (jR V (jo (fU (aJ V.C) F)++qs)).C t=cl V.C t)∧
   (∀ t,5≤t→t<T→(∀ x ∈ qs,x.1≠t)→cl (jR V (jo (fU (aJ V.C) F)++qs)).C t=vw V.C t)∧
   Shape (aZ V.C T) (jR V (jo (fU (aJ V.C) F)++qs)).C (aH N0 E):=by
 have h6:=h.file.qj;have h7:=h.file.seven;have hm:=h.file.most;have hs:=h.sound;have hc: ∀ n,n<256→aS (aZ V.C T) n=aS V.C n:=fun n hn=>af8 om T n om hn;have WY: ∀ n,n ∈ F→6≤n:=fun n hn=>hs.Fg (by have:=(hF n hn).1;omega) (by rw [hc n (by have:=(hF n hn).1;omega)];exact (hF n hn).2);have hun: ∀ n,n ∈ F→ ¬ ng (aH N0 E) n∧ ¬ fB (aZ V.C T) (aH N0 E) n∧ ¬ oK (aZ V.C T) (aH N0 E) n:=fun n hn=>hs.untold (by have:=(hF n hn).1;omega) (by rw [hc n (by have:=(hF n hn).1;omega)];exact (hF n hn).2);have hok:Ok (jR V (jo (fU (aJ V.C) F)++qs)).C T N0 E D:=by
  rw [y5];refine h.anA F hF _ fun x hx=> ?_;rcases gq.1 hx with y | y
  ·exact aA y
  ·exact ay (hq x y)
 have hlt: ∀ x ∈ jo (fU (aJ V.C) F)++qs,x.1<T:=fun x hx=>by
  rcases gq.1 hx with y | y
  ·obtain ⟨p,hp,rfl⟩:=JL y;simp only;omega
  ·exact (hF _ (hq x y).1).1
 have hlen:(jR V (jo (fU (aJ V.C) F)++qs)).C.length=T:=by
  have hl:=Mc (jo (fU (aJ V.C) F)++qs) V.C T h.file.le hlt;rw [y5];rcases hend with e | ⟨x,hx,e⟩
  ·omega
  ·have hgt:x.1<(dV V.C (jo (fU (aJ V.C) F)++qs)).length:=by
    have key: ∀ (ps:List (Nat × aj)) (C:List aj),x ∈ ps→x.1<(dV C ps).length:=by
     intro ps
     induction ps with
     | nil=>intro C h;cases h
     | cons y r ih=>
      intro C hy;rw [Og];rcases dD.1 hy with z | z
      ·subst z;have h1:=Kw C x;have h2: ∀ (ps:List (Nat × aj)) (C:List aj),C.length≤(dV C ps).length:=by
        intro ps
        induction ps with
        | nil=>intro C;exact aP _
        | cons y r ih=>
         intro C;have h3:=Kw C y
         have:=ih (lS C y)
         rw [Og];omega
       have:=h2 r (lS C x)
       omega
      ·exact ih _ z
    exact key _ _ (gq.2 (ay hx))
   omega
 have hvw: ∀ t,5≤t→t<T→(∀ x ∈ qs,x.1≠t)→cl (jR V (jo (fU (aJ V.C) F)++qs)).C t=vw V.C t:=fun t h5 ht hne=>by
  rw [← lV (by rw [hlen];exact ht),y5];refine EH t _ _ fun x hx=> ?_;rcases gq.1 hx with y | y
  ·obtain ⟨p,hp,rfl⟩:=JL y;simp only;omega
  ·exact hne x y
 refine ⟨hok,hlen,fun m hm'=> ?_,fun t h5 ht hne=>by rw [hvw t h5 (by have:=h.file.le;omega) hne,lV ht],hvw,Shape.of_same (fun r hr=> ?_) (fun s hs'=> ?_)⟩
 ·have e:aS (jR V (jo (fU (aJ V.C) F)++qs)).C m=aI (fU (aJ V.C) F) m:=by
   unfold aS;rw [← lV (by rw [hlen];omega),y5];exact adL V.C _ m hm' qs (fun x hx=>by have:=WY _ (hq x hx).1;omega)
  rw [e,aaq m F _ (BI _ h.file.lens om) (fun n hn=>by have:=(hF n hn).1;omega),Gq h.file.lens om m hm']
 ·have hb:=hs.fst r hr;rw [jV] at hb;rw [Gs _ _ _ hb.2,hvw _ om hb.2 (fun x hx e=>(hun _ (hq x hx).1).1 ⟨r,hr,e.symm⟩)]
 ·have hb:=hs.sec s hs';rw [jV] at hb;rw [Gs _ _ _ hb.2,hvw _ om hb.2 (fun x hx e=>(hun _ (hq x hx).1).2.1 (by rw [e];exact hs'))]
theorem aff {L:List aj} {rs:List bC} {n:Nat} (h1:dM L rs n=1) {r r':bC} {j j' k k':Nat} (hr:r ∈ rs) (hr':r' ∈ rs) (hj:j<2) (hj':j'<2) (hk:k<32) (hk':k'<32)
  (h0:nm L r.N j≠0) (h0':nm L r'.N j'≠0) (b0:nm L (nm L r.N j%32768) k≠0) (b0':nm L (nm L r'.N j'%32768) k'≠0) (e:nm L (nm L r.N j%32768) k%32768=n) (e':nm L (nm L r'.N j'%32768) k'%32768=n):r'.N=r.N∧j'=j∧k'=k:=by
 have one: ∀ (x:bC) (q c:Nat),c<32→nm L x.N q≠0→nm L (nm L x.N q%32768) c≠0→nm L (nm L x.N q%32768) c%32768=n→1≤nJ L x.N q n:=by
  intro x q c hc h0 b0 e
  have:=YH (f:=fun k=>iH (nm L (nm L x.N q%32768) k) n) (a:=c) 32 0 om om
  simp only [GU b0 e] at this;unfold nJ yG;rw [ak h0];omega
 have k1:=one r j k hk h0 b0 e;have k2:=one r' j' k' hk' h0' b0' e'
 by_cases hN:r'.N=r.N
 ·rw [hN] at h0' b0' e' k2;have ht:=OA (L:=L) hr n
  by_cases hjj:j'=j
  ·refine ⟨hN,hjj,?_⟩;rw [hjj] at b0' e'
   by_cases hkk:k'=k
   ·exact hkk
   ·exfalso;have h2:=Om L r.N j n hj
    have:2≤nJ L r.N j n:=by
     unfold nJ yG;rw [ak h0];rcases Nat.lt_or_gt_of_ne hkk with hl | hl
     ·have:=adh (f:=fun k=>iH (nm L (nm L r.N j%32768) k) n) hl 32 0 om om
      simp only [GU b0 e,GU b0' e'] at this;omega
     ·have:=adh (f:=fun k=>iH (nm L (nm L r.N j%32768) k) n) hl 32 0 om om
      simp only [GU b0 e,GU b0' e'] at this;omega
    omega
  ·exfalso;unfold kK at ht
   have:(j=0∧j'=1)∨(j=1∧j'=0):=om
   rcases this with ⟨rfl,rfl⟩ | ⟨rfl,rfl⟩ <;> omega
 ·exfalso
  have:=akX (L:=L) hr hr' (fun x=>hN x.symm) n
  have:=Om L r.N j n hj
  have:=Om L r'.N j' n hj'
  omega
def Ih (D:dY) (c:Nat) (x:aj):dY:={ D with C:=D.C.set c x }
theorem asQ {L:List aj} (h:cZ L (aH N0 E)): ∀ e ∈ E,e.first≠N0:=by
 have hn:=h.nodup;unfold aH at hn;rw [jC,adX] at hn;intro e he e2;exact hn.1 (by rw [← e2];exact gQ.2 ⟨kV e,gQ.2 ⟨e,he,rfl⟩,rfl⟩)
theorem aaS {L L':List aj} {c:Nat} {x:aj} (hs:cZ L (aH N0 E)) (h: ∀ r ∈ aH N0 E,dZ L' r.N=if r.N=N0 then (dZ L r.N).set c x else dZ L r.N):bU L' N0 E=Ih (bU L N0 E) c x:=by
 unfold bU Ih;have h0:=h ⟨N0,0,[]⟩ (by simp [aH]);simp only [wH] at h0;simp only;rw [h0]
 congr 1
 refine Ii fun e he=> ?_
 have:=h (kV e) (Cj.2 (ay ⟨e,he,rfl⟩))
 have h1:dZ L' e.first=if e.first=N0 then (dZ L e.first).set c x else dZ L e.first:=this
 rw [h1,ak (asQ hs e he)]
theorem aqO {L L':List aj} {t c:Nat} (h1:nm L' t (c / 32)=nm L t (c / 32)) (h2:nm L t (c / 32)≠0→nm L' (nm L t (c / 32)%32768) (c%32)=nm L (nm L t (c / 32)%32768) (c%32)):bY L' t c=bY L t c:=by
 unfold nm at h1 h2;unfold bY;rw [h1]
 by_cases h0:num (cl L t) (2*(c / 32))=0
 ·rw [au h0,au h0]
 ·rw [ak h0,ak h0];exact h2 h0
theorem bD.inPlace (h:bD base V N0 E) {b:Nat} {data:aj} (hb:b<64) (hd:data.length=64) (h3:32768≤bY V.C N0 b):
  Ok (dV V.C [(bY V.C N0 b%32768,data)]) V.C.length N0 E (Ih (bU V.C N0 E) b data)∧(wI V.C (aH N0 E)→wI (dV V.C [(bY V.C N0 b%32768,data)]) (aH N0 E))∧(dV V.C [(bY V.C N0 b%32768,data)]).length=V.C.length:=by
 have hs:=h.sound;have hr0:(⟨N0,0,[]⟩:bC) ∈ aH N0 E:=by simp [aH]
 obtain ⟨n0,en⟩:=ace (show bY V.C N0 b≠0 by omega);have nD:fB V.C (aH N0 E) (nm V.C N0 (b / 32)%32768):=⟨_,hr0,b / 32,om,n0,rfl⟩;have en':bY V.C N0 b=nm V.C (nm V.C N0 (b / 32)%32768) (b%32):=en;have hblk:oK V.C (aH N0 E) (bY V.C N0 b%32768):=⟨_,nD,b%32,om,by rw [← en'];omega,by rw [← en']⟩;have hbl:=hs.aF _ hblk;have qI:=h.file.most;have hone:aS V.C (bY V.C N0 b%32768)=1:=by rw [en'];exact hs.AB _ nD (b%32) om (by rw [← en'];exact h3)
 have Az:dM V.C (aH N0 E) (bY V.C N0 b%32768)=1:=by
  have:=hs.jy (bY V.C N0 b%32768) om
  have:=QU hblk
  omega
 have hF:dV V.C [(bY V.C N0 b%32768,data)]=lS V.C (bY V.C N0 b%32768,data):=rfl;have hlen:(lS V.C (bY V.C N0 b%32768,data)).length=V.C.length:=by rw [Kw];simp only;omega
 have hcl: ∀ t,cl (lS V.C (bY V.C N0 b%32768,data)) t=if bY V.C N0 b%32768=t then data else cl V.C t:=fun t=>by
  by_cases ht:t<V.C.length
  ·rw [← lV (by rw [hlen];exact ht),yS,lV ht]
  ·rw [Dc om,Dc om,ak om]
 have hsh:Shape V.C (lS V.C (bY V.C N0 b%32768,data)) (aH N0 E):=Shape.of_same (fun r hr=>by rw [hcl,ak (fun e=>hs.fb _ ⟨r,hr,e.symm⟩ hblk)]) (fun s hs'=>by rw [hcl,ak (fun e=>hs.sb _ (by rw [e];exact hs') hblk)]);have hnm: ∀ t,(ng (aH N0 E) t∨fB V.C (aH N0 E) t)→ ∀ q,nm (lS V.C (bY V.C N0 b%32768,data)) t q=nm V.C t q:=fun t ht q=>by
  unfold nm;rw [hcl,ak];intro e;rcases ht with hf | hf
  ·exact hs.fb _ hf (by rw [← e];exact hblk)
  ·exact hs.sb _ hf (by rw [← e];exact hblk)
 have hcnt: ∀ m,m<256→aS (lS V.C (bY V.C N0 b%32768,data)) m=aS V.C m:=fun m hm=>by
  unfold aS;rw [hcl,ak om]
 have Dl:aZ (lS V.C (bY V.C N0 b%32768,data)) V.C.length=lS V.C (bY V.C N0 b%32768,data):=rP hlen;have gG:cZ (lS V.C (bY V.C N0 b%32768,data)) (aH N0 E):=by
  refine hs.shape hsh om om (fun n hn=>by rw [hcnt n hn];exact hs.jy n hn) (fun n hn=>by rw [hcnt n hn];exact hs.top n hn) (fun n hn hl=>by rw [hcnt n hn];exact hs.none n hn om) (fun r hr j hj hm=> ?_) (fun s hs' q hq hm=> ?_)
  ·rw [hnm _ (aA ⟨r,hr,rfl⟩)] at hm ⊢
   have:=hs.zh (aA ⟨r,hr,rfl⟩) j om om
   rw [hcnt _ om];exact hs.BU r hr j hj hm
  ·rw [hnm _ (ay hs')] at hm ⊢
   have:=hs.zh (ay hs') q hq om
   rw [hcnt _ om];exact hs.AB s hs' q hq hm
 rw [hF];refine ⟨⟨?_,by rw [Dl];exact gG,?_⟩,fun hx=> ?_,hlen⟩
 ·exact h.file.o7 [(bY V.C N0 b%32768,data)] (fun x hx=>by rw [jw.1 hx];exact ⟨hbl.2,by simp only;omega,by simp only;omega,hd⟩)
 ·rw [Dl];refine aaS hs fun r hr=> ?_;have hsn: ∀ c,c<64→bY (lS V.C (bY V.C N0 b%32768,data)) r.N c=bY V.C r.N c:=fun c hc=>by
   exact aqO (hnm r.N (aA ⟨r,hr,rfl⟩) (c / 32)) (fun h0=>hnm _ (ay ⟨r,hr,c / 32,om,h0,rfl⟩) (c%32))
  have key: ∀ c,c<64→tN (lS V.C (bY V.C N0 b%32768,data)) r.N c=if r.N=N0∧c=b then data else tN V.C r.N c:=by
   intro c hc;rw [Lm,Lm,hsn c hc]
   by_cases e0:bY V.C r.N c=0
   ·rw [au e0,au e0,ak];rintro ⟨e1,e2⟩;rw [e1,e2] at e0;omega
   ·rw [ak e0,ak e0,hcl]
    by_cases e1:bY V.C N0 b%32768=bY V.C r.N c%32768
    ·obtain ⟨m0,em⟩:=ace e0;have em':bY V.C r.N c=nm V.C (nm V.C r.N (c / 32)%32768) (c%32):=em
     have:=aff Az hr0 hr (show b / 32<2 by omega) (show c / 32<2 by omega) (show b%32<32 by omega) (show c%32<32 by omega) n0 m0 (by rw [← en'];omega) (by rw [← em'];exact e0) (by rw [← en']) (by rw [← em'];exact e1.symm)
     rw [au e1,au ⟨this.1,om⟩]
    ·rw [ak e1,ak];rintro ⟨e2,e3⟩;rw [e2,e3] at e1;exact e1 rfl
  apply uH;intro c
  by_cases hc:c<64
  ·rw [D8 _ _ _ hc,key c hc]
   by_cases e:r.N=N0
   ·rw [au e,uf]
    by_cases e2:b=c
    ·rw [au ⟨e,e2.symm⟩,au e2,au (by rw [Fb];exact hb)]
    ·rw [ak (fun z=>e2 z.2.symm),ak e2,D8 _ _ _ hc]
   ·rw [ak e,ak (fun z=>e z.1),D8 _ _ _ hc]
  ·rw [eu (by rw [Fb];omega),eu];split
   ·rw [rG,Fb];omega
   ·rw [Fb];omega
 ·refine ⟨fun n hn=>by rw [hcnt n hn,hsh.use];exact hx.eq n hn,fun r hr j hj h0 h1=> ?_,fun s hs' q hq h0 h1=> ?_⟩
  ·rw [hnm _ (aA ⟨r,hr,rfl⟩)] at h0 h1 ⊢
   have:=hs.zh (aA ⟨r,hr,rfl⟩) j om h0
   rw [hcnt _ om] at h1;exact hx.Xg r hr j hj h0 h1
  ·have hs2:=(hsh.rJ s).1 hs';rw [hnm _ (ay hs2)] at h0 h1 ⊢
   have:=hs.zh (ay hs2) q hq h0
   rw [hcnt _ om] at h1;exact hx.Xh s hs2 q hq h0 h1
end
section
variable {base:List aj} {V:aB} {N0:Nat} {E:List aX} {b:Nat} {data:aj}
theorem ac1 (T:List Nat) (hT: ∀ i,T.getD i 0<65536) (hl:T.length=32) (i x q:Nat) (hx:x<65536) (hq:q<32):num (bytesOf (T.set i x)) (2*q)=if i=q then x else T.getD q 0:=by
 have hg: ∀ j,(T.set i x).getD j 0=if i=j∧j<32 then x else T.getD j 0:=fun j=>by
  rw [aK,uf,hl]
  by_cases e:i=j
  ·subst e
   by_cases hj:i<32
   ·rw [au rfl,au hj,au ⟨rfl,hj⟩];rfl
   ·rw [au rfl,ak hj,ak (fun z=>hj z.2),aK,eu om]
  ·rw [ak e,ak (fun z=>e z.1),aK]
 rw [XE _ (fun j=>by rw [hg j];split;exact hx;exact hT j) q hq,hg q]
 by_cases e:i=q
 ·rw [au ⟨e,hq⟩,au e]
 ·rw [ak (fun z=>e z.1),ak e]
theorem aaJ (ns:List Nat) (m:Nat):(dL ns).count m=(ns.map fun x=>iH x m).sum:=by
 induction ns with
 | nil=>rfl
 | cons x r ih=>
  rw [jC,Il,← ih];unfold dL;rw [Zl]
  by_cases e:x=0
  ·rw [ak (by simp [e]),e,TF];omega
  ·rw [au (by simpa using e),jC,DI];unfold iH
   by_cases e2:x%32768=m
   ·have e3:(x%32768 == m)=true:=by simpa using e2
    rw [e3,au rfl,au ⟨e,e2⟩];omega
   ·have e3:(x%32768 == m)=false:=by simpa using e2
    rw [e3,ak dc,ak (fun z=>e2 z.2)];omega
theorem aaw (V:aB) (F:List Nat):wR V F=o7 (dQ V F) (jo (fU (aJ (dQ V F).C) F)):=by unfold wR;exact ajz _ _
theorem Oh (V:aB) (x:Nat × aj):o7 V [x]=bT V x.1 x.2:=rfl
theorem ar8 (V:aB) (x y:Nat × aj):o7 V [x,y]=bT (bT V x.1 x.2) y.1 y.2:=rfl
theorem TP (n:Nat):uo [n]=n:=rfl
theorem ahX (s n:Nat):uo [s,n]=n:=rfl
theorem ajB {C:List aj} {T s k x:Nat} (hl:C.length=T) (hs:s<T) (hk:k<32) (hx:x<65536):RX C (dV C [(s,bytesOf ((numsOf (cl C s)).set k x))]) s k x:=by
 have hF:dV C [(s,bytesOf ((numsOf (cl C s)).set k x))]=lS C (s,bytesOf ((numsOf (cl C s)).set k x)):=rfl;have hlen:(lS C (s,bytesOf ((numsOf (cl C s)).set k x))).length=C.length:=by rw [Kw];simp only;omega
 have hat:cl (lS C (s,bytesOf ((numsOf (cl C s)).set k x))) s=bytesOf ((numsOf (cl C s)).set k x):=by rw [← lV om,yS,au rfl]
 rw [hF];refine ⟨hlen,?_,fun q hq hne=> ?_,fun t ht=> ?_⟩
 ·unfold nm;rw [hat,ac1 _ (N8 _) (numsOf_length _) _ _ _ hx hk,au rfl]
 ·unfold nm;rw [hat,ac1 _ (N8 _) (numsOf_length _) _ _ _ hx hq,ak (fun e=>hne e.symm),uT _ _ hq]
 ·by_cases htl:t<C.length
  ·rw [← lV om,yS,ak (fun e=>ht e.symm),lV htl]
  ·rw [Dc om,Dc om]
theorem kM.ajw {C:List aj} {T:Nat} (h:kM C T N0 E) {s:Nat} {c:aj} (h1:s<T) (h2:s≠0) (h3:s≠5) (hc:c.length=64):kM (dV C [(s,c)]) T N0 E:=
 h.o7 _ (fun x hx=>by rw [jw.1 hx];exact ⟨h1,h2,h3,hc⟩)
structure VH (base:List aj) (V V':aB) (N0:Nat) (E:List aX) (D':dY):Prop where
 bP:bD base V' N0 E
 holds:bU V'.C N0 E=D'
 exact:wI V.C (aH N0 E)→wI V'.C (aH N0 E)
theorem bD.af7 (h:bD base V N0 E) (F:List Nat) (hF:uo F<256) (m:Nat) (hm:m<256):aS (dQ V F).C m=aS V.C m:=by
 unfold aS;rw [(h.longer F hF).2.2.2.1 _ om]
theorem bD.amY (h:bD base V N0 E) {n:Nat} (hF:dG (aJ V.C) 1=[n]) (hn:n<256) (h0:aS V.C n=0) (hd:data.length=64):
  rC V data=jR (dQ V [n]) (jo (fU (aJ (dQ V [n]).C) [n])++[(n,data)])∧Ok (rC V data).C (je V.C [n]) N0 E (bU V.C N0 E)∧(rC V data).C.length=je V.C [n]∧
   (∀ m,m<256→aS (rC V data).C m=if m=n then 1 else aS V.C m)∧cl (rC V data).C n=data∧(∀ t,5≤t→t<V.C.length→t≠n→cl (rC V data).C t=cl V.C t)∧Shape V.C (rC V data).C (aH N0 E):=by
 obtain ⟨a1,a2,a3,a4,a5⟩:=h.longer [n] (by rw [TP];exact hn);have hc:=fun m hm=>h.af7 [n] (by rw [TP];exact hn) m hm;have e:rC V data=jR (dQ V [n]) (jo (fU (aJ (dQ V [n]).C) [n])++[(n,data)]):=by
  unfold rC;rw [hF];unfold jR;rw [XW,← aaw,Oh];simp only [DF]
 have hT:je V.C [n]=max V.C.length (n+1):=rfl;have h6:=h.sound.Fg hn h0;obtain ⟨b1,b2,b3,b4,b5,b6⟩:=a1.afN [n] (fun m hm=>by rw [jw.1 hm];exact ⟨om,by rw [hc n hn];exact h0⟩) [(n,data)] (fun x hx=>by rw [jw.1 hx];exact ⟨sm,hd⟩) (by
  rw [a2]
  by_cases hx:V.C.length≤n
  ·exact ay ⟨(n,data),sm,by simp only;omega⟩
  ·exact aA om)
 rw [e];have hun:=h.sound.untold hn h0;have hcl: ∀ t,5≤t→t<V.C.length→t≠n→cl (jR (dQ V [n]) (jo (fU (aJ (dQ V [n]).C) [n])++[(n,data)])).C t=cl V.C t:=fun t h5 ht hne=>by
  rw [b4 t h5 om (fun x hx=>by rw [jw.1 hx];exact fun z=>hne z.symm),a4 t om]
 refine ⟨rfl,b1,b2,fun m hm=> ?_,?_,hcl,Shape.of_same (fun r hr=>hcl _ ?_ ?_ ?_) (fun s hs=>hcl _ ?_ ?_ ?_)⟩
 ·rw [b3 m hm,hc m hm];simp
 ·rw [← lV (by rw [b2];omega),y5];have e2:dV (dQ V [n]).C (jo (fU (aJ (dQ V [n]).C) [n])++[(n,data)])=lS (dV (dQ V [n]).C (jo (fU (aJ (dQ V [n]).C) [n]))) (n,data):=by simp [dV]
  rw [e2,yS,au rfl]
 ·have:=h.sound.fst r hr;omega
 ·exact (h.sound.fst r hr).2
 ·exact fun z=>hun.1 ⟨r,hr,z⟩
 ·have:=h.sound.sec s hs;omega
 ·exact (h.sound.sec s hs).2
 ·exact fun z=>hun.2.1 (by rw [← z];exact hs)
theorem XR (b:Nat):(dP V.C N0 b).second=nm V.C N0 (b / 32)∧(dP V.C N0 b).block=bY V.C N0 b∧(dP V.C N0 b).oM=b%32∧(dP V.C N0 b).AA=b / 32∧(dP V.C N0 b).first=N0:=⟨rfl,rfl,rfl,rfl,rfl⟩
theorem bD.aam (h:bD base V N0 E) {n:Nat} (hb:b<64) (hF:dG (aJ V.C) 1=[n]) (hn:n<256) (h0:aS V.C n=0) (hd:data.length=64) (h2:32768≤nm V.C N0 (b / 32)):
  uz V (dP V.C N0 b) data=jR (rC V data) [(nm V.C N0 (b / 32)%32768,bytesOf ((numsOf (cl (rC V data).C (nm V.C N0 (b / 32)%32768))).set (b%32) (n+32768)))]∧
  Ok (uz V (dP V.C N0 b) data).C (je V.C [n]) N0 E (Ih (bU V.C N0 E) b data)∧(uz V (dP V.C N0 b) data).C.length=je V.C [n]∧
   (∀ m,m<256→aS (uz V (dP V.C N0 b) data).C m=if m=n then 1 else aS V.C m)∧(∀ m,dM (uz V (dP V.C N0 b) data).C (aH N0 E) m+iH (bY V.C N0 b) m=dM V.C (aH N0 E) m+if n=m then 1 else 0):=by
 obtain ⟨_,b1,b2,b3,b4,b5,b6⟩:=h.amY (data:=data) hF hn h0 hd;have hr0:(⟨N0,0,[]⟩:bC) ∈ aH N0 E:=by simp [aH]
 have hT:je V.C [n]=max V.C.length (n+1):=rfl;have qI:=h.file.most;have h6:=h.sound.Fg hn h0;have hun:=h.sound.untold hn h0;have hs:fB V.C (aH N0 E) (nm V.C N0 (b / 32)%32768):=⟨_,hr0,b / 32,om,by show nm V.C N0 (b / 32)≠0;omega,rfl⟩;have hsr:=h.sound.sec _ hs;have hone:aS V.C (nm V.C N0 (b / 32)%32768)=1:=h.sound.BU _ hr0 (b / 32) om h2;have hsn:nm V.C N0 (b / 32)%32768≠n:=fun e=>hun.2.1 (by rw [← e];exact hs);have hN:=h.sound.fst _ hr0;simp only at hN;have hNn:N0≠n:=fun e=>hun.1 ⟨_,hr0,e⟩;have e:uz V (dP V.C N0 b) data=jR (rC V data) [(nm V.C N0 (b / 32)%32768,bytesOf ((numsOf (cl (rC V data).C (nm V.C N0 (b / 32)%32768))).set (b%32) (n+32768)))]:=by
  unfold uz jR Ce;rw [hF,Oh];simp only [DF];obtain ⟨p1,p2,p3,p4,p5⟩:=XR (V:=V) (N0:=N0) b;rw [p1,p3]
 have s2:=b1.sound;rw [rP b2] at s2;have hput:=ajB (x:=n+32768) (k:=b%32) b2 (show nm V.C N0 (b / 32)%32768<je V.C [n] by omega) om om;have hC3:(uz V (dP V.C N0 b) data).C=dV (rC V data).C [(nm V.C N0 (b / 32)%32768,bytesOf ((numsOf (cl (rC V data).C (nm V.C N0 (b / 32)%32768))).set (b%32) (n+32768)))]:=by rw [e,y5]
 rw [← hC3] at hput;have e1:nm (rC V data).C N0 (b / 32)=nm V.C N0 (b / 32):=by unfold nm;rw [b5 N0 om om hNn]
 have hB:yg (rC V data).C (uz V (dP V.C N0 b) data).C (aH N0 E) ⟨N0,0,[]⟩ (b / 32) (nm V.C N0 (b / 32)%32768) (b%32) n:=by
  refine ⟨hput,hr0,om,om,by show nm (rC V data).C N0 (b / 32)≠0;rw [e1];omega,by show nm (rC V data).C N0 (b / 32)%32768=_;rw [e1],?_,⟨h6,om⟩,by rw [b3 n hn,au rfl],hun.1,fun x=>hun.2.1 ((b6.rJ n).1 x),fun x=>hun.2.2 ((b6.zS n).1 x)⟩;rw [b3 _ om,ak hsn];exact hone
 have s3:=hB.sound s2;have hlen:(uz V (dP V.C N0 b) data).C.length=je V.C [n]:=by rw [hput.len,b2]
 refine ⟨e,⟨?_,by rw [rP hlen];exact s3,?_⟩,hlen,fun m hm=>by rw [hput.count hsr.1 m hm,b3 m hm],fun m=> ?_⟩
 ·rw [hC3];exact b1.file.ajw om om om (bytesOf_length _)
 ·rw [rP hlen];have hd2:=b1.holds;rw [rP b2] at hd2;rw [← hd2];refine aaS s2 fun r hr=> ?_
  have:=hB.content s2 hr
  rw [this,b4,show 32*(b / 32)+b%32=b by omega]
 ·have:=hB.use s2 m
  rw [b6.use] at this;have e2:nm (rC V data).C (nm V.C N0 (b / 32)%32768) (b%32)=bY V.C N0 b:=by
   unfold nm bY;rw [ak (by unfold nm at h2;omega),b5 _ om hsr.2 hsn]
  rw [e2] at this;exact this
theorem bD.adM (h:bD base V N0 E) {n:Nat} (hb:b<64) (hF:dG (aJ V.C) 1=[n]) (hn:n<256) (h0:aS V.C n=0) (hd:data.length=64) (h2:32768≤nm V.C N0 (b / 32)):
  Lets (uz V (dP V.C N0 b) data) N0 E (dL [bY V.C N0 b])∧VH base V (oD (uz V (dP V.C N0 b) data) (dL [bY V.C N0 b])) N0 E (Ih (bU V.C N0 E) b data):=by
 obtain ⟨e,c1,c2,c3,c4⟩:=h.aam hb hF hn h0 hd h2;have h6:=h.sound.Fg hn h0;have qI:=h.file.most;have hnone:=Jj h.sound (h.sound.untold hn h0);have hcount: ∀ m,(dL [bY V.C N0 b]).count m=iH (bY V.C N0 b) m:=fun m=>by rw [aaJ];simp
 have hl:Lets (uz V (dP V.C N0 b) data) N0 E (dL [bY V.C N0 b]):=by
  refine ⟨fun u hu=> ?_,fun m hm=> ?_⟩
  ·unfold dL at hu;obtain ⟨x,hx,rfl⟩:=gQ.1 hu;obtain ⟨hx1,hx2⟩:=U7.1 hx;rw [jw.1 hx1] at hx2 ⊢
   have:=h.sound.aF _ (Qr (r:=⟨N0,0,[]⟩) (by simp [aH]) hb (by simpa using hx2))
   simp only at this;omega
  ·have:=c4 m
   rw [hcount,c3 m hm]
   by_cases e1:m=n
   ·subst e1;rw [au rfl] at this;rw [au rfl,vV,ak om];omega
   ·rw [ak (fun z=>e1 z.symm)] at this;rw [ak e1]
    have:=h.sound.jy m hm
    omega
 obtain ⟨d1,d2,d3,d4⟩:=c1.TR c2 hl;refine ⟨hl,d1.bP d2 d3 (h.log.o7 (Ky (ajG (iF.refl V) _ _) _)),?_,fun hx=>d4 fun m hm=> ?_⟩
 ·have:=d1.holds
  rw [rP d2] at this;exact this
 ·have:=c4 m
  rw [hcount,c3 m hm]
  by_cases e1:m=n
  ·subst e1;rw [au rfl] at this;rw [au rfl,vV,ak om];omega
  ·rw [ak (fun z=>e1 z.symm)] at this;rw [ak e1,hx.eq m hm];omega
end
section
variable {base:List aj} {V:aB} {N0:Nat} {E:List aX} {b:Nat} {data:aj}
theorem avq (i:Nat):zt.getD i 0=0:=by
 unfold zt;rw [aK,qU]
 split <;> rfl
theorem at1 (q:Nat) (hq:q<32):(dP V.C N0 b).tab.getD q 0=zY V.C N0 (b / 32) q:=by
 unfold dP zY nm;dsimp only
 by_cases e:num (cl V.C N0) (2*(b / 32))=0
 ·rw [au e,au e,avq]
 ·rw [ak e,ak e,uT _ _ hq]
theorem bD.atY (h:bD base V N0 E) {s n:Nat} (p:rV) (hF:dG (aJ V.C) 2=[s,n]) (hsn:s<n) (hn:n<256) (h0:aS V.C s=0) (h1:aS V.C n=0) (hd:data.length=64):
  rD V p data=jR (dQ V [s,n]) (jo (fU (aJ (dQ V [s,n]).C) [s,n])++[(s,bytesOf (p.tab.set p.oM (n+32768))),(n,data)])∧Ok (rD V p data).C (je V.C [s,n]) N0 E (bU V.C N0 E)∧(rD V p data).C.length=je V.C [s,n]∧
   (∀ m,m<256→aS (rD V p data).C m=if m=s∨m=n then 1 else aS V.C m)∧cl (rD V p data).C n=data∧cl (rD V p data).C s=bytesOf (p.tab.set p.oM (n+32768))∧(∀ t,5≤t→t<V.C.length→t≠s→t≠n→cl (rD V p data).C t=cl V.C t)∧Shape V.C (rD V p data).C (aH N0 E):=by
 obtain ⟨a1,a2,a3,a4,a5⟩:=h.longer [s,n] (by rw [ahX];exact hn);have hc:=fun m hm=>h.af7 [s,n] (by rw [ahX];exact hn) m hm;have et:MI V p=p.tab.set p.oM (n+32768):=by unfold MI;rw [hF];rfl
 have e:rD V p data=jR (dQ V [s,n]) (jo (fU (aJ (dQ V [s,n]).C) [s,n])++[(s,bytesOf (p.tab.set p.oM (n+32768))),(n,data)]):=by
  unfold rD;rw [et,hF];unfold jR;rw [XW,← aaw,ar8];simp only [DF,Jt]
 have hT:je V.C [s,n]=max V.C.length (n+1):=rfl;have h6:=h.sound.Fg om h0;have htl:(bytesOf (p.tab.set p.oM (n+32768))).length=64:=bytesOf_length _;generalize bytesOf (p.tab.set p.oM (n+32768))=tb at*;obtain ⟨b1,b2,b3,b4,b5,b6⟩:=a1.afN [s,n] (fun m hm=>by
  simp only [dD,jM,jO] at hm;rcases hm with rfl | rfl
  ·exact ⟨om,by rw [hc _ om];exact h0⟩
  ·exact ⟨om,by rw [hc _ hn];exact h1⟩) [(s,tb),(n,data)] (fun x hx=>by
  simp only [dD,jM,jO] at hx;rcases hx with rfl | rfl
  ·exact ⟨sm,htl⟩
  ·exact ⟨sm,hd⟩) (by
  rw [a2]
  by_cases hx:V.C.length≤n
  ·exact ay ⟨(n,data),sm,by simp only;omega⟩
  ·exact aA om)
 have hus:=h.sound.untold om h0;have hun:=h.sound.untold hn h1;have hcl: ∀ t,5≤t→t<V.C.length→t≠s→t≠n→cl (jR (dQ V [s,n]) (jo (fU (aJ (dQ V [s,n]).C) [s,n])++[(s,tb),(n,data)])).C t=cl V.C t:=fun t h5 ht hne hne2=>by
  rw [b4 t h5 om (fun x hx=>by
   simp only [dD,jM,jO] at hx;rcases hx with rfl | rfl
   ·exact fun z=>hne z.symm
   ·exact fun z=>hne2 z.symm),a4 t om]
 have e2:dV (dQ V [s,n]).C (jo (fU (aJ (dQ V [s,n]).C) [s,n])++[(s,tb),(n,data)])=lS (lS (dV (dQ V [s,n]).C (jo (fU (aJ (dQ V [s,n]).C) [s,n]))) (s,tb)) (n,data):=by simp [dV]
 rw [e];refine ⟨rfl,b1,b2,fun m hm=> ?_,?_,?_,hcl,Shape.of_same (fun r hr=>hcl _ ?_ ?_ ?_ ?_) (fun x hs=>hcl _ ?_ ?_ ?_ ?_)⟩
 ·rw [b3 m hm,hc m hm];simp
 ·rw [← lV (by rw [b2];omega),y5,e2,yS,au rfl]
 ·rw [← lV (by rw [b2];omega),y5,e2,yS,ak (by simp only;omega),yS,au rfl]
 ·have:=h.sound.fst r hr;omega
 ·exact (h.sound.fst r hr).2
 ·exact fun z=>hus.1 ⟨r,hr,z⟩
 ·exact fun z=>hun.1 ⟨r,hr,z⟩
 ·have:=h.sound.sec x hs;omega
 ·exact (h.sound.sec x hs).2
 ·exact fun z=>hus.2.1 (by rw [← z];exact hs)
 ·exact fun z=>hun.2.1 (by rw [← z];exact hs)
theorem bD.adi (h:bD base V N0 E) {s n:Nat} (hb:b<64) (hF:dG (aJ V.C) 2=[s,n]) (hsn:s<n) (hn:n<256) (h0:aS V.C s=0) (h1:aS V.C n=0) (hd:data.length=64):
  uD V (dP V.C N0 b) data=jR (rD V (dP V.C N0 b) data) [(N0,bytesOf ((numsOf (cl (rD V (dP V.C N0 b) data).C N0)).set (b / 32) (s+32768)))]∧
  Ok (uD V (dP V.C N0 b) data).C (je V.C [s,n]) N0 E (Ih (bU V.C N0 E) b data)∧(uD V (dP V.C N0 b) data).C.length=je V.C [s,n]∧
   (∀ m,m<256→aS (uD V (dP V.C N0 b) data).C m=if m=s∨m=n then 1 else aS V.C m)∧(∀ m,dM (uD V (dP V.C N0 b) data).C (aH N0 E) m+(iH (nm V.C N0 (b / 32)) m+iH (bY V.C N0 b) m)=dM V.C (aH N0 E) m+((if s=m then 1 else 0)+if n=m then 1 else 0)):=by
 obtain ⟨_,b1,b2,b3,b4,b4',b5,b6⟩:=h.atY (data:=data) (dP V.C N0 b) hF hsn hn h0 h1 hd;have hr0:(⟨N0,0,[]⟩:bC) ∈ aH N0 E:=by simp [aH]
 have hT:je V.C [s,n]=max V.C.length (n+1):=rfl;have qI:=h.file.most;have h6:=h.sound.Fg om h0;have hus:=h.sound.untold om h0;have hun:=h.sound.untold hn h1;have hN:=h.sound.fst _ hr0;simp only at hN;have hNs:N0≠s:=fun e=>hus.1 ⟨_,hr0,e⟩;have hNn:N0≠n:=fun e=>hun.1 ⟨_,hr0,e⟩;have e:uD V (dP V.C N0 b) data=jR (rD V (dP V.C N0 b) data) [(N0,bytesOf ((numsOf (cl (rD V (dP V.C N0 b) data).C N0)).set (b / 32) (s+32768)))]:=by
  unfold uD jR Ce;rw [hF,Oh];simp only [DF];obtain ⟨p1,p2,p3,p4,p5⟩:=XR (V:=V) (N0:=N0) b;rw [p4,p5]
 have s2:=b1.sound;rw [rP b2] at s2;have hput:=ajB (x:=s+32768) (k:=b / 32) b2 (show N0<je V.C [s,n] by omega) om om;have hC3:(uD V (dP V.C N0 b) data).C=dV (rD V (dP V.C N0 b) data).C [(N0,bytesOf ((numsOf (cl (rD V (dP V.C N0 b) data).C N0)).set (b / 32) (s+32768)))]:=by rw [e,y5]
 rw [← hC3] at hput;have e1: ∀ q,nm (rD V (dP V.C N0 b) data).C N0 q=nm V.C N0 q:=fun q=>by unfold nm;rw [b5 N0 om om hNs hNn]
 have eo: ∀ q,q<32→zY (rD V (dP V.C N0 b) data).C N0 (b / 32) q=zY V.C N0 (b / 32) q:=fun q hq=>by
  unfold zY;rw [e1]
  by_cases z:nm V.C N0 (b / 32)=0
  ·rw [au z,au z]
  ·rw [ak z,ak z];have hs:fB V.C (aH N0 E) (nm V.C N0 (b / 32)%32768):=⟨_,hr0,b / 32,om,z,rfl⟩;have hsr:=h.sound.sec _ hs;unfold nm;rw [b5 _ om hsr.2 (fun z=>hus.2.1 (by rw [← z];exact hs)) (fun z=>hun.2.1 (by rw [← z];exact hs))]
 have htn: ∀ q,q<32→nm (rD V (dP V.C N0 b) data).C s q=if b%32=q then n+32768 else zY V.C N0 (b / 32) q:=fun q hq=>by
  unfold nm;rw [b4',show (dP V.C N0 b).oM=b%32 from rfl,ac1 _ (agz V.C N0 b).2.2 (aa0 _ _ _) _ _ _ om hq,at1 q hq]
 have hB:yt (rD V (dP V.C N0 b) data).C (uD V (dP V.C N0 b) data).C (aH N0 E) ⟨N0,0,[]⟩ (b / 32) s (b%32) n:=by
  refine ⟨hput,hr0,om,om,by rw [htn _ om,au rfl],fun q hq hne=> ?_,om,⟨h6,om⟩,⟨om,om⟩,by rw [b3 _ om,au (aA rfl)],by rw [b3 _ hn,au (ay rfl)],⟨hus.1,fun x=>hus.2.1 ((b6.rJ s).1 x),fun x=>hus.2.2 ((b6.zS s).1 x)⟩,hun.1,fun x=>hun.2.1 ((b6.rJ n).1 x),fun x=>hun.2.2 ((b6.zS n).1 x)⟩;rw [htn q hq,ak (fun z=>hne z.symm)];exact (eo q hq).symm
 have s3:=hB.sound s2;have hlen:(uD V (dP V.C N0 b) data).C.length=je V.C [s,n]:=by rw [hput.len,b2]
 refine ⟨e,⟨?_,by rw [rP hlen];exact s3,?_⟩,hlen,fun m hm=>by rw [hput.count hN.1 m hm,b3 m hm],fun m=> ?_⟩
 ·rw [hC3];exact b1.file.ajw om om om (bytesOf_length _)
 ·rw [rP hlen];have hd2:=b1.holds;rw [rP b2] at hd2;rw [← hd2];refine aaS s2 fun r hr=> ?_
  have:=hB.content s2 hr
  rw [this,b4,show 32*(b / 32)+b%32=b by omega]
 ·have:=hB.use s2 m
  rw [b6.use] at this;simp only at this;rw [e1,eo _ om] at this;have e2:zY V.C N0 (b / 32) (b%32)=bY V.C N0 b:=rfl;rw [e2] at this;exact this
theorem bD.adN (h:bD base V N0 E) {s n:Nat} (hb:b<64) (hF:dG (aJ V.C) 2=[s,n]) (hsn:s<n) (hn:n<256) (h0:aS V.C s=0) (h1:aS V.C n=0) (hd:data.length=64):
  Lets (uD V (dP V.C N0 b) data) N0 E (dL [nm V.C N0 (b / 32),bY V.C N0 b])∧VH base V (oD (uD V (dP V.C N0 b) data) (dL [nm V.C N0 (b / 32),bY V.C N0 b])) N0 E (Ih (bU V.C N0 E) b data):=by
 obtain ⟨e,c1,c2,c3,c4⟩:=h.adi hb hF hsn hn h0 h1 hd;have h6:=h.sound.Fg om h0;have qI:=h.file.most;have hu1:=Jj h.sound (h.sound.untold om h0);have hu2:=Jj h.sound (h.sound.untold hn h1);have hcount: ∀ m,(dL [nm V.C N0 (b / 32),bY V.C N0 b]).count m=iH (nm V.C N0 (b / 32)) m+iH (bY V.C N0 b) m:=fun m=>by rw [aaJ];simp
 have hl:Lets (uD V (dP V.C N0 b) data) N0 E (dL [nm V.C N0 (b / 32),bY V.C N0 b]):=by
  refine ⟨fun u hu=> ?_,fun m hm=> ?_⟩
  ·unfold dL at hu;obtain ⟨x,hx,rfl⟩:=gQ.1 hu;obtain ⟨hx1,hx2⟩:=U7.1 hx;simp only [dD,jM,jO] at hx1;rcases hx1 with rfl | rfl
   ·have:=h.sound.sec (nm V.C N0 (b / 32)%32768) ⟨⟨N0,0,[]⟩,by simp [aH],b / 32,om,by simpa using hx2,rfl⟩
    omega
   ·have:=h.sound.aF _ (Qr (r:=⟨N0,0,[]⟩) (by simp [aH]) hb (by simpa using hx2))
    simp only at this;omega
  ·have:=c4 m
   rw [hcount,c3 m hm]
   by_cases e1:m=s
   ·subst e1;rw [au rfl,ak om] at this;rw [au (aA rfl),vV,ak om];omega
   ·by_cases e2:m=n
    ·subst e2;rw [ak om,au rfl] at this;rw [au (ay rfl),vV,ak om];omega
    ·rw [ak om,ak om] at this;rw [ak om]
     have:=h.sound.jy m hm
     omega
 obtain ⟨d1,d2,d3,d4⟩:=c1.TR c2 hl;refine ⟨hl,d1.bP d2 d3 (h.log.o7 (Ky (ajH (iF.refl V) _ _) _)),?_,fun hx=>d4 fun m hm=> ?_⟩
 ·have:=d1.holds
  rw [rP d2] at this;exact this
 ·have:=c4 m
  rw [hcount,c3 m hm]
  by_cases e1:m=s
  ·subst e1;rw [au rfl,ak om] at this;rw [au (aA rfl),vV,ak om];omega
  ·by_cases e2:m=n
   ·subst e2;rw [ak om,au rfl] at this;rw [au (ay rfl),vV,ak om];omega
   ·rw [ak om,ak om] at this;rw [ak om,hx.eq m hm];omega
theorem cZ.agW {C:List aj} {rs:List bC} (h:cZ C rs) (hl: ∀ c ∈ C,c.length=64):Eb C=bF (fun m=>aI (aJ C) m == 0) 256:=by
 have h6:=h.qj;have hm:=h.len;have afT: ∀ (p q:Nat→Bool) (k:Nat),(∀ j,j<k→p j=q j)→bF p k=bF q k:=by
  intro p q k
  induction k with
  | zero=>intro _;rfl
  | succ k ih=>intro h;simp only [bF];rw [ih (fun j hj=>h j om),h k om]
 have more: ∀ (p:Nat→Bool) (n m:Nat),(∀ j,n≤j→j<n+m→p j=true)→bF p (n+m)=bF p n+m:=by
  intro p n m
  induction m with
  | zero=>intro _;rfl
  | succ m ih=>
   intro h;rw [← OL];simp only [bF];rw [ih (fun j h1 h2=>h j h1 om),au (h (n+m) om om)];omega
 have e:=afT (fun m=>aI (aJ C) m == 0) (fun m=>aS C m == 0) 256 (fun j hj=>by rw [Gq hl om j hj]);rw [e];have e2:=more (fun m=>aS C m == 0) C.length (256 - C.length) (fun j h1 h2=>by rw [h.none j om h1];rfl);rw [show C.length+(256 - C.length)=256 by omega] at e2;rw [e2];unfold Eb;rw [Bh]
 congr 1
 refine afT _ _ _ fun j hj=> ?_
 by_cases hj6:6≤j
 ·simp [hj6]
 ·have:=h.jy j om
  rw [vV,au om] at this
  have:aS C j≠0:=om
  simp [this,hj6]
theorem aa9 {C:List aj} {rs:List bC} (h:cZ C rs) (hl: ∀ c ∈ C,c.length=64) (want:Nat) (hf:(dG (aJ C) want).length<want):Eb C<want:=by
 rw [h.agW hl,← ait _ want 256 hf];exact hf
def FT (V:aB) (n:Int) (data:aj):aB × Nat:=Jk V n data (oD (uD V (placeOf V n) data) (dL [(placeOf V n).second,(placeOf V n).block])) (oD (uz V (placeOf V n) data) (dL [(placeOf V n).block]))
theorem bD.place (h:bD base V N0 E) (n:Int):placeOf V n=dP V.C N0 n.toNat:=by unfold placeOf;rw [h.file.Cc]
theorem Nq {n:Int} (hb:kP n=true):n.toNat<64:=by
 unfold kP at hb;simp at hb;omega
theorem bD.write (h:bD base V N0 E) (n:Int) (hd:data.length=64):
  (kP n=false∧FT V n data=(V,1))∨(kP n=true∧(FT V n data).2=0∧VH base V (FT V n data).1 N0 E (Ih (bU V.C N0 E) n.toNat data))∨
   (kP n=true∧FT V n data=(V,5)∧ ∀ R:aU,R.L=V.C→R.roots=aH N0 E→Eb V.C<LP R n.toNat):=by
 have h7:=h.file.seven;have hm:=h.file.most;unfold FT Jk
 by_cases hb:kP n=true
 ·have hlt:=Nq hb;rw [ak (by rw [hb];decide),h.place n];obtain ⟨p1,p2,p3,p4,p5⟩:=XR (V:=V) (N0:=N0) n.toNat;rw [p1,p2]
  by_cases h2:nm V.C N0 (n.toNat / 32)<32768
  ·rw [au h2]
   by_cases hf:2≤(dG (aJ V.C) 2).length
   ·rw [au hf];obtain ⟨s,n',hF,hsn,hn,h0,h1⟩:=abR hf;rw [Gq h.file.lens om _ om] at h0 h1;have hw:=(h.adN hlt hF hsn hn h0 h1 hd).2;generalize oD (uD V (dP V.C N0 n.toNat) data) (dL [nm V.C N0 (n.toNat / 32),bY V.C N0 n.toNat])=W at*;exact ay (aA ⟨hb,rfl,hw⟩)
   ·rw [ak hf];refine ay (ay ⟨hb,rfl,fun R hL hR=> ?_⟩)
    have:=aa9 h.sound h.file.lens 2 om
    unfold LP rootOf;rw [hL,hR,au (by exact h2)];exact this
  ·rw [ak h2]
   by_cases h3:bY V.C N0 n.toNat<32768
   ·rw [au h3]
    by_cases hf:0<(dG (aJ V.C) 1).length
    ·rw [au hf];obtain ⟨n',hF,hn,h0⟩:=NW hf;rw [Gq h.file.lens om _ om] at h0;have hw:=(h.adM hlt hF hn h0 hd om).2;generalize oD (uz V (dP V.C N0 n.toNat) data) (dL [bY V.C N0 n.toNat])=W at*;exact ay (aA ⟨hb,rfl,hw⟩)
    ·rw [ak hf];refine ay (ay ⟨hb,rfl,fun R hL hR=> ?_⟩)
     have:=aa9 h.sound h.file.lens 1 om
     have e2:num (cl V.C (num (cl V.C N0) (2*(n.toNat / 32))%32768)) (2*(n.toNat%32))<32768:=by
      unfold bY at h3;rw [ak (by unfold nm at h2;omega)] at h3;exact h3
     unfold LP rootOf;rw [hL,hR,ak (by exact h2),au (by exact e2)];exact this
   ·rw [ak h3];obtain ⟨o1,o2,o3⟩:=h.inPlace (data:=data) hlt hd om;have eC:(fJ (bT V (bY V.C N0 n.toNat%32768) data)).C=dV V.C [(bY V.C N0 n.toNat%32768,data)]:=by rw [zK,Ul];rfl
    refine ay (aA ⟨hb,rfl,?_⟩);show VH base V (fJ (bT V (bY V.C N0 n.toNat%32768) data)) N0 E _;refine ⟨Ok.bP (T:=V.C.length) (D:=Ih (bU V.C N0 E) n.toNat data) (by rw [eC];exact o1) (by rw [eC];exact o3) (SQ _) (h.log.o7 ((iF.refl V).put _ _).flush),?_,fun hx=>by rw [eC];exact o2 hx⟩;rw [eC]
    have:=o1.holds
    rw [rP o3] at this;exact this
 ·have hb':kP n=false:=by simpa using hb
  rw [au hb'];exact aA ⟨hb',rfl⟩
end
end Go.Proofs.YtknjjjenklfeoaaGreatDoor
