import Derived.Test.YtknjjjenklfeoaaGreatDoorO36
import Derived.Test.YtknjjjenklfeoaaGreatDoorO29
set_option maxHeartbeats 8000000
set_option maxRecDepth 100000
set_option linter.all false
namespace Go.Proofs.YtknjjjenklfeoaaGreatDoor
section
variable {base:List aj} {V:aB} {N0:Nat} {E:List aX} {s:ByteArray}
theorem bD.jT (h:bD base V N0 E):aY (cl V.C 5)=jm E∧lenOf (aY (cl V.C 5))=E.length:=by
 rw [h.file.list,h.file.jT.aY];exact ⟨rfl,h.file.jT.lenOf⟩
theorem akR {a b:List UInt8} (h:bJ a=bJ b):a=b:=by
 have:=FV (fun x:ByteArray=>x.data.toList) h
 simpa [bJ] using this
theorem agi (L:List aj) (k:Nat) (hk:k<E.length):(iT (bU L N0 E).L k).name=((jm E).getD k ze).name∧(iT (bU L N0 E).L k).C=dZ L ((jm E).getD k ze).first:=by
 rw [Dq k hk];unfold iT;rw [PL,aK,aK,jD,bI hk];exact ⟨rfl,rfl⟩
theorem agC (L:List aj): ∀ m k,k+m=E.length→AU (bU L N0 E).L s m k=xI (jm E) s m k
 | 0,_,_=>rfl
 | m+1,k,h=>by
  rw [AU,xI,(agi L k om).1,agC L m (k+1) om]
theorem LC (L:List aj):(bU L N0 E).L.length=E.length:=by rw [PL,tH]
theorem bD.find (h:bD base V N0 E):xR (bU V.C N0 E) s=rZ (aY (cl V.C 5)) s:=by
 unfold xR rZ;rw [h.jT.2,h.jT.1,LC];exact agC V.C E.length 0 om
theorem agA: ∀ m k,k+m=E.length→xI (jm E) s m k<0→ ∀ j,k≤j→j<E.length→((jm E).getD j ze).name≠s.data.toList
 | 0,k,h,_,j,h1,h2=>om
 | m+1,k,h,hf,j,h1,h2=>by
  rw [xI] at hf
  split at hf
  ·omega
  ·rename_i hn
   by_cases e:k=j
   ·subst e;intro he;exact hn (by rw [he];exact adH s)
   ·exact agA m (k+1) om hf j om h2
theorem bD.fresh (h:bD base V N0 E) (hf:rZ (aY (cl V.C 5)) s<0):s.data.toList ∉ E.map (·.name):=by
 unfold rZ at hf;rw [h.jT.2,h.jT.1] at hf;intro hm;obtain ⟨e,he,e1⟩:=gQ.1 hm;obtain ⟨j,hj,rfl⟩:=Rn he
 have:=agA E.length 0 om hf j om hj
 rw [Dq j hj,aK,bI hj] at this;exact this e1
theorem bD.there (h:bD base V N0 E):(∃ m,m≠0∧m≠5∧nT V s=(0,m)∧pK (bU V.C N0 E) s=(-1,m))∨ ∃ i,i<E.length∧nT V s=(((i:Nat):Int),0)∧pK (bU V.C N0 E) s=(((i:Nat):Int),0)∧xR (bU V.C N0 E) s=(i:Int):=by
 unfold pK nT;rw [h.find]
 by_cases hn:oC s.data.toList=false
 ·rw [au hn,au hn];exact aA ⟨2,dc,dc,rfl,rfl⟩
 ·rw [ak hn,ak hn]
  by_cases hf:rZ (aY (cl V.C 5)) s<0
  ·rw [au hf,au hf];exact aA ⟨4,dc,dc,rfl,rfl⟩
  ·rw [ak hf,ak hf];obtain ⟨i,_,h2,h3⟩:=aaZ (aY (cl V.C 5)) s (lenOf (aY (cl V.C 5))) 0 (by unfold rZ at hf;omega);have h4:rZ (aY (cl V.C 5)) s=(i:Int):=h3;rw [h4];exact ay ⟨i,by rw [h.jT.2] at h2;omega,rfl,rfl,rfl⟩
theorem arG (e:aX) (h:E.length<4):(jm E).set E.length e=jm (E++[e]):=by
 unfold jm;rw [Jv _ _ (aP _),Bf,show 4 - E.length=(4 - (E++[e]).length)+1 by simp;omega,UU,nK,uG];rfl
theorem arE (i:Nat) (hi:i<E.length) (h4:E.length≤4):jr (jm E) i=jm (E.eraseIdx i):=by
 unfold jr jm;rw [alu hi,uG]
 congr 1
 have:(E.eraseIdx i).length=E.length - 1:=by rw [List.length_eraseIdx,au hi]
 rw [this,show 4 - (E.length - 1)=(4 - E.length)+1 by omega,KP]
theorem ajX (L:List aj) (M:List Nat): ∀ m n,I8 L M m n=true↔ ∀ j,n≤j→j<n+m→aS L j+M.getD j 0≤254
 | 0,n=>by simp [I8];intro j h1 h2;omega
 | m+1,n=>by
  rw [I8]
  by_cases hg:254<aS L n+M.getD n 0
  ·rw [au hg];constructor
   ·intro h;cases h
   ·intro h;have:=h n om om;omega
  ·rw [ak hg,ajX L M m (n+1)];constructor
   ·intro h j h1 h2
    by_cases e:n=j
    ·subst e;omega
    ·exact h j om om
   ·intro h j h1 h2;exact h j om om
theorem afu (M:List Nat) (n m:Nat) (hn:n<M.length):(bump M n).getD m 0=M.getD m 0+if n=m then 1 else 0:=by
 unfold bump;rw [aK,uf]
 by_cases e:n=m
 ·subst e;rw [au rfl,au hn,au rfl,KR]
 ·rw [ak e,ak e,aK];rfl
theorem akv (f:Nat→Nat): ∀ m k,sK f (m+1) k=sK f m k+f (k+m)
 | 0,k=>by simp [sK]
 | m+1,k=>by
  rw [sK,akv f m (k+1),sK,show k+1+m=k+(m+1) by omega];omega
theorem aiM (L:List aj) (t:Nat) (M:List Nat) (hM:M.length=256) (n:Nat): ∀ k,k≤32→(∀ q,q<k→nm L t q≠0→nm L t q%32768<256)→(zV L t M k).getD n 0=M.getD n 0+sK (fun q=>iH (nm L t q) n) k 0
 | 0,_,_=>by simp [zV,sK]
 | k+1,hk,hq=>by
  have ih:=aiM L t M hM n k om (fun q h=>hq q om);rw [zV,akv]
  by_cases h0:num (cl L t) (2*k)=0
  ·rw [au h0,ih]
   have:iH (nm L t (0+k)) n=0:=by rw [qR];unfold nm;rw [h0,TF]
   rw [this];omega
  ·rw [ak h0,afu _ _ _ (by rw [Ug,hM];exact hq k om h0),ih]
   have:iH (nm L t (0+k)) n=if num (cl L t) (2*k)%32768=n then 1 else 0:=by
    rw [qR]
    by_cases e:num (cl L t) (2*k)%32768=n
    ·rw [au e];exact GU h0 e
    ·rw [ak e];unfold iH;rw [ak (fun z=>e z.2)]
   rw [this];omega
theorem cZ.more {L:List aj} {rs:List bC} (h:cZ L rs) {r:bC} (hr:r ∈ rs) (n:Nat):(yJ L r.N 2).getD n 0=nJ L r.N 0 n+nJ L r.N 1 n:=by
 have hlen:=h.len;have step: ∀ i,i<2→(yJ L r.N (i+1)).getD n 0=(yJ L r.N i).getD n 0+nJ L r.N i n:=by
  intro i hi;rw [yJ];unfold nJ
  by_cases h0:num (cl L r.N) (2*i)=0
  ·rw [au h0,au h0];rfl
  ·rw [ak h0,ak h0];have nD:fB L rs (nm L r.N i%32768):=⟨r,hr,i,hi,h0,rfl⟩;have hs:=h.sec _ nD;have hs':num (cl L r.N) (2*i)%32768<256:=iZ hs.2 hlen;rw [aiM L _ _ (by rw [PG];exact Qj L r.N i) n 32 (aP _) (fun q hq h1=>iZ (h.zh (ay nD) q hq h1).2 hlen),afu _ _ _ (by rw [Qj];exact hs')]
   have:iH (nm L r.N i) n=if num (cl L r.N) (2*i)%32768=n then 1 else 0:=by
    by_cases e:num (cl L r.N) (2*i)%32768=n
    ·rw [au e];exact GU h0 e
    ·rw [ak e];unfold iH;rw [ak (fun z=>e z.2)]
   rw [this];unfold yG;exact OL _ _ _
 rw [step 1 om,step 0 om]
 have:(yJ L r.N 0).getD n 0=0:=by have:=ak9 n;show zI.getD n 0=0;omega
 omega
theorem bD.room (h:bD base V N0 E) {f:Nat} (hf:f ∈ (aH N0 E).map (·.N)):Eu V.C f=true↔(0<(dG (aJ V.C) 1).length∧oz (aJ V.C) (jf V.C f)=true):=by
 obtain ⟨r,hr,rfl⟩:=gQ.1 hf;obtain ⟨k1,k2⟩:=h.ok.Gu rfl;have hlen:=h.sound.len;have hin: ∀ u ∈ jf V.C r.N,u<V.C.length:=fun u hu=>(h.sound.abo hr u (dD.2 (ay hu))).2;have hfree:0<Eb V.C↔0<(dG (aJ V.C) 1).length:=by
  constructor
  ·intro hp
   by_cases hl:0<(dG (aJ V.C) 1).length
   ·exact hl
   ·have:=aa9 h.sound h.file.lens 1 om;omega
  ·intro hl;obtain ⟨n,_,hn,h0⟩:=NW hl;rw [h.sound.agW h.file.lens];have key: ∀ k,n<k→0<bF (fun m=>aI (aJ V.C) m == 0) k:=by
    intro k
    induction k with
    | zero=>intro h;omega
    | succ k ih=>
     intro hk;rw [bF]
     by_cases e:n=k
     ·subst e;rw [au (by simp [h0])];omega
     ·have:=ih om;omega
   exact key 256 hn
 unfold Eu;rw [vU,CO,hfree,ajX,aa3 _ _ (fun u hu=>by rw [k1];have:=hin u hu;omega)];constructor
 ·rintro ⟨h1,h2⟩;refine ⟨h2,fun u hu=> ?_⟩;have h3:=h1 u om (by have:=hin u hu;omega);rw [h.sound.more hr,← V9 (h.sound.zero r hr)] at h3;rw [k2 u (by have:=hin u hu;omega)];exact h3
 ·rintro ⟨h1,h2⟩;refine ⟨fun j _ hj=> ?_,h1⟩;rw [h.sound.more hr,← V9 (h.sound.zero r hr)]
  by_cases hm:j ∈ jf V.C r.N
  ·have:=h2 j hm
   rw [k2 j om] at this;exact this
  ·rw [FU.2 hm]
   have:=h.sound.top j om
   omega
end
section
variable {base:List aj} {V:aB} {N0:Nat} {E:List aX} {s:ByteArray} {f n i:Nat}
theorem bD.af6 (h:bD base V N0 E) (hf:f ∈ (aH N0 E).map (·.N)) (hn:n<256) (h0:aS V.C n=0) (hfit:oz (aJ V.C) (jf V.C f)=true):(copyV V f n).L.length≤V.L.length+21∧V.L.length≤(copyV V f n).L.length:=by
 obtain ⟨e1,_⟩:=h.afZ hf hn;obtain ⟨e2,_⟩:=h.copied hf hn h0 hfit;have hp:=(XY V f n).zT;have l1:=ah1 V [n];obtain ⟨_,_,_,a4,_⟩:=h.longer [n] (by rw [TP];exact hn);obtain ⟨r,hr,rfl⟩:=gQ.1 hf;have h6:=h.sound.fst r hr;have l2:=PN (dQ V [n]) (DX (dQ V [n]).C r.N);have l3:(DX (dQ V [n]).C r.N).length≤3:=by
  unfold DX;rw [a4 r.N om,tH,iQ]
  have:=akG (cl V.C r.N) (fun i h1 h2=>h.sound.zero r hr i h1 h2)
  omega
 rw [← e1] at l2;have l4:=PN (jF V r.N n) (jo (rY V.C r.N n)++[(n,cl (jF V r.N n).C r.N)]);rw [← e2] at l4;have l5:(jo (rY V.C r.N n)++[(n,cl (jF V r.N n).C r.N)]).length=5:=rfl;omega
theorem bD.Cc (h:bD base V N0 E):num (cl V.C 0) 6=N0:=h.file.Cc
theorem bD.Ut (_h:bD base V N0 E):N0 ∈ (aH N0 E).map (·.N):=by simp [aH]
theorem bD.Ig (_h:bD base V N0 E) (hi:i<E.length):(E.getD i ze).first ∈ (aH N0 E).map (·.N):=by
 have hg:(E.getD i ze)=E[i]:=by rw [aK,bI hi];rfl
 rw [hg];exact gQ.2 ⟨kV E[i],Cj.2 (ay ⟨_,oP hi,rfl⟩),rfl⟩
theorem bD.iW (h:bD base V N0 E) (hi:i<E.length) (he:nT V s=(((i:Nat):Int),0)):iW V s=(E.getD i ze).first:=by
 unfold Go.Proofs.YtknjjjenklfeoaaGreatDoor.iW;rw [he,h.jT.1];show ((jm E).getD i ze).first=_;rw [Dq i hi]
theorem bD.aaG (h:bD base V N0 E) (hf:f ∈ (aH N0 E).map (·.N)) (hr:Eu V.C f=true): ∃ n,n<256∧aS V.C n=0∧oz (aJ V.C) (jf V.C f)=true∧iy V f=(copyV V f n,n,0):=by
 obtain ⟨h1,h2⟩:=(h.room hf).1 hr;obtain ⟨n,hn,hlt,h0⟩:=NW h1;obtain ⟨k1,k2⟩:=h.ok.Gu rfl;refine ⟨n,hlt,by rw [← k2 n hlt];exact h0,h2,?_⟩;unfold iy;rw [au ⟨h1,h2⟩,hn,DF]
theorem bD.aaF (h:bD base V N0 E) (hf:f ∈ (aH N0 E).map (·.N)) (hr:Eu V.C f=false):iy V f=(V,0,5):=by
 unfold iy;rw [ak (fun x=>by rw [(h.room hf).2 x] at hr;cases hr)]
theorem bD.aub (h:bD base V N0 E) (s:ByteArray):
  (∃ c,c≠0∧xg V s=(V,c)∧Kz (bU V.C N0 E) s=(bU V.C N0 E,c))∨
   ((Kz (bU V.C N0 E) s).2=0∧Eu V.C N0=false∧xg V s=(V,5))∨
   ((Kz (bU V.C N0 E) s).2=0∧Eu V.C N0=true∧(xg V s).2=0∧(xg V s).1.L.length≤V.L.length+100∧V.L.length≤(xg V s).1.L.length∧ ∃ E',O1 base V N0 E (xg V s).1 N0 E' (Kz (bU V.C N0 E) s).1):=by
 have h4:=h.file.jT.len;unfold xg Kz;rw [h.find,LC,h.jT.2,h.jT.1,h.Cc]
 by_cases hnm:oC s.data.toList=false
 ·rw [au hnm,au hnm];exact aA ⟨2,dc,rfl,rfl⟩
 rw [ak hnm,ak hnm];have hnt:oC s.data.toList=true:=by cases e:oC s.data.toList;exact absurd e hnm;rfl
 by_cases hf:0≤rZ (jm E) s
 ·rw [au hf,au hf];exact aA ⟨3,dc,rfl,rfl⟩
 rw [ak hf,ak hf]
 by_cases hl:E.length=4
 ·rw [au hl,au (show 4≤E.length by omega)];exact aA ⟨5,dc,rfl,rfl⟩
 rw [ak hl,ak (show ¬ 4≤E.length by omega)]
 right
 cases hr:Eu V.C N0 with
 | false=>
  left
  rw [h.aaF h.Ut hr];exact ⟨rfl,rfl,rfl⟩
 | true=>
  right
  obtain ⟨n,hn,h0,hfit,e⟩:=h.aaG h.Ut hr;have hnew:=h.fresh (s:=s) (by rw [h.jT.1];omega);have h6:=h.sound.Fg hn h0;have hE':=h.file.jT.snoc hnt hnew om (show n≠0 by omega) om;obtain ⟨t1,t2⟩:=h.take hnt hnew om hn h0 hfit;have l1:=h.af6 h.Ut hn h0 hfit;have l2:=PN (copyV V N0 n) [(5,nG (E++[⟨s.data.toList,n⟩]))];rw [← t1] at l2;have l3:=(QE (iF.refl (copyV V N0 n)) [(5,nG (E++[⟨s.data.toList,n⟩]))]).zT;rw [← t1] at l3;simp only [iQ,vk] at l2;have e2:fJ (bT (copyV V N0 n) 5 (mg ((jm E).set E.length ⟨s.data.toList,n⟩) 4))=Jh V N0 n (E++[⟨s.data.toList,n⟩]):=by
   rw [arG _ om,hE'.VT];rfl
  rw [e,au rfl];dsimp only;rw [e2];generalize Jh V N0 n (E++[⟨s.data.toList,n⟩])=W at*;refine ⟨rfl,rfl,rfl,om,om,E++[⟨s.data.toList,n⟩],t2.bP,?_,t2.exact⟩;rw [t2.holds];rfl
theorem Ok.goes {W:aB} {T N1:Nat} {E1:List aX} {D:dY} (ok:Ok W.C T N1 E1 D) (hT:W.C.length=T) (hs:cZ W.C (aH N0 E)) (hf:f ∈ (aH N0 E).map (·.N)) (hl:Lets W N1 E1 (mZ W.C f)):Jy W f:=by
 refine ⟨hs.len,hs.Di hf,fun g hg=> ?_⟩;obtain ⟨o1,o2,_⟩:=ok.TS hT hl;have s1:=o1.sound;rw [rP o2] at s1;rw [o1.Au] at hg;exact s1.Di hg
theorem bD.Ar (h:bD base V N0 E) (hi:i<E.length):Ar V i=Ap V (E.eraseIdx i):=by
 unfold Go.Proofs.YtknjjjenklfeoaaGreatDoor.Ar;rw [h.jT.1,arE i hi h.file.jT.len,(h.file.jT.erase i).VT];rfl
theorem bD.aoi (h:bD base V N0 E) (he:(nT V s).2=0):Jy (Go.Proofs.YtknjjjenklfeoaaGreatDoor.Ar V (nT V s).1.toNat) (Go.Proofs.YtknjjjenklfeoaaGreatDoor.iW V s):=by
 rcases h.there (s:=s) with ⟨m,hm,_,e,_⟩ | ⟨i,hi,e,_⟩
 ·rw [e] at he;exact absurd he hm
 ·rw [h.iW hi e,e];show Jy (Go.Proofs.YtknjjjenklfeoaaGreatDoor.Ar V i) _;rw [h.Ar hi];obtain ⟨_,d2,d3,d4,d5,_⟩:=h.drop hi;exact d2.goes d3 d4 (h.Ig hi) d5
theorem bD.aoh (h:bD base V N0 E) (s:ByteArray):
  (∃ c,c≠0∧Aq V s=(V,c)∧FM (bU V.C N0 E) s=(bU V.C N0 E,c))∨
   ((FM (bU V.C N0 E) s).2=0∧(Aq V s).2=0∧(Aq V s).1.L.length≤V.L.length+100∧V.L.length≤(Aq V s).1.L.length∧ ∃ E',O1 base V N0 E (Aq V s).1 N0 E' (FM (bU V.C N0 E) s).1):=by
 unfold Aq FM;rcases h.there (s:=s) with ⟨m,hm,_,e1,e2⟩ | ⟨i,hi,e1,e2,_⟩
 ·left
  refine ⟨m,hm,?_,?_⟩
  ·rw [e1,ak hm]
  ·rw [e2,ak hm]
 ·right
  have hfe:=h.iW hi e1;rw [hfe,e1,e2];dsimp only;rw [au rfl,au rfl,vC,h.Ar hi];obtain ⟨d1,d2,d3,d4,d5,d6⟩:=h.drop hi;have l1:=PN V [(5,nG (E.eraseIdx i))];rw [← d1] at l1;simp only [iQ,vk] at l1;have l2:=d2.TT d3 d5;have l3:=(Ky (QE (iF.refl V) [(5,nG (E.eraseIdx i))]) (mZ (Ap V (E.eraseIdx i)).C (E.getD i ze).first)).zT;rw [← d1] at l3;generalize Ap V (E.eraseIdx i)=W at*;generalize oD W (mZ W.C (E.getD i ze).first)=W2 at*;refine ⟨rfl,rfl,by dsimp only;omega,l3,E.eraseIdx i,d6.bP,?_,d6.exact⟩;rw [d6.holds];rfl
theorem bD.asI (h:bD base V N0 E) (he:(nT V s).2=0):gJ V (Go.Proofs.YtknjjjenklfeoaaGreatDoor.iW V s)∧((iy V (Go.Proofs.YtknjjjenklfeoaaGreatDoor.iW V s)).2.2=0→Jy (FN (iy V (Go.Proofs.YtknjjjenklfeoaaGreatDoor.iW V s)).1 (iy V (Go.Proofs.YtknjjjenklfeoaaGreatDoor.iW V s)).2.1) (num (cl (iy V (Go.Proofs.YtknjjjenklfeoaaGreatDoor.iW V s)).1.C 0) 6)):=by
 rcases h.there (s:=s) with ⟨m,hm,_,e,_⟩ | ⟨i,hi,e,_⟩
 ·rw [e] at he;exact absurd he hm
 ·rw [h.iW hi e];refine ⟨h.sound.Di (h.Ig hi),fun hc=> ?_⟩;cases hr:Eu V.C (E.getD i ze).first with
  | false=>rw [h.aaF (h.Ig hi) hr] at hc;cases hc
  | true=>
   obtain ⟨n,hn,h0,hfit,e2⟩:=h.aaG (h.Ig hi) hr;obtain ⟨_,_,o1,_⟩:=h.copied (h.Ig hi) hn h0 hfit;obtain ⟨_,d2,d3,d4,d5,_⟩:=h.ret hi hn h0 hfit;rw [e2];dsimp only;rw [o1.file.Cc];exact d2.goes d3 d4 h.Ut d5
theorem bD.asH (h:bD base V N0 E) (s:ByteArray):
  (∃ c,c≠0∧yP V s=(V,c)∧MC (bU V.C N0 E) s=(bU V.C N0 E,c))∨
   ((MC (bU V.C N0 E) s).2=0∧ ∃ i,i<E.length∧xR (bU V.C N0 E) s=(i:Int)∧((Eu V.C (E.getD i ze).first=false∧yP V s=(V,5))∨
    (Eu V.C (E.getD i ze).first=true∧(yP V s).2=0∧(yP V s).1.L.length≤V.L.length+100∧V.L.length≤(yP V s).1.L.length∧ ∃ N1,O1 base V N0 E (yP V s).1 N1 E (MC (bU V.C N0 E) s).1))):=by
 unfold yP MC;rcases h.there (s:=s) with ⟨m,hm,_,e1,e2⟩ | ⟨i,hi,e1,e2,e3⟩
 ·left
  refine ⟨m,hm,?_,?_⟩
  ·rw [e1,ak hm]
  ·rw [e2,ak hm]
 ·right
  have hfe:=h.iW hi e1;rw [hfe,e1,e2];dsimp only;rw [au rfl,au rfl,vC];refine ⟨rfl,i,hi,e3,?_⟩;cases hr:Eu V.C (E.getD i ze).first with
  | false=>
   left
   rw [h.aaF (h.Ig hi) hr];exact ⟨rfl,rfl⟩
  | true=>
   right
   obtain ⟨n,hn,h0,hfit,e4⟩:=h.aaG (h.Ig hi) hr;obtain ⟨_,_,o1,_⟩:=h.copied (h.Ig hi) hn h0 hfit;obtain ⟨d1,d2,d3,d4,d5,d6⟩:=h.ret hi hn h0 hfit;have apq:(iT (bU V.C N0 E).L i).C=(Ur (bU V.C N0 E) i).C:=by
    show _=((bU V.C N0 E).L.getD i ⟨[],[]⟩).C;unfold iT;have hil:i<(bU V.C N0 E).L.length:=by rw [LC];exact hi
    rw [aK,aK,bI hil];rfl
   have l0:=h.af6 (h.Ig hi) hn h0 hfit;have l1:=PN (copyV V (E.getD i ze).first n) [(0,fE (je V.C [n]) n)];rw [← d1] at l1;simp only [iQ,vk] at l1;have l2:=d2.TT d3 d5;have l3:=(Ky (QE (XY V (E.getD i ze).first n) [(0,fE (je V.C [n]) n)]) (mZ (AV V (E.getD i ze).first n).C N0)).zT;rw [← d1] at l3;rw [e4];dsimp only;rw [au rfl,o1.file.Cc];dsimp only;have e5:FN (copyV V (E.getD i ze).first n) n=AV V (E.getD i ze).first n:=rfl;rw [e5];generalize AV V (E.getD i ze).first n=W at*;generalize oD W (mZ W.C N0)=W2 at*;refine ⟨rfl,rfl,om,l3,n,d6.bP,?_,d6.exact⟩;rw [d6.holds,apq];rfl
end
def Gv (E:List aX) (i:Nat):Bool:=oC (E.getD i ze).name && decide (rZ E (bJ (E.getD i ze).name)=(i:Int))
def JQ (E:List aX) (i:Nat):Bool:=decide (bJ (E.getD i ze).name=bJ []) && decide ((E.getD i ze).first=0)
def xC (p:Nat→Bool):Nat→Nat→Bool
 | 0,_=>true
 | m+1,k=>p k && xC p m (k+1)
theorem Ll (p:Nat→Bool): ∀ m k,xC p m k=true↔ ∀ j,k≤j→j<k+m→p j=true
 | 0,k=>⟨fun _ j h1 h2=>om,fun _=>rfl⟩
 | m+1,k=>by
  rw [xC,vU,Ll p m (k+1)];constructor
  ·rintro ⟨h1,h2⟩ j h3 h4
   by_cases e:j=k
   ·rw [e];exact h1
   ·exact h2 j om om
  ·intro h;exact ⟨h k om om,fun j h1 h2=>h j om om⟩
theorem Z9 (p:Nat→Bool): ∀ m k,xC p (m+1) k=(xC p m k && p (k+m))
 | 0,k=>by rw [xC,xC,xC,Y6,tC,jL]
 | m+1,k=>by
  rw [xC,Z9 p m (k+1),xC,Bool.and_assoc,show k+1+m=k+(m+1) by omega]
def wW (c:aj):Bool:=decide (mg (aY c) 4=c) && (xC (Gv (aY c)) (lenOf (aY c)) 0 && xC (JQ (aY c)) (4 - lenOf (aY c)) (lenOf (aY c)))
end Go.Proofs.YtknjjjenklfeoaaGreatDoor
