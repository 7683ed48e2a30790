import Derived.Test.YtknjjjenklfeoaaGreatDoorU31
set_option maxHeartbeats 8000000
set_option maxRecDepth 100000
set_option linter.all false
namespace Go.Proofs.YtknjjjenklfeoaaGreatDoor
def PC (D0 D1:dR) (C:List aj):Prop:= ∃ T N0 E D,(D=D0∨D=D1)∧Ok C T N0 E D
def jo (V a:aB) (D0 D1:dR):Prop:= ∃ es,a=yP V es∧DV (PC D0 D1) V es
section
variable {V V1:aB} {D0 D1:dR}
def DV.last {P:List aj→Prop}: ∀ (es:List (List (Nat × aj))) {V:aB},DV P V es→P (yP V es).C
 | [],_,h=>h
 | _ :: r,_,h=>DV.last r h.2
def jo.nil (h:PC D0 D1 V.C):jo V V D0 D1:=⟨[],rfl,h⟩
def jo.ends (t:jo V V1 D0 D1):PC D0 D1 V1.C:=by
 obtain ⟨es,rfl,hs⟩:=t;exact DV.last es hs
def jo.eH (t:jo V V1 D0 D1) (a:List (Nat × aj)) (e: ∀ c:List (Nat × aj),(∀ x ∈ c,x ∈ a)→PC D0 D1 (dG V1.C c)):jo V (eH V1 a) D0 D1:=by
 obtain ⟨es,rfl,hs⟩:=t;refine ⟨es++[a],by rw [aep];rfl,DV.app es hs ⟨fun c g=>e c fun x d=>g.subset d,?_⟩⟩;show PC D0 D1 (Go.Proofs.YtknjjjenklfeoaaGreatDoor.eH (yP V es) a).C;rw [uz];exact e a fun x d=>d
def jo.one (t:jo V V1 D0 D1) (x:Nat × aj) (a:PC D0 D1 (dG V1.C [x])):jo V (Go.Proofs.YtknjjjenklfeoaaGreatDoor.eH V1 [x]) D0 D1:=by
 have h0:=t.ends;obtain ⟨es,rfl,hs⟩:=t;refine ⟨es++[[x]],by rw [aep];rfl,DV.app es hs ⟨fun d c=> ?_,?_⟩⟩
 ·cases c with
  | cons _ h=>rw [N8.1 h];exact h0
  | cons_cons _ h=>rw [N8.1 h];exact a
 ·show PC D0 D1 (Go.Proofs.YtknjjjenklfeoaaGreatDoor.eH (yP V es) [x]).C;rw [uz];exact a
end
section
variable {base:List aj} {V V0:aB} {N0 T n f:Nat} {E:List aW} {D D0 D1:dR} {data:aj} {b:Nat}
def aY.ae4 (h:aY base V N0 E) (F:List Nat) (c:qF F<256):jo V (dS V F) (bD V.C N0 E) D1:=by
 have d:=h.file.seven;have a:jo V V (bD V.C N0 E) D1:=jo.nil ⟨_,_,_,_,aA rfl,h.ok⟩;unfold dS;rw [h.file.Ll,h.file.Ac]
 by_cases hc:V.C.length≤qF F
 ·rw [au hc];exact a.one (0,fG (qF F+1) N0) ⟨_,_,_,_,aA rfl,h.ok.longer (qF F+1) om om⟩
 ·rw [ak hc];exact a
def Ok.Wh {us:List Nat} (t:jo V0 V D0 D1) (h:Ok V.C T N0 E D) (d:D=D0∨D=D1) (g:V.C.length=T) (i:Lets V N0 E us):jo V0 (jQ V us) D0 D1:=by
 have t1:jo V0 (iq V us) D0 D1:=by
  rw [Rj];exact t.eH _ fun a c=>⟨T,N0,E,D,d,h.adk g i a c⟩
 obtain ⟨j,k,_,_⟩:=h.Nl g i;have e:jQ V us=eH (iq V us) (yH (aJ (iq V us).C) (iq V us).C (bP (iq V us))):=by
  unfold jQ eH;rw [j.Ph k]
 rw [e];exact t1.eH _ fun a c=>⟨T,N0,E,D,d,j.adz k a c⟩
def aY.traceBlock (h:aY base V N0 E) (g:b<64) (d:dD (aJ V.C) 1=[n]) (hn:n<256) (h0:aQ V.C n=0) (a:data.length=64) (i:32768≤nm V.C N0 (b / 32)):
  jo V (jQ (tJ V (cZ V.C N0 b) data) (dJ [bU V.C N0 b])) (bD V.C N0 E) (wZ (bD V.C N0 E) b data):=by
 have c:qF [n]<256:=by rw [O6];exact hn
 have t1:=h.ae4 (D1:=wZ (bD V.C N0 E) b data) [n] c;obtain ⟨k,s,_,_,_⟩:=h.longer [n] c;have hc:=fun m hm=>h.XF [n] c m hm;obtain ⟨l,b1,_⟩:=h.agR (data:=data) d hn h0 a;obtain ⟨j,c1,c2,_,_⟩:=h.Xr g d hn h0 a i;have t:jq V.C [n]=max V.C.length (n+1):=rfl;have t2:jo V (rC V data) (bD V.C N0 E) (wZ (bD V.C N0 E) b data):=by
  rw [l];refine t1.eH _ fun o p=>⟨_,_,_,_,aA rfl,k.abT [n] (fun m hm=>by rw [iP.1 hm];exact ⟨om,by rw [hc n hn];exact h0⟩) o (fun x q=> ?_)⟩;rcases fK.1 (p x q) with y | y
  ·exact aA y
  ·rw [iP.1 y];exact ay ⟨sm,a⟩
 have r:jo V (tJ V (cZ V.C N0 b) data) (bD V.C N0 E) (wZ (bD V.C N0 E) b data):=by
  have e:=c1;rw [j,uz] at e;rw [j];exact t2.one _ ⟨_,_,_,_,ay rfl,e⟩
 exact c1.Wh r (ay rfl) c2 (h.aap g d hn h0 a i).1
def aY.awN (h:aY base V N0 E) {s:Nat} (k:b<64) (g:dD (aJ V.C) 2=[s,n]) (d:s<n) (hn:n<256) (h0:aQ V.C s=0) (a:aQ V.C n=0) (c:data.length=64):
  jo V (jQ (tK V (cZ V.C N0 b) data) (dJ [nm V.C N0 (b / 32),bU V.C N0 b])) (bD V.C N0 E) (wZ (bD V.C N0 E) b data):=by
 have e:qF [s,n]<256:=by rw [adi];exact hn
 have t1:=h.ae4 (D1:=wZ (bD V.C N0 E) b data) [s,n] e;obtain ⟨o,v,_,_,_⟩:=h.longer [s,n] e;have hc:=fun m hm=>h.XF [s,n] e m hm;obtain ⟨p,b1,_⟩:=h.amB (data:=data) (cZ V.C N0 b) g d hn h0 a c;obtain ⟨l,c1,c2,_,_⟩:=h.ZX k g d hn h0 a c;have w:jq V.C [s,n]=max V.C.length (n+1):=rfl;have t2:jo V (rD V (cZ V.C N0 b) data) (bD V.C N0 E) (wZ (bD V.C N0 E) b data):=by
  rw [p];have i:(bytesOf ((cZ V.C N0 b).tab.set (cZ V.C N0 b).oJ (n+32768))).length=64:=bytesOf_length _;generalize bytesOf ((cZ V.C N0 b).tab.set (cZ V.C N0 b).oJ (n+32768))=z at i ⊢;refine t1.eH _ fun q r=>⟨_,_,_,_,aA rfl,o.abT [s,n] (fun m hm=> ?_) q (fun x t=> ?_)⟩
  ·simp only [cO,jM,jO] at hm;rcases hm with rfl | rfl
   ·exact ⟨om,by rw [hc _ om];exact h0⟩
   ·exact ⟨om,by rw [hc _ hn];exact a⟩
  ·rcases fK.1 (r x t) with y | y
   ·exact aA y
   ·simp only [cO,jM,jO] at y;rcases y with y | y
    ·rw [y];exact ay ⟨Oa,i⟩
    ·rw [y];exact ay ⟨LX _ Oa,c⟩
 have u:jo V (tK V (cZ V.C N0 b) data) (bD V.C N0 E) (wZ (bD V.C N0 E) b data):=by
  have j:=c1;rw [l,uz] at j;rw [l];exact t2.one _ ⟨_,_,_,_,ay rfl,j⟩
 exact c1.Wh u (ay rfl) c2 (h.aaq k g d hn h0 a c).1
def aY.awP (h:aY base V N0 E) (m:Nat) (hm:m<64) (c:data.length=64):jo V (DC V (m:Int) data).1 (bD V.C N0 E) (wZ (bD V.C N0 E) m data):=by
 have u:=h.file.seven;have t:=h.file.most;have o:jY (m:Int)=true:=by unfold jY;simp;omega
 have d:jo V V (bD V.C N0 E) (wZ (bD V.C N0 E) m data):=jo.nil ⟨_,_,_,_,aA rfl,h.ok⟩;unfold DC Jg;rw [ak (by rw [o];decide),h.place (m:Int),tZ];obtain ⟨p,q,v,w,x⟩:=VE (V:=V) (N0:=N0) m;rw [p,q]
 by_cases i:nm V.C N0 (m / 32)<32768
 ·rw [au i]
  by_cases a:2≤(dD (aJ V.C) 2).length
  ·rw [au a];obtain ⟨s,r,e,l,hn,h0,j⟩:=YE a;rw [EW h.file.lens om _ om] at h0 j;have g:=h.awN hm e l hn h0 j c;generalize jQ (tK V (cZ V.C N0 m) data) (dJ [nm V.C N0 (m / 32),bU V.C N0 m])=W at*;exact g
  ·rw [ak a];exact d
 ·rw [ak i]
  by_cases k:bU V.C N0 m<32768
  ·rw [au k]
   by_cases a:0<(dD (aJ V.C) 1).length
   ·rw [au a];obtain ⟨r,e,hn,h0⟩:=Nq a;rw [EW h.file.lens om _ om] at h0;have g:=h.traceBlock hm e hn h0 c om;generalize jQ (tJ V (cZ V.C N0 m) data) (dJ [bU V.C N0 m])=W at*;exact g
   ·rw [ak a];exact d
  ·rw [ak k];exact d.one (bU V.C N0 m%32768,data) ⟨_,_,_,_,ay rfl,(h.inPlace hm c om).1⟩
def aY.amN (h:aY base V N0 E) (d:f ∈ (aH N0 E).map (·.N)) (hn:n<256) (h0:aQ V.C n=0) (e:oH (aJ V.C) (jA V.C f)=true):jo V (copyV V f n) (bD V.C N0 E) D1:=by
 have g:qF [n]<256:=by rw [O6];exact hn
 have t1:=h.ae4 (D1:=D1) [n] g;obtain ⟨i,j,_⟩:=h.ab6 d hn;obtain ⟨k,b1,_⟩:=h.copied d hn h0 e;have t2:jo V (jP V f n) (bD V.C N0 E) D1:=by
  rw [i];exact t1.eH _ fun a c=>⟨_,_,_,_,aA rfl,j a c⟩
 rw [k];exact t2.eH _ fun a c=>⟨_,_,_,_,aA rfl,b1 a c⟩
def aY.awO (h:aY base V N0 E) (s:ByteArray):jo V (vP V s).1 (bD V.C N0 E) (Ep (bD V.C N0 E) s).1:=by
 have d:jo V V (bD V.C N0 E) (Ep (bD V.C N0 E) s).1:=jo.nil ⟨_,_,_,_,aA rfl,h.ok⟩;have v:=h.file.iR.len;have a:=h.amC s;unfold vP at a ⊢;rw [h.iR.2,h.iR.1,h.Ac] at a ⊢
 by_cases c:nZ s.data.toList=false
 ·rw [au c];exact d
 rw [ak c] at a ⊢;have k:nZ s.data.toList=true:=by cases e:nZ s.data.toList;exact absurd e c;rfl
 by_cases g:0≤rY (jy E) s
 ·rw [au g];exact d
 rw [ak g] at a ⊢
 by_cases m:E.length=4
 ·rw [au m];exact d
 rw [ak m] at a ⊢;cases hr:Du V.C N0 with
 | false=>
  rw [h.Ui h.NK hr];exact d
 | true=>
  obtain ⟨n,hn,h0,i,e⟩:=h.Uj h.NK hr;have j:=h.fresh (s:=s) (by rw [h.iR.1];omega);have w:=h.sound.Fe hn h0;have p:=h.file.iR.snoc k j om (show n≠0 by omega) om;obtain ⟨o,t2⟩:=h.take k j om hn h0 i;have q:fF (bQ (copyV V N0 n) 5 (mJ ((jy E).set E.length ⟨s.data.toList,n⟩) 4))=G7 V N0 n (E++[⟨s.data.toList,n⟩]):=by
   rw [ak9 _ om,p.Uh];rfl
  have r:(Ep (bD V.C N0 E) s).1=SB (bD V.C N0 E) s.data.toList:=by
   unfold Ep;rw [ak c,h.find,h.iR.1,ak g,Jw,ak om];rfl
  have t:=h.amN (D1:=SB (bD V.C N0 E) s.data.toList) h.NK hn h0 i;have ok:=t2.bH.ok;rw [t2.holds] at ok;have l:=ok;rw [o,uz] at l;have u:jo V (G7 V N0 n (E++[⟨s.data.toList,n⟩])) (bD V.C N0 E) (SB (bD V.C N0 E) s.data.toList):=by
   rw [o];exact t.one _ ⟨_,_,_,_,ay rfl,l⟩
  rw [e,au rfl];dsimp only;rw [q,r];exact u
def aY.awL (h:aY base V N0 E) (s:ByteArray):jo V (zf V s).1 (bD V.C N0 E) (A8 (bD V.C N0 E) s).1:=by
 unfold zf A8;rcases h.there (s:=s) with ⟨m,hm,_,a,c⟩ | ⟨i,hi,a,c,_⟩
 ·rw [a,ak hm];exact jo.nil ⟨_,_,_,_,aA rfl,h.ok⟩
 ·have j:=h.jf hi a;rw [j,a,c];dsimp only;rw [au rfl,au rfl,tZ,h.Aw hi];obtain ⟨d,e,k,o,l,_⟩:=h.drop hi;have g:=e;rw [d,uz] at g;have t1:jo V (y9 V (E.eraseIdx i)) (bD V.C N0 E) (QL (bD V.C N0 E) i):=by
   rw [d];exact (jo.nil ⟨_,_,_,_,aA rfl,h.ok⟩:jo V V (bD V.C N0 E) (QL (bD V.C N0 E) i)).one _ ⟨_,_,_,_,ay rfl,g⟩
  have t2:=e.Wh t1 (ay rfl) k l;generalize jQ (y9 V (E.eraseIdx i)) (mF (y9 V (E.eraseIdx i)).C (E.getD i ze).first)=W at*;exact t2
def aY.awM (h:aY base V N0 E) (s:ByteArray):jo V (wW V s).1 (bD V.C N0 E) (Jb (bD V.C N0 E) s).1:=by
 unfold wW Jb;rcases h.there (s:=s) with ⟨m,hm,_,a,d⟩ | ⟨i,hi,a,d,_⟩
 ·rw [a,ak hm];exact jo.nil ⟨_,_,_,_,aA rfl,h.ok⟩
 ·have k:=h.jf hi a;rw [k,a,d];dsimp only;rw [au rfl,au rfl,tZ];cases hr:Du V.C (E.getD i ze).first with
  | false=>
   rw [h.Ui (h.Dv hi) hr];exact jo.nil ⟨_,_,_,_,aA rfl,h.ok⟩
  | true=>
   obtain ⟨n,hn,h0,c,p⟩:=h.Uj (h.Dv hi) hr;obtain ⟨_,_,o1,_⟩:=h.copied (h.Dv hi) hn h0 c;obtain ⟨e,g,q,u,r,_⟩:=h.ret hi hn h0 c;have l:(iU (bD V.C N0 E).L i).C=(PE (bD V.C N0 E) i).C:=by
    show _=((bD V.C N0 E).L.getD i ⟨[],[]⟩).C;unfold iU;have o:i<(bD V.C N0 E).L.length:=by rw [Jw];exact hi
    rw [aN,aN,bJ o];rfl
   have j:=g;rw [e,uz] at j;have t1:jo V (yM V (E.getD i ze).first n) (bD V.C N0 E) (PE (bD V.C N0 E) i):=by
    rw [e];exact (h.amN (h.Dv hi) hn h0 c).one _ ⟨_,_,_,_,ay rfl,j⟩
   have t2:=g.Wh t1 (ay rfl) q r;rw [p];dsimp only;rw [au rfl,o1.file.Ac,l];have t:FT (copyV V (E.getD i ze).first n) n=yM V (E.getD i ze).first n:=rfl;rw [t];generalize jQ (yM V (E.getD i ze).first n) (mF (yM V (E.getD i ze).first n).C N0)=W at*;exact t2
end
structure nR where
 table:Nat
 index:Nat
 number:Nat
def oD (C:List aj) (t:Nat):Nat→Nat→List nR
 | 0,_=>[]
 | m+1,k=>(if nm C t k=0 then [] else [⟨t,k,nm C t k⟩])++oD C t m (k+1)
def jB (C:List aj) (t:Nat):Nat→Nat→List nR
 | 0,_=>[]
 | m+1,i=>(if nm C t i=0 then [] else ⟨t,i,nm C t i⟩ :: oD C (nm C t i%32768) 32 0)++jB C t m (i+1)
def qN (R:aU) (first:Nat) (s:nR):Bool × aU:=
 if s.table=first then (if 2≤s.index then (false,{ R with bad:=s.table }) else tell R (s.number%32768) 2 s.table) else tell R (s.number%32768) 3 s.table
def jZ (first:Nat):List nR→aU→Bool × aU
 | [],R=>(true,R)
 | s :: r,R=>if (qN R first s).1 then jZ first r (qN R first s).2 else (false,(qN R first s).2)
def Uw (first:Nat): ∀ (a b:List nR) (R:aU),jZ first (a++b) R=if (jZ first a R).1 then jZ first b (jZ first a R).2 else (false,(jZ first a R).2)
 | [],b,R=>rfl
 | s :: a,b,R=>by
  rw [rU,jZ,jZ]
  by_cases h:(qN R first s).1=true
  ·rw [au h,au h,Uw first a b]
  ·rw [ak h,ak h];rfl
def aiz (first:Nat) (a:List nR) (s:nR) (R:aU) (h:(jZ first a R).1=true):jZ first (a++[s]) R=qN (jZ first a R).2 first s:=by
 rw [Uw,au h,jZ]
 by_cases c:(qN (jZ first a R).2 first s).1=true
 ·rw [au c,jZ];exact LY c.symm rfl
 ·rw [ak c];exact LY (by simpa using c) rfl
def amE (R:aU) (first:Nat) (s:nR):(qN R first s).2.L=R.L:=by
 unfold qN;split
 ·split
  ·rfl
  ·exact Af _ _ _ _
 ·exact Af _ _ _ _
def amF (R:aU) (first:Nat) (s:nR):(qN R first s).2.told.length=R.told.length:=by
 unfold qN;split
 ·split
  ·rfl
  ·exact Z8 _ _ _ _
 ·exact Z8 _ _ _ _
def XZ (first:Nat): ∀ (a:List nR) (R:aU),(jZ first a R).2.L=R.L
 | [],R=>rfl
 | s :: a,R=>by
  rw [jZ];split
  ·rw [XZ first a,amE]
  ·exact amE _ _ _
def aiA (first:Nat): ∀ (a:List nR) (R:aU),(jZ first a R).2.told.length=R.told.length
 | [],R=>rfl
 | s :: a,R=>by
  rw [jZ];split
  ·rw [aiA first a,amF]
  ·exact amF _ _ _
def awr {R:aU} {first:Nat} {s:nR} (h:(qN R first s).1=true):6≤s.number%32768∧s.number%32768<R.L.length:=by
 unfold qN at h
 split at h
 ·split at h
  ·cases h
  ·exact JW h
 ·exact JW h
def Z7 {R:aU} {n kind at':Nat} (h:(tell R n kind at').1=false):(tell R n kind at').2.bad=(at':Int):=by
 unfold tell at h ⊢
 split at h
 ·rename_i a;rw [au a]
 ·cases h
def aeW {R:aU} {first:Nat} {s:nR} (h:(qN R first s).1=false):(qN R first s).2.bad=(s.table:Int):=by
 unfold qN at h ⊢
 by_cases e:s.table=first
 ·rw [au e] at h ⊢
  by_cases a:2≤s.index
  ·rw [au a]
  ·rw [ak a] at h ⊢;exact Z7 h
 ·rw [ak e] at h ⊢;exact Z7 h
def rO (f at':Nat) (R:aU):Bool × aU:=if (tell R f 1 at').1 then jZ f (jB R.L f 32 0) (tell R f 1 at').2 else (false,(tell R f 1 at').2)
def nY:List Nat→Nat→aU→Bool × aU
 | [],_,R=>(true,R)
 | f :: r,a,R=>if (rO f a R).1 then nY r 5 (rO f a R).2 else (false,(rO f a R).2)
def aix (x:Nat): ∀ (pre:List Nat) (a:Nat) (R:aU),(nY pre a R).1=true→nY (pre++[x]) a R=rO x (if pre.length=0 then a else 5) (nY pre a R).2
 | [],a,R,_=>by
  show (if (rO x a R).1 then (true,(rO x a R).2) else (false,(rO x a R).2))=rO x a R
  by_cases h:(rO x a R).1=true
  ·rw [au h];exact LY h.symm rfl
  ·rw [ak h];exact LY (by simpa using h) rfl
 | f :: pre,a,R,h=>by
  rw [rU,nY];rw [nY] at h ⊢
  by_cases c:(rO f a R).1=true
  ·rw [au c] at h ⊢;rw [au c,aix x pre 5 _ h]
   simp
  ·rw [ak c] at h;cases h
def aiw: ∀ (pre r:List Nat) (a:Nat) (R:aU),(nY pre a R).1=false→nY (pre++r) a R=nY pre a R
 | [],r,a,R,h=>by cases h
 | f :: pre,r,a,R,h=>by
  rw [rU,nY,nY];rw [nY] at h
  by_cases c:(rO f a R).1=true
  ·rw [au c] at h ⊢;rw [au c,aiw pre r 5 _ h]
  ·rw [ak c,ak c]
def afd (f a:Nat) (R:aU):(rO f a R).2.L=R.L:=by
 unfold rO;split
 ·rw [XZ,Af]
 ·exact Af _ _ _ _
def awR (f a:Nat) (R:aU):(rO f a R).2.told.length=R.told.length:=by
 unfold rO;split
 ·rw [aiA,Z8]
 ·exact Z8 _ _ _ _
def aiu: ∀ (fs:List Nat) (a:Nat) (R:aU),(nY fs a R).2.L=R.L
 | [],_,R=>rfl
 | f :: fs,a,R=>by
  rw [nY];split
  ·rw [aiu fs,afd]
  ·exact afd _ _ _
def ae6 (C:List aj) (first t:Nat) (c:t≠first): ∀ (m k:Nat) (R:aU),R.L=C→jZ first (oD C t m k) R=o8 t m k R
 | 0,_,_,_=>rfl
 | m+1,k,R,h=>by
  rw [oD,o8,h]
  by_cases h0:num (cl C t) (2*k)=0
  ·rw [au h0,au h0,qy];exact ae6 C first t c m (k+1) R h
  ·rw [ak h0,ak h0,Wy,jZ];have e:qN R first ⟨t,k,nm C t k⟩=tell R (num (cl C t) (2*k)%32768) 3 t:=by unfold qN;rw [ak c]
   rw [e]
   by_cases a:(tell R (num (cl C t) (2*k)%32768) 3 t).1=true
   ·rw [au a,au a];exact ae6 C first t c m (k+1) _ (by rw [Af];exact h)
   ·rw [ak a,ak a]
def amG {R:aU} {n kind at' f:Nat} (h:(tell R n kind at').1=true) (hk:kind≠1) (c:R.told.getD f 0=1):n≠f∧(tell R n kind at').2.told.getD f 0=1:=by
 unfold tell at h ⊢
 split at h
 ·cases h
 ·rename_i d;rw [ak d];have a:n≠f:=by
   rintro rfl;apply d;unfold Eh;rw [c]
   have:(1 != kind)=true:=by simp;omega
   simp [this]
  refine ⟨a,?_⟩;show (R.told.set n kind).getD f 0=1;rw [aN,List.getElem?_set_ne a,← aN];exact c
def ae8 {t f:Nat}: ∀ (m k:Nat) (R:aU),(o8 t m k R).1=true→R.told.getD f 0=1→(o8 t m k R).2.told.getD f 0=1
 | 0,_,_,_,a=>a
 | m+1,k,R,h,a=>by
  rw [o8] at h ⊢
  split at h
  ·rename_i h0;rw [au h0];exact ae8 m (k+1) R h a
  ·split at h
   ·rename_i h0 c;rw [ak h0,au c];exact ae8 m (k+1) _ h (amG c dc a).2
   ·cases h
def afa (C:List aj) (t:Nat): ∀ (m i:Nat) (R:aU),R.L=C→R.told.getD t 0=1→jZ t (jB C t m i) R=xW t m i R
 | 0,_,_,_,_=>rfl
 | m+1,i,R,h,d=>by
  rw [jB,xW,h]
  by_cases h0:num (cl C t) (2*i)=0
  ·rw [au h0,au h0,qy];exact afa C t m (i+1) R h d
  ·rw [ak h0,ak h0,rU,jZ]
   by_cases hi:1<i
   ·have e:qN R t ⟨t,i,nm C t i⟩=(false,{ R with bad:=(t:Int) }):=by unfold qN;rw [au rfl,au (show 2≤i by omega)]
    rw [e,au hi,← h];rfl
   ·have e:qN R t ⟨t,i,nm C t i⟩=tell R (num (cl C t) (2*i)%32768) 2 t:=by unfold qN;rw [au rfl,ak (show ¬ 2≤i by omega)]
    rw [e,ak hi]
    by_cases a:(tell R (num (cl C t) (2*i)%32768) 2 t).1=true
    ·obtain ⟨g,j⟩:=amG a dc d;have hL:(tell R (num (cl C t) (2*i)%32768) 2 t).2.L=C:=by rw [Af];exact h
     rw [au a,au a,Uw,ae6 C t _ g 32 0 _ hL]
     by_cases c:(o8 (num (cl C t) (2*i)%32768) 32 0 (tell R (num (cl C t) (2*i)%32768) 2 t).2).1=true
     ·rw [au c,au c];exact afa C t m (i+1) _ (by rw [Wi];exact hL) (ae8 32 0 _ c j)
     ·rw [ak c,ak c]
    ·rw [ak a,ak a]
def awv {R:aU} {n at':Nat} (h:(tell R n 1 at').1=true) (hn:n<R.told.length):(tell R n 1 at').2.told.getD n 0=1:=by
 unfold tell at h ⊢
 split at h
 ·cases h
 ·rename_i a;rw [ak a];show (R.told.set n 1).getD n 0=1;rw [X6 _ _ _ _ hn,au rfl]
def amQ (R:aU) (r:bI) (hL:R.L.length≤R.told.length):rO r.N r.At R=tree R r:=by
 unfold rO tree
 by_cases h:(tell R r.N 1 r.At).1=true
 ·rw [au h,au h];exact afa R.L r.N 32 0 _ (Af _ _ _ _) (awv h (by have:=(JW h).2;omega))
 ·rw [ak h,ak h]
def awV (R:aU) (r:bI):(tree R r).2.roots=R.roots:=by
 unfold tree;split
 ·have key: ∀ m i (R:aU),(xW r.N m i R).2.roots=R.roots:=by
   intro m
   induction m with
   | zero=>intro i R;rfl
   | succ m ih=>
    intro i R;rw [xW];split
    ·exact ih _ _
    ·split
     ·rfl
     ·split
      ·split
       ·rw [ih,aaf,NP]
       ·rw [aaf,NP]
      ·exact NP _ _ _ _
  rw [key,NP]
 ·exact NP _ _ _ _
def aqN (rs:List bI) (a:Nat): ∀ (m i:Nat) (R:aU),i+m=rs.length→R.roots=rs→R.L.length≤R.told.length→(∀ j,i≤j→j<rs.length→(rs.getD j ⟨0,0,[]⟩).At=if j=i then a else 5)→
  nY ((rs.drop i).map (·.N)) a R=BU m i R:=by
 intro m
 induction m generalizing a with
 | zero=>intro i R h hr c g;rw [WC om];rfl
 | succ m ih=>
  intro i R h hr c g;have hi:i<rs.length:=om;have l:rs.getD i ⟨0,0,[]⟩=rs[i]:=by rw [aN,bJ hi];rfl
  have o:rootOf R i=rs[i]:=by unfold rootOf;rw [hr,l]
  have k:=g i (aO _) hi;rw [au rfl,l] at k;rw [LU hi,jU,nY,BU,o];have e:=amQ R rs[i] c;rw [k] at e;rw [e]
  by_cases d:(tree R rs[i]).1=true
  ·rw [au d,au d];refine ih 5 (i+1) _ om (by rw [awV];exact hr) ?_ (fun j q p=> ?_)
   ·rw [← amQ R rs[i] c,afd,awR];exact c
   ·rw [g j om p,ak om]
    split <;> rfl
  ·rw [ak d,ak d]
def Told.back {L:List aj} {rs:List bI} {b:Int} {base:Nat→Nat} {d:xu} {R:aU} (h:Told L rs b base d R) (ok:xq L d) {n kind at':Nat} (hk:kind≠0) (j:(tell R n kind at').1=true):xq L (d++[(n,kind)]):=by
 obtain ⟨o,hn⟩:=JW j;rw [h.hL] at hn;have a:Eh R n kind=false:=by
  unfold tell at j
  split at j
  ·cases j
  ·rename_i p;simpa using p
 unfold Eh at a;rw [Cm,Cm] at a;have a:=a.2.2;have k: ∀ x ∈ d,x.1=n→x.2=kind∧kind≠1:=by
  intro x c e;have l:=h.told x c;have q:=(ok.lo x c).2.2;rw [e] at l;rw [l] at a;have r:(x.2 != 0)=true:=by simpa using q
  rw [r,um,Cm] at a;exact ⟨by simpa using a.1,by simpa using a.2⟩
 refine ⟨fun x c=> ?_,fun x c y s e=> ?_,fun m=> ?_⟩
 ·rcases fK.1 c with y | y
  ·exact ok.lo x y
  ·rw [iP.1 y];exact ⟨o,hn,hk⟩
 ·rcases fK.1 c with g | g <;> rcases fK.1 s with i | i
  ·exact ok.kind x g y i e
  ·rw [iP.1 i] at e ⊢;exact (k x g e).1
  ·rw [iP.1 g] at e ⊢;exact (k y i e.symm).1.symm
  ·rw [iP.1 g,iP.1 i]
 ·rw [Jj]
  by_cases e:(n,kind)=(m,1)
  ·rw [e];have t:n=m:=by injection e
   have u:kind=1:=by injection e
   have:d.count (m,1)=0:=by
    rw [H8];intro hm;exact (k (m,1) hm t.symm).2 u
   rw [this];simp
  ·have:=ok.once m
   rw [List.count_singleton]
   have:((n,kind) == (m,1))=false:=by simpa using e
   rw [this];simpa using ok.once m
section
variable {L:List aj} {rs:List bI} {b:Int} {base:Nat→Nat}
def ae5 (d:L.length≤256) (t:Nat): ∀ (m k:Nat) (c:xu) (R:aU),Told L rs b base c R→xq L c→(o8 t m k R).1=true→xq L (c++uF L t m k)
 | 0,_,c,R,_,ok,_=>by rw [uF,sN];exact ok
 | m+1,k,c,R,h,ok,a=>by
  rw [o8,h.hL] at a;rw [uF]
  by_cases h0:num (cl L t) (2*k)=0
  ·rw [au h0] at a ⊢;rw [qy];exact ae5 d t m (k+1) c R h ok a
  ·rw [ak h0] at a ⊢
   by_cases e:(tell R (num (cl L t) (2*k)%32768) 3 t).1=true
   ·rw [au e] at a;have g:=h.back ok dc e;obtain ⟨_,i⟩:=h.step d _ 3 t g;rw [← tV];exact ae5 d t m (k+1) _ _ i g a
   ·rw [ak e] at a;cases a
def ae9 (g:L.length≤256) (t:Nat): ∀ (m i:Nat) (c:xu) (R:aU),Told L rs b base c R→xq L c→(xW t m i R).1=true→
  xq L (c++uS L t m i)∧(∀ j,i≤j→j<i+m→1<j→num (cl L t) (2*j)=0)∧Told L rs b base (c++uS L t m i) (xW t m i R).2
 | 0,_,c,R,h,ok,_=>by rw [uS,sN];exact ⟨ok,fun j r d=>om,h⟩
 | m+1,i,c,R,h,ok,a=>by
  rw [xW,h.hL] at a ⊢;rw [uS]
  by_cases h0:num (cl L t) (2*i)=0
  ·rw [au h0] at a ⊢;rw [qy,au h0];obtain ⟨r,d,k⟩:=ae9 g t m (i+1) c R h ok a;refine ⟨r,fun j s u l=> ?_,k⟩
   by_cases e:j=i
   ·rw [e];exact h0
   ·exact d j om om l
  ·rw [ak h0] at a ⊢;rw [ak h0]
   by_cases hi:1<i
   ·rw [au hi] at a;cases a
   ·rw [ak hi] at a ⊢
    by_cases d:(tell R (num (cl L t) (2*i)%32768) 2 t).1=true
    ·rw [au d] at a ⊢;have p:=h.back ok dc d;obtain ⟨_,k⟩:=h.step g _ 2 t p
     by_cases o:(o8 (num (cl L t) (2*i)%32768) 32 0 (tell R (num (cl L t) (2*i)%32768) 2 t).2).1=true
     ·rw [au o] at a ⊢;have q:=ae5 g _ 32 0 _ _ k p o;obtain ⟨_,v⟩:=aag g _ 32 0 _ _ k q;obtain ⟨w,x,y⟩:=ae9 g t m (i+1) _ _ v q a;have e:c++((num (cl L t) (2*i)%32768,2) :: uF L (num (cl L t) (2*i)%32768) 32 0++uS L t m (i+1))=((c++[(num (cl L t) (2*i)%32768,2)])++uF L (num (cl L t) (2*i)%32768) 32 0)++uS L t m (i+1):=sm;rw [e];exact ⟨w,fun j s u l=>x j om om l,y⟩
     ·rw [ak o] at a;cases a
    ·rw [ak d] at a;cases a
def awT (i:L.length≤256) (r:bI) (a:xu) (R:aU) (h:Told L rs b base a R) (ok:xq L a) (c:(tree R r).1=true):
  xq L (a++xX L r.N)∧(∀ j,1<j→j<32→num (cl L r.N) (2*j)=0)∧Told L rs b base (a++xX L r.N) (tree R r).2:=by
 unfold tree at c ⊢
 by_cases d:(tell R r.N 1 r.At).1=true
 ·rw [au d] at c ⊢;have g:=h.back ok dc d;obtain ⟨_,k⟩:=h.step i _ 1 r.At g;obtain ⟨l,m,o⟩:=ae9 i r.N 32 0 _ _ k g c;have e:a++xX L r.N=(a++[(r.N,1)])++uS L r.N 32 0:=by rw [xX];simp
  rw [e];exact ⟨l,fun j p q=>m j om om p,o⟩
 ·rw [ak d] at c;cases c
def amS (g:L.length≤256): ∀ (m i:Nat) (a:xu) (R:aU),i+m≤rs.length→Told L rs b base a R→xq L a→(BU m i R).1=true→
  xq L (a++l7 L rs m i)∧(∀ j,i≤j→j<i+m→ ∀ k,1<k→k<32→num (cl L (rs.getD j ⟨0,0,[]⟩).N) (2*k)=0)∧Told L rs b base (a++l7 L rs m i) (BU m i R).2
 | 0,_,a,R,_,h,ok,_=>by rw [l7,sN];exact ⟨ok,fun j d l=>om,h⟩
 | m+1,i,a,R,hm,h,ok,c=>by
  have hr:rootOf R i=rs.getD i ⟨0,0,[]⟩:=by unfold rootOf;rw [h.hR]
  rw [BU,hr] at c ⊢
  by_cases d:(tree R (rs.getD i ⟨0,0,[]⟩)).1=true
  ·rw [au d] at c ⊢;obtain ⟨l,o,p⟩:=awT g _ a R h ok d;obtain ⟨q,r,s⟩:=amS g m (i+1) _ _ om p l c;rw [l7,← tV];refine ⟨q,fun j t u=> ?_,s⟩
   by_cases e:j=i
   ·rw [e];exact o
   ·exact r j om om
  ·rw [ak d] at c;cases c
end
def Iz (E:List aW) (i:Nat):Bool:=nZ (E.getD i ze).name && decide (rY E (bM (E.getD i ze).name)=(i:Int))
def KN (E:List aW) (i:Nat):Bool:=decide (bM (E.getD i ze).name=bM []) && decide ((E.getD i ze).first=0)
def yu (p:Nat→Bool):Nat→Nat→Bool
 | 0,_=>true
 | m+1,k=>p k && yu p m (k+1)
def MP (p:Nat→Bool): ∀ m k,yu p m k=true↔ ∀ j,k≤j→j<k+m→p j=true
 | 0,k=>⟨fun _ j a c=>om,fun _=>rfl⟩
 | m+1,k=>by
  rw [yu,wI,MP p m (k+1)];constructor
  ·rintro ⟨a,c⟩ j d g
   by_cases e:j=k
   ·rw [e];exact a
   ·exact c j om om
  ·intro h;exact ⟨h k om om,fun j a c=>h j om om⟩
def abw (p:Nat→Bool): ∀ m k,yu p (m+1) k=(yu p m k && p (k+m))
 | 0,k=>by rw [yu,yu,yu,aaz,um,jW]
 | m+1,k=>by
  rw [yu,abw p m (k+1),yu,Bool.and_assoc,show k+1+m=k+(m+1) by omega]
def xK (c:aj):Bool:=decide (mJ (aZ c) 4=c) && (yu (Iz (aZ c)) (lenOf (aZ c)) 0 && yu (KN (aZ c)) (4 - lenOf (aZ c)) (lenOf (aZ c)))
def aej {c:aj}: ∀ m i,vN c m i=true→ ∀ j,i≤j→j<i+m→aI c j=0
 | 0,_,_,j,a,d=>om
 | m+1,i,h,j,a,d=>by
  rw [vN] at h
  split at h
  ·rename_i h0
   by_cases e:j=i
   ·rw [e];exact h0
   ·exact aej m (i+1) h j om om
  ·cases h
def adR {c:aj} (i:Nat):num c i / 256=aI c i∧num c i%256=aI c (i+1):=by
 have a:=uy c i;have d:=uy c (i+1);unfold num;omega
def UN (c:aj):Bool:=decide (fG (num c 4) (num c 6)=c)
def acT {c:aj} (hc:c.length=64):UN c=(decide (c.take 4=zO) && vN c 56 8):=by
 have j:=iK c 4;have k:=iK c 6;unfold UN;rw [WQ,DI,wI,DI];constructor
 ·intro h;constructor
  ·have:=ai7 (a:=num c 4) (b:=num c 6)
   rw [h] at this;exact this
  ·have:=ai5 j k
   rw [h] at this;exact this
 ·rintro ⟨r,s⟩;have l:(fG (num c 4) (num c 6)).length=64:=JC _ _;refine abO (by rw [l,hc]) fun m hm=> ?_;rw [l] at hm;rw [QH j k];have o:=adR (c:=c) 4;have p:=adR (c:=c) 6
  by_cases d:m=6
  ·rw [au d,d];exact p.1
  rw [ak d]
  by_cases e:m=7
  ·rw [au e,e];exact p.2
  rw [ak e]
  by_cases g:m=4
  ·rw [au g,g];exact o.1
  rw [ak g]
  by_cases i:m=5
  ·rw [au i,i];exact o.2
  rw [ak i]
  by_cases q:8≤m
  ·rw [aej 56 8 s m q om];exact ai3 ⟨m,hm⟩ q
  ·have t:aI c m=aI (c.take 4) m:=by
    unfold aI;rw [aN,aN,S9 om]
   rw [t,r];unfold aI acS;rw [aN,aN,nV (by simp [zO];omega)]
def adK (c:aj) (a:Nat): ∀ m i over acc s,Aa c a m i over acc=some s→
  ∃ r,s=acc++r∧(over=true→r=[])∧r.length≤m∧(∀ b ∈ r,b≠0)∧ ∀ j,j<m→c.getD (a+(i+j)) 0=r.getD j 0
 | 0,i,over,acc,s,h=>by
  rw [Aa] at h;injection h with h;exact ⟨[],by simp [h],fun _=>rfl,aO _,sm,fun j hj=>om⟩
 | m+1,i,over,acc,s,h=>by
  rw [Aa] at h
  by_cases h0:aI c (a+i)=0
  ·rw [au h0] at h;obtain ⟨r,d,l,p,o,g⟩:=adK c a m (i+1) true acc s h;have q:=l rfl;subst q;refine ⟨[],d,fun _=>rfl,lX _,sm,fun j hj=> ?_⟩;cases j with
   | zero=>
    unfold aI at h0;rw [jW];exact Qk.1 (by simpa using h0)
   | succ j=>
    have:=g j om
    rw [show a+(i+1+j)=a+(i+(j+1)) by omega] at this;rw [this];rfl
  ·rw [ak h0] at h;cases over with
   | true=>rw [au rfl] at h;cases h
   | false=>
    rw [ak dc] at h;obtain ⟨r,d,l,p,o,g⟩:=adK c a m (i+1) false _ s h;refine ⟨c.getD (a+i) 0 :: r,by rw [d];simp,fun e=>(by cases e),by simp;omega,fun b k=> ?_,fun j hj=> ?_⟩
    ·rcases cO.1 k with rfl | k
     ·intro e;apply h0;unfold aI;rw [e];rfl
     ·exact o b k
    ·cases j with
     | zero=>rw [jW];rfl
     | succ j=>
      have:=g j om
      rw [show a+(i+1+j)=a+(i+(j+1)) by omega] at this;rw [this];rfl
def asP {c:aj} {a:Nat} (h:(nameOf c a).2=true):nZ (nameOf c a).1=true∧ ∀ j,j<12→c.getD (a+j) 0=(nameOf c a).1.getD j 0:=by
 unfold nameOf at h ⊢;cases hn:Aa c a 12 0 false [] with
 | none=>rw [hn] at h;cases h
 | some s=>
  rw [hn] at h;obtain ⟨r,d,_,_,_,e⟩:=adK c a 12 0 false [] s hn;rw [qy] at d;subst d;refine ⟨h,fun j hj=> ?_⟩
  have:=e j hj
  rw [rE] at this;exact this
def akE {Q:List bI} {s:List UInt8}: ∀ m k,Dq Q s m k=false→ ∀ j,k≤j→j<k+m→(Q.getD j ⟨0,0,[]⟩).name≠s
 | 0,_,_,j,a,c=>om
 | m+1,k,h,j,a,c=>by
  rw [Dq] at h
  split at h
  ·cases h
  ·rename_i h0
   by_cases e:j=k
   ·rw [e];exact h0
   ·exact akE m (k+1) h j om om
def aqr {c:aj} {i:Nat} {s:List UInt8} (hs:s.length≤12) (k: ∀ j,j<12→c.getD (16*i+2+j) 0=s.getD j 0) (g:aI c (16*i+14)=0) (h:aI c (16*i+15)=0): ∀ j,j<16→aI c (16*i+j)=aI (zV ⟨s,num c (16*i)⟩) j:=by
 intro j hj;have d:=adR (c:=c) (16*i);rw [abM _ (iK _ _)]
 by_cases a:j=0
 ·rw [au a,a];exact d.1.symm
 rw [ak a]
 by_cases e:j=1
 ·rw [au e,e];exact d.2.symm
 rw [ak e]
 by_cases m:j<14
 ·have:=k (j - 2) om
  rw [show 16*i+2+(j - 2)=16*i+j by omega] at this;unfold aI;rw [this]
 ·have l:aI s (j - 2)=0:=by
   unfold aI;rw [aN,eG om];rfl
  show aI c (16*i+j)=aI s (j - 2);rw [l]
  have:j=14∨j=15:=om
  rcases this with rfl | rfl
  ·exact g
  ·exact h
def apj (j:Nat):aI (zV ze) j=0:=by
 rw [abM _ dc]
 by_cases a:j=0
 ·rw [au a];rfl
 rw [ak a]
 by_cases c:j=1
 ·rw [au c];rfl
 rw [ak c];rfl
def adl (c:aj) (r0:bI): ∀ m i over (d:List aW) l,i+m=4→(over=false→d.length=i)→d.length≤i→iZ d→(∀ k,k<i→ ∀ j,j<16→aI c (16*k+j)=aI (zV (d.getD k ze)) j)→
  qX c m i over (r0 :: d.map lU)=(true,l)→ ∃ E,iZ E∧l=r0 :: E.map lU∧ ∀ k,k<4→ ∀ j,j<16→aI c (16*k+j)=aI (zV (E.getD k ze)) j
 | 0,i,over,d,l,z,_,_,p,r,h=>by
  rw [qX] at h;injection h with _ h;exact ⟨d,p,h.symm,fun k hk=>r k om⟩
 | m+1,i,over,d,l,z,A,hle,p,r,h=>by
  rw [qX] at h
  by_cases h0:num c (16*i)=0
  ·rw [au h0] at h
   by_cases s:vN c 16 (16*i)=true
   ·rw [au s] at h;refine adl c r0 m (i+1) true d l om (fun e=>by cases e) om p (fun k hk j hj=> ?_) h
    by_cases e:k=i
    ·subst e;rw [aej 16 (16*k) s (16*k+j) om om,aN,eG hle];exact (apj j).symm
    ·exact r k om j hj
   ·rw [ak s] at h;cases h
  ·rw [ak h0] at h
   by_cases g:MX c i over=true
   ·rw [au g] at h;cases h
   ·rw [ak g] at h;have g:MX c i over=false:=by simpa using g
    unfold MX at g;rw [Cm,Cm,Cm] at g;obtain ⟨G,hn,B,C⟩:=g;have hn:(nameOf c (16*i+2)).2=true:=by simpa using hn
    obtain ⟨n1,H⟩:=asP hn;have K:=A G
    by_cases o:Dq (r0 :: d.map lU) (nameOf c (16*i+2)).1 ((r0 :: d.map lU).length - 1) 1=true
    ·rw [au o] at h;cases h
    ·rw [ak o] at h;have o:Dq (r0 :: d.map lU) (nameOf c (16*i+2)).1 ((r0 :: d.map lU).length - 1) 1=false:=by simpa using o
     have w:=akE _ _ o;generalize nameOf c (16*i+2)=v at*;have e:(r0 :: d.map lU)++[⟨num c (16*i),5,v.1⟩]=r0 :: (d++[(⟨v.1,num c (16*i)⟩:aW)]).map lU:=by simp [lU]
     rw [e] at h;refine adl c r0 m (i+1) over _ l om (fun _=>by simp;omega) (by simp;omega) ⟨by simp;omega,?_,?_⟩ ?_ h
     ·intro x t;rcases fK.1 t with y | y
      ·exact p.all x y
      ·rw [iP.1 y];exact ⟨n1,h0,iK _ _⟩
     ·rw [rQ,afw];refine ⟨p.nodup,sm,fun a I b u=> ?_⟩;simp only [jU,LQ,iP] at u;rw [u];obtain ⟨x,t,rfl⟩:=gY.1 I;obtain ⟨q,J,F⟩:=Tf t
      have:=w (q+1) om (by simp;omega)
      rw [J5,aN,jK,bJ J] at this;rw [← F];exact this
     ·intro k hk j hj
      by_cases e:k=i
      ·subst e;rw [aN,nP om,show k - d.length=0 by omega];exact aqr (adL n1).2 H (by simpa using B) (by simpa using C) j hj
      ·rw [aN,nV om,← aN];exact r k om j hj
def iZ.nil:iZ []:=⟨sm,sm,sm⟩
def iZ.apm {c:aj} {E:List aW} (h:iZ E) (hc:c.length=64) (e: ∀ k,k<4→ ∀ j,j<16→aI c (16*k+j)=aI (zV (E.getD k ze)) j):c=og E:=by
 refine abO (by rw [h.length,hc]) fun i hi=> ?_;have a:=e (i / 16) om (i%16) om;rw [show 16*(i / 16)+i%16=i by omega] at a;have d:=h.get (i / 16) om (i%16) om;rw [show 16*(i / 16)+i%16=i by omega] at d;rw [a];unfold aI;rw [d]
 by_cases hk:i / 16<E.length
 ·rw [Ej _ hk]
 ·rw [RJ _ om,aN (l:=E),eG om];rfl
def asi {c:aj} (hc:c.length=64) {r0:bI} (h:(qX c 4 0 false [r0]).1=true): ∃ E,iZ E∧c=og E∧(qX c 4 0 false [r0]).2=r0 :: E.map lU:=by
 obtain ⟨E,a,d,e⟩:=adl c r0 4 0 false [] (qX c 4 0 false [r0]).2 rfl (fun _=>rfl) (aO _) iZ.nil (fun k hk=>om) (LY h rfl);exact ⟨E,a,a.apm hc e,d⟩
def aib (E:List aW) (s:ByteArray) (i:Nat): ∀ m k,yD E s m k=(i:Int)→k≤i∧i<k+m∧bM (E.getD i ze).name=s∧ ∀ j,k≤j→j<i→bM (E.getD j ze).name≠s
 | 0,k,h=>by rw [yD] at h;omega
 | m+1,k,h=>by
  rw [yD] at h
  split at h
  ·rename_i h0
   have:k=i:=om
   subst this;exact ⟨aO _,om,h0,fun j a c=>om⟩
  ·rename_i h0;obtain ⟨a,c,d,g⟩:=aib E s i m (k+1) h;refine ⟨om,om,d,fun j o l=> ?_⟩
   by_cases e:j=k
   ·rw [e];exact h0
   ·exact g j om l
def aia (E:List aW) (s:ByteArray) (i:Nat) (h:bM (E.getD i ze).name=s): ∀ m k,k≤i→i<k+m→(∀ j,k≤j→j<i→bM (E.getD j ze).name≠s)→yD E s m k=(i:Int)
 | 0,k,c,d,_=>om
 | m+1,k,c,d,a=>by
  rw [yD]
  by_cases e:k=i
  ·subst e;rw [au h]
  ·rw [ak (a k om om)];exact aia E s i h m (k+1) om om (fun j l g=>a j om g)
def ajP (E:List aW): ∀ m k,∀ j,k≤j→j<Dk E m k→(E.getD j ze).first≠0
 | 0,k,j,c,a=>by rw [Dk] at a;omega
 | m+1,k,j,c,a=>by
  rw [Dk] at a
  split at a
  ·omega
  ·rename_i h0
   by_cases e:j=k
   ·rw [e];exact h0
   ·exact ajP E m (k+1) j om a
def ajW {c:aj} (hc:c.length=64):xK c=true↔ ∃ E,iZ E∧c=og E:=by
 constructor
 ·intro h;unfold xK at h;rw [wI,wI,DI,MP,MP] at h;obtain ⟨w,s,x⟩:=h;have y:=Ea c;have A:=AQ (aZ c);have v: ∀ k,((aZ c).getD k ze).first<65536:=by
   intro k;rw [aN]
   by_cases hk:k<4
   ·unfold aZ;rw [jK,yR hk];exact iK _ _
   ·rw [eG om];decide
  have m:=ajP (aZ c) 4 0;change ∀ j,0≤j→j<lenOf (aZ c)→_ at m;generalize aZ c=E at*;generalize hn:lenOf E=n at*;have a:E=jy (E.take n):=by
   unfold jy;rw [List.length_take_of_le om];apply uY;intro j
   by_cases hj:j<n
   ·rw [nV (by simp;omega),S9 hj]
   ·rw [nP (by simp;omega),List.length_take_of_le om,rG]
    by_cases z:j<4
    ·rw [au om,bJ om]
     have:=x j om om
     unfold KN at this;rw [aN,bJ om] at this;simp only [LZ,wI,DI] at this;have t:=amV this.1
     congr 1
     have u:=this.2;show E[j]=ze;generalize E[j]=p at*;cases p;simp only at t u;subst t u;rfl
    ·rw [ak om,eG om]
  have o:iZ (E.take n):=by
   have d: ∀ j (hj:j<(E.take n).length),(E.take n)[j]=E.getD j ze:=by
    intro j hj;rw [List.getElem_take,aN,bJ];rfl
   refine ⟨by simp;omega,fun e he=> ?_,?_⟩
   ·obtain ⟨j,hj,rfl⟩:=Tf he;rw [d j hj];have q:j<n:=by simp at hj;omega
    have:=s j om om
    unfold Iz at this;rw [wI] at this;exact ⟨this.1,m j om q,v j⟩
   ·rw [afp,afq,afr];intro i j hi hj g e;rw [d i hi,d j hj] at e;have q:j<n:=by simp at hj;omega
    have:=s j om om
    unfold Iz at this;rw [wI,DI] at this;exact (aib E _ j _ _ this.2).2.2.2 i om g (by rw [e])
  refine ⟨E.take n,o,?_⟩;rw [← o.Uh,← a];exact w.symm
 ·rintro ⟨E,a,rfl⟩;unfold xK;rw [a.aZ,a.Uh,a.lenOf,dZ rfl,um,wI,MP,MP];have B:=a.len;refine ⟨fun j _ hj=> ?_,fun j hj _=> ?_⟩
  ·rw [rE] at hj;have l: ∀ i,i<E.length→(jy E).getD i ze=E.getD i ze:=fun i hi=>Ej i hi;have hm:E.getD j ze ∈ E:=by
    rw [aN,bJ hj];exact o9 hj
   unfold Iz;rw [wI,DI,l j hj];refine ⟨(a.all _ hm).name,?_⟩;unfold rY;rw [a.lenOf];refine aia _ _ j (by rw [l j hj]) _ _ (lX _) om (fun i _ g e=> ?_);rw [l i om] at e;have r:=a.nodup;rw [afp,afq,afr] at r;refine r i j om hj g ?_
   have:=amV e
   rw [aN,aN,bJ hj,bJ om] at this;exact this
  ·unfold KN;rw [RJ j hj];rfl
def asj {c:aj} (hc:c.length=64) (r0:bI):xK c=(qX c 4 0 false [r0]).1:=by
 rw [WQ,ajW hc];constructor
 ·rintro ⟨E,a,rfl⟩
  have:=a.qX r0 4 0 rfl (lX _)
  rw [List.take_zero,LQ] at this;rw [this]
 ·intro h;obtain ⟨E,d,e,_⟩:=asi hc h;exact ⟨E,d,e⟩
end Go.Proofs.YtknjjjenklfeoaaGreatDoor
