import Derived.Test.YtknjjjenklfeoaaGreatDoorU04
import Derived.Lib.ConvBytes
set_option maxHeartbeats 8000000
set_option maxRecDepth 100000
set_option linter.all false
namespace Go.Proofs.YtknjjjenklfeoaaGreatDoor
open Go.RowKit
section
attribute [local go_sem ↓] dw fP fV
attribute [local go_sem] dM fO fU gW gB aV
def NR (l:List UInt8):(bM l).toList=l:=by rw [ByteArray.toList_eq];rfl
def Dq (Q:List bI) (s:List UInt8):Nat→Nat→Bool
 | 0,_=>false
 | m+1,k=>if (Q.getD k ⟨0,0,[]⟩).name=s then true else Dq Q s m (k+1)
def MX (c:aj) (i:Nat) (over:Bool):Bool:=over || (!(nameOf c (16*i+2)).2 || (aI c (16*i+14) != 0 || aI c (16*i+15) != 0))
def qX (c:aj):Nat→Nat→Bool→List bI→Bool × List bI
 | 0,_,_,Q=>(true,Q)
 | m+1,i,over,Q=>
  if num c (16*i)=0 then (if vN c 16 (16*i) then qX c m (i+1) true Q else (false,Q))
  else if MX c i over then (false,Q)
  else if Dq Q (nameOf c (16*i+2)).1 (Q.length - 1) 1 then (false,Q)
  else qX c m (i+1) over (Q++[⟨num c (16*i),5,(nameOf c (16*i+2)).1⟩])
def ji (R:aU):Bool × List bI:=qX (cl R.L 5) 4 0 false R.roots
structure Ot (w0 w':World) (f:Nat) (Lv Rv wu:Value) (R:aU) (Q:List bI) (c:aj) (bx:Nat):Prop where
 at':bY w' f Lv wu { R with roots:=Q }
 kept:Kept (fun k=>k=f∨Rv.ownBlock=some k) w0 w'
 box:w'.heap[bx]? = some (.cells (cv c).toArray 38 (0,0))
 own: ∀ g,wu.ownBlock=some g→Rv.ownBlock=some g∨bx<g
def Ot.later {e a g:World} {f:Nat} {Lv i j:Value} {R:aU} {Q:List bI} {c:aj} {k:Nat} (h:Ot e a f Lv i j R Q c k) (d:Below a.heap.size a g):Ot e g f Lv i j R Q c k:=
 ⟨h.at'.below d,h.kept.trans (Kept.dQ d),(d.block _ (aK h.box)).trans h.box,h.own⟩
def asq {w wr l:World} {f g5 cap5:Nat} {Lv m i:Value} {R:aU} {Q:List bI} {r:bI} {c:aj} {X:Obj} (a:Ot w wr f Lv m i R Q c w.heap.size) (o: ∀ g,m.ownBlock=some g→g<w.heap.size) (u:f<w.heap.size)
  (n:l.ownsRow 0 132 3 (.slice (some ⟨g5,0,none⟩) (Q.length+1) cap5) (Q.length+1) (Q.flatMap iE++iE r)) (j:(wr.alloc X).grownBy l i.ownBlock) (q:i.ownBlock=some g5∨g5=wr.heap.size+1):
  Ot w (l.setCell ⟨f,1,none⟩ (.slice (some ⟨g5,0,none⟩) (Q.length+1) cap5)) f Lv m (.slice (some ⟨g5,0,none⟩) (Q.length+1) cap5) R (Q++[r]) c w.heap.size:=by
 have t:bY (wr.alloc X) f Lv i { R with roots:=Q }:=a.at'.below (fC);have hs:=a.kept.size;have s:=aK a.box;refine ⟨t.aiI j (Q:=Q++[r]) (by simpa using n),?_,?_,?_⟩
 ·refine ((a.kept.alloc X).grown j (fun g d=> ?_)).setCell (p:=⟨f,1,none⟩) (aA (aA rfl)) _;rcases a.own g d with x | x
  ·exact aA (ay x)
  ·exact ay om
 ·rw [Tv _ _ _ _ (by show w.heap.size≠f;omega)];refine qW j ((jX _ _ _ s).trans a.box) (fun k hk e=> ?_);rcases a.own k hk with x | x
  ·have:=o k x;omega
  ·omega
 ·intro g d;simp only [Value.ownBlock,jH] at d;subst d;rcases q with h | h
  ·exact a.own _ h
  ·exact ay om
def aso (w:World) (f:Nat) (Lv y:Value) (R:aU) (h:bY w f Lv y R) (a9:6≤R.L.length) (ba:R.roots.length=1):
  Calls Tryz.prog 75 #[.pointer (some ⟨f,0,none⟩)] w fun e z=>
   e= .returned (.bool (ji R).1)∧ ∃ o,bY z f Lv o { R with roots:=(ji R).2 }∧Kept (fun k=>k=f∨y.ownBlock=some k) w z∧(∀ g,o.ownBlock=some g→y.ownBlock=some g∨w.heap.size≤g):=by
 obtain ⟨g,cap,rfl,hc⟩:=gy h.fJ om;have C:=oQ h.fJ h.lens 5 om;have D:=oP h.fJ h.lens 5 om;have B:=je h.lens (k:=5) om;have c0:=h.vF;have bb:(5:Int)<(R.L.length:Int):=om;have ax:f<w.heap.size:=h.lt;have g0:Ot w (w.alloc (.cells (cv (cl R.L 5)).toArray 38)) f (.slice (some ⟨g,0,none⟩) R.L.length cap) y y R R.roots (cl R.L 5) w.heap.size:=
  ⟨h.below (fC),(Kept.refl _ _).alloc _,aX _ _,fun g d=>aA d⟩
 have hT:ji R=qX (cl R.L 5) 4 0 false R.roots:=rfl;have HT:=ah hT;have G0:=ah g0;clear hT g0;have Y: ∀ g,y.ownBlock=some g→g<w.heap.size:=fun g d=>(h.pG.lt g d).2;have az:=ah Y;clear Y;generalize cl R.L 5=c at*;have Z:5*64=320:=rfl;rw [Z] at C D;clear Z
 go_enter Tryz.func75,Tryz.ntmps75
 go_wp2;generalize w.alloc (.cells (cv c).toArray 38)=W at*;obtain ⟨i1,aD,aE,aL,aM⟩:=qw Tryz.ajB;clear c0 C D
 go_loopw [4,5] (fun ov i z=> ∃ (k:Nat) (over:Bool) (Q:List bI) (o:Value),k≤4∧1≤Q.length∧Q.length≤1+k∧i= .int .i64 k∧ov= .bool over∧Ot w z f (.slice (some ⟨g,0,none⟩) R.L.length cap) y o R Q c w.heap.size∧ji R=qX c (4 - k) k over Q) (fun _ i _=>4 - (intOf i).toNat)
 case atStart=>exact ⟨0,false,R.roots,y,om,om,om,rfl,rfl,uh G0,uh HT⟩
 case round=>
  obtain ⟨k,over,Q,o,hk,aR,hQ,rfl,rfl,d,he⟩:=hrel;have K:=ah he;clear he HT G0
  by_cases bd:k<4
  ·have C:=iD d.box B;have D:=iC d.box B;have S:=ah (FD c (16*(k:Int)) wr B om om);rw [show (16*(k:Int)).toNat=16*k by omega] at S;have bf:=iK c (16*k);have r:ji R=if num c (16*k)=0 then (if vN c 16 (16*k) then qX c (4 - (k+1)) (k+1) true Q else (false,Q))
     else if MX c k over then (false,Q)
     else if Dq Q (nameOf c (16*k+2)).1 (Q.length - 1) 1 then (false,Q)
     else qX c (4 - (k+1)) (k+1) over (Q++[⟨num c (16*k),5,(nameOf c (16*k+2)).1⟩]):=by
    rw [uh K,show 4 - k=(4 - (k+1))+1 by omega,qX]
   have j:=ah r;have F:=ah d;clear r K d;generalize num c (16*k)=n at*
   go_wp2_with fail
   refine S.mono ?_;rintro e w1 ⟨rfl,ab⟩;have s:=ah (F.later ab);clear S ab F C D
   by_cases ad:n=0
   ·subst ad;rw [au rfl] at j;generalize ae:vN c 16 (16*k)=rz at j;have af:=ah ae;clear ae;go_wp2
    go_loopw [8] (fun i z=> ∃ m:Nat,m≤16∧i= .int .i64 m∧z=w1∧vN c (16 - m) (16*k+m)=rz) (fun i _=>16 - (intOf i).toNat)
    case atStart=>exact ⟨0,om,rfl,rfl,uh af⟩
    case round=>
     obtain ⟨m,hm,rfl,rfl,I⟩:=hrel;have A:=ah I;clear I af
     by_cases X:m<16
     ·have cb:=MR s.box (16*k+m) om;have bl:=uy c (16*k+m);have G:(if aI c (16*k+m)=0 then vN c (16 - (m+1)) (16*k+m+1) else false)=rz:=by
       rw [← uh A,show 16 - m=(16 - (m+1))+1 by omega,vN]
      have u:=ah G;clear G A;have a0:(16:Int)*(k:Int)+(m:Int)<64:=om;generalize aI c (16*k+m)=q at*
      by_cases hq:q=0
      ·subst hq;rw [au rfl] at u;go_wp2;go_roundw
       case rel=>exact ⟨m+1,om,gn,by trivial,uh u⟩
       case measure=>exact bW
      ·have dq:((q:Int) != 0)=true:=by rw [ou];omega
       rw [ak hq] at u;rw [← uh u] at j;go_wp2;go_ret;have e:ji R=(false,Q):=by rw [uh j];rfl
       rw [e];exact ⟨rfl,o,s.at',s.kept,fun g d=>by rcases s.own g d with x | x;exact aA x;exact ay om⟩
     ·have ag:m=16:=om;subst ag;rw [← uh A] at j;go_wp2;go_roundw
      case rel=>exact ⟨k+1,true,Q,o,om,aR,om,gn,rfl,uh s,by rw [uh j];rfl⟩
      case measure=>exact bW
   ·have dn:((n:Int) == 0)=false:=by rw [lY];omega
    rw [ak ad] at j;have C:=iD s.box B;have D:=iC s.box B;have T:=ah (asR c (16*k+2) w1 B om);rw [show ((16*k+2:Nat):Int)=16*(k:Int)+2 by omega] at T
    go_wp2_with fail
    refine T.mono ?_;rintro e w2 ⟨rfl,ai⟩;have a:=ah (s.later ai);clear T ai s C D;have a5:=MR a.box (16*k+14) om;have a6:=MR a.box (16*k+15) om;have a7:=uy c (16*k+14);have a8:=uy c (16*k+15);have p:Hid (MX c k over=(over || (!(nameOf c (16*k+2)).2 || (aI c (16*k+14) != 0 || aI c (16*k+15) != 0)))):=rfl;have a0:(16:Int)*(k:Int)+15<64:=om;generalize aI c (16*k+14)=O at*;generalize aI c (16*k+15)=P at*;generalize (nameOf c (16*k+2)).2=ok at*;generalize (nameOf c (16*k+2)).1=nm at*;cases over with
    | true=>
     have e:ji R=(false,Q):=by
      have l:=uh j;rw [uh p] at l;exact l
     have E:=ah e;clear e j p;go_wp2;go_ret;rw [uh E];exact ⟨rfl,o,a.at',a.kept,fun g d=>by rcases a.own g d with x | x;exact aA x;exact ay om⟩
    | false=>
    cases ok with
    | false=>
     have e:ji R=(false,Q):=by
      have l:=uh j;rw [uh p] at l;exact l
     have E:=ah e;clear e j p;go_wp2;go_ret;rw [uh E];exact ⟨rfl,o,a.at',a.kept,fun g d=>by rcases a.own g d with x | x;exact aA x;exact ay om⟩
    | true=>
    by_cases al:O=0
    case neg=>
     have bh:((O:Int) != 0)=true:=by rw [ou];omega
     have an:(O != 0)=true:=by rw [ou];exact al
     rw [an] at p;clear an;have e:ji R=(false,Q):=by
      have l:=uh j;rw [uh p] at l;exact l
     have E:=ah e;clear e j p;go_wp2;go_ret;rw [uh E];exact ⟨rfl,o,a.at',a.kept,fun g d=>by rcases a.own g d with x | x;exact aA x;exact ay om⟩
    case pos=>
    subst al
    by_cases ao:P=0
    case neg=>
     have bj:((P:Int) != 0)=true:=by rw [ou];omega
     have aq:(P != 0)=true:=by rw [ou];exact ao
     rw [aq] at p;clear aq;have e:ji R=(false,Q):=by
      have l:=uh j;rw [uh p] at l;exact l
     have E:=ah e;clear e j p;go_wp2;go_ret;rw [uh E];exact ⟨rfl,o,a.at',a.kept,fun g d=>by rcases a.own g d with x | x;exact aA x;exact ay om⟩
    case pos=>
    subst ao;have r:ji R=if Dq Q nm (Q.length - 1) 1 then (false,Q) else qX c (4 - (k+1)) (k+1) false (Q++[⟨n,5,nm⟩]):=by
     have l:=uh j;rw [uh p] at l;exact l
    clear j p;generalize H:Dq Q nm (Q.length - 1) 1=U at r;have ar:=ah H;have j:=ah r;clear r H;have c1:=a.at'.CV;obtain ⟨M,J,QV⟩:=gQ a.at'.pG;rw [show ({ R with roots:=Q }:aU).roots=Q from rfl] at QV;subst QV;go_wp2
    go_loopw [11] (fun i z=> ∃ m:Nat,1≤m∧m≤Q.length∧i= .int .i64 m∧z=w2∧Dq Q nm (Q.length - m) m=U) (fun i _=>Q.length - (intOf i).toNat)
    case atStart=>exact ⟨1,om,om,rfl,rfl,uh ar⟩
    case round=>
     obtain ⟨m,bm,hm,rfl,rfl,I⟩:=hrel;have A:=ah I;clear I ar
     by_cases X:m<Q.length
     ·have v:=a.at'.pG;rw [show ({ R with roots:=Q }:aU).roots=Q from rfl] at v;obtain ⟨g2,av,e2,_⟩:=gy v om;obtain ⟨rfl,rfl⟩:M=some ⟨g2,0,none⟩∧J=av:=by injection e2 with x1 x2 x3;exact ⟨x1,x3⟩
      have r2:=yN v m X 2 om;simp only [iE,J6,Gg] at r2;have Nc:(m:Int)<(Q.length:Int):=om;have G:(if (Q.getD m ⟨0,0,[]⟩).name=nm then true else Dq Q nm (Q.length - (m+1)) (m+1))=U:=by
       rw [← uh A,show Q.length - m=(Q.length - (m+1))+1 by omega,Dq]
      have u:=ah G;clear G A v e2;generalize (Q.getD m ⟨0,0,[]⟩).name=N at*
      by_cases heq:N=nm
      ·have bn:=ah heq;rw [au heq] at u;rw [← uh u] at j;subst heq;have db:(N == (bM N).toList)=true:=by rw [NR];simp
       go_wp2;go_ret;have e:ji R=(false,Q):=uh j;rw [e];exact ⟨rfl,_,a.at',a.kept,fun g d=>by rcases a.own g d with x | x;exact aA x;exact ay om⟩
      ·rw [ak heq] at u;have db:(N == (bM nm).toList)=false:=by rw [NR,lY];exact heq
       clear heq;go_wp2;go_roundw
       case rel=>exact ⟨m+1,om,om,gn,by trivial,uh u⟩
       case measure=>exact bW
     ·have aw:m=Q.length:=om;have H:U=false:=by rw [← uh A,aw,Bg];rfl
      rw [H] at j;have r:ji R=qX c (4 - (k+1)) (k+1) false (Q++[⟨n,5,nm⟩]):=uh j;have a1:=ah r;clear r j H A aw;have v:=a.at'.pG;rw [show ({ R with roots:=Q }:aU).roots=Q from rfl] at v;have fA:=ah v;clear v;have bo:=a.at'.lt;have HX:Hid (bY (wr.alloc (.cells (iE ⟨n,5,nm⟩).toArray 132)) f (.slice (some ⟨g,0,none⟩) R.L.length cap) (.slice M Q.length J) { R with roots:=Q }):=a.at'.below (fC)
      go_wp2_with (at_builtin;refine yc _ rfl _ _ _ rfl 0 132 i1 _ 3 32 Tryz.underlying90 aD aE aL aM rfl om (.slice M Q.length J) Q.length (Q.flatMap iE) rfl (fA.alloc _) ⟨wr.heap.size,0,none⟩ 1 1 (iE ⟨n,5,nm⟩) rfl rfl (pJ (cs:=(iE ⟨n,5,nm⟩).toArray) (t:=132) (fr:=(0,0)) (aX wr _)) (by simp [iE,Value.oneCell']) om (by unfold maxLen;omega) om om (wr.heap.size+1) sm ?_;intro g5 cap5 w5 aa V a3 uP;have b5:=qW V HX.aG HX.Vz;have c5:w5.cell? ⟨f,1,none⟩=some (.slice M Q.length J):=(aF b5 1).trans rfl;have z5:w5.frozen? ⟨f,1,none⟩=false:=eY b5 1)
      have S5:=ah (asq a az ax aa V a3);go_roundw
      case rel=>exact ⟨k+1,false,Q++[⟨n,5,nm⟩],.slice (some ⟨g5,0,none⟩) (Q.length+1) cap5,om,sm,by simp;omega,gn,rfl,uh S5,uh a1⟩
      case measure=>exact bW
  ·have a4:k=4:=om;subst a4;have e:ji R=(true,Q):=uh K;have F:=ah d;have E:=ah e;clear d e K;go_wp2;go_ret;rw [uh E];exact ⟨rfl,o,F.at',F.kept,fun g d=>by rcases F.own g d with x | x;exact aA x;exact ay om⟩
end
section
def Wi (t:Nat): ∀ m k R,(o8 t m k R).2.L=R.L
 | 0,_,_=>rfl
 | m+1,k,R=>by
  rw [o8];split
  ·exact Wi t m _ R
  ·split
   ·rw [Wi t m,Af]
   ·exact Af _ _ _ _
def aaf (t:Nat): ∀ m k R,(o8 t m k R).2.roots=R.roots
 | 0,_,_=>rfl
 | m+1,k,R=>by
  rw [o8];split
  ·exact aaf t m _ R
  ·split
   ·rw [aaf t m,NP]
   ·exact NP _ _ _ _
def ae7 (t:Nat): ∀ m k R,(o8 t m k R).1=true→ ∀ j,k≤j→j<k+m→num (cl R.L t) (2*j)≠0→num (cl R.L t) (2*j)%32768<R.L.length
 | 0,_,_,_,j,a,c,_=>om
 | m+1,k,R,h,j,a,c,hj=>by
  rw [o8] at h
  split at h
  ·rename_i h0
   by_cases e:j=k
   ·subst e;exact absurd h0 hj
   ·exact ae7 t m (k+1) R h j om om hj
  ·split at h
   ·rename_i h0 d
    by_cases e:j=k
    ·subst e;exact (JW d).2
    ·have:=ae7 t m (k+1) _ h j om om (by rw [Af];exact hj)
     rw [Af] at this;exact this
   ·cases h
def afb (t:Nat): ∀ m i R,(xW t m i R).1=true→ ∀ j,i≤j→j<i+m→num (cl R.L t) (2*j)≠0→
  num (cl R.L t) (2*j)%32768<R.L.length∧ ∀ k,k<32→num (cl R.L (num (cl R.L t) (2*j)%32768)) (2*k)≠0→num (cl R.L (num (cl R.L t) (2*j)%32768)) (2*k)%32768<R.L.length
 | 0,_,_,_,j,c,d,_=>om
 | m+1,i,R,h,j,c,d,hj=>by
  rw [xW] at h
  split at h
  ·rename_i h0
   by_cases e:j=i
   ·subst e;exact absurd h0 hj
   ·exact afb t m (i+1) R h j om om hj
  ·split at h
   ·cases h
   ·split at h
    ·split at h
     ·rename_i h0 hi f a
      by_cases e:j=i
      ·subst e;refine ⟨(JW f).2,fun k hk g=> ?_⟩
       have:=ae7 _ 32 0 _ a k om om (by rw [Af];exact g)
       rw [Af] at this;exact this
      ·have:=afb t m (i+1) _ h j om om (by rw [Wi,Af];exact hj)
       rw [Wi,Af] at this;exact this
     ·cases h
    ·cases h
def awU {R:aU} {r:bI} (h:(tree R r).1=true):rX R.L r.N:=by
 unfold tree at h
 split at h
 ·rename_i d;have e:=JW d;have a:=afb r.N 32 0 _ h;simp only [Af] at a;refine ⟨e.2,fun i hi h0=>(a i om om h0).1,fun i hi h0 k hk=> ?_⟩
  by_cases c:num (cl R.L (num (cl R.L r.N) (2*i)%32768)) (2*k)=0
  ·rw [c];omega
  ·exact (a i om om h0).2 k hk c
 ·cases h
def BU:Nat→Nat→aU→Bool × aU
 | 0,_,R=>(true,R)
 | m+1,i,R=>if (tree R (rootOf R i)).1 then BU m (i+1) (tree R (rootOf R i)).2 else (false,(tree R (rootOf R i)).2)
def xO (R:aU):Nat→Nat→Int→Int
 | 0,_,b=>b
 | m+1,i,b=>if b<0 then xO R m (i+1) (marked R (rootOf R i)).1 else b
def FX:List Nat:=List.replicate 256 0
def Wn:List Nat:=[1,1,1,1,1,1]++List.replicate 250 0
def R0:aU:=⟨[],[],FX,FX,-1⟩
def gJ (file:List aj):aU:={ R0 with L:=bg file (num (cl file 0) 4),roots:=[⟨num (cl file 0) 6,0,[]⟩] }
def qR (file:List aj):aU:={ gJ file with roots:=(ji (gJ file)).2,used:=Wn }
def iQ (file:List aj):Bool × aU:=BU (qR file).roots.length 0 (qR file)
def look (file:List aj):aU:=
 if mD file=false then { R0 with bad:=0 }
 else if (ji (gJ file)).1=false then { gJ file with roots:=(ji (gJ file)).2,bad:=5 }
 else if (iQ file).1=false then (iQ file).2
 else { (iQ file).2 with bad:=xO (iQ file).2 (iQ file).2.roots.length 0 (qB (iQ file).2 256 0) }
abbrev xu:=List (Nat × Nat)
def uF (L:List aj) (t:Nat):Nat→Nat→xu
 | 0,_=>[]
 | m+1,k=>(if num (cl L t) (2*k)=0 then [] else [(num (cl L t) (2*k)%32768,3)])++uF L t m (k+1)
def uS (L:List aj) (t:Nat):Nat→Nat→xu
 | 0,_=>[]
 | m+1,i=>(if num (cl L t) (2*i)=0 then [] else (num (cl L t) (2*i)%32768,2) :: uF L (num (cl L t) (2*i)%32768) 32 0)++uS L t m (i+1)
def xX (L:List aj) (t:Nat):xu:=(t,1) :: uS L t 32 0
structure xq (L:List aj) (ts:xu):Prop where
 lo: ∀ x ∈ ts,6≤x.1∧x.1<L.length∧x.2≠0
 kind: ∀ x ∈ ts,∀ y ∈ ts,x.1=y.1→x.2=y.2
 once: ∀ n,ts.count (n,1)≤1
def xq.pre {L:List aj} {a b:xu} (h:xq L (a++b)):xq L a:=
 ⟨fun x c=>h.lo x (by simp [c]),fun x c y d=>h.kind x (by simp [c]) y (by simp [d]),fun n=>by have:=h.once n;rw [Jj] at this;omega⟩
structure Told (L:List aj) (rs:List bI) (b:Int) (base:Nat→Nat) (ts:xu) (R:aU):Prop where
 hL:R.L=L
 hR:R.roots=rs
 hB:R.bad=b
 tl:R.told.length=256
 ul:R.used.length=256
 told: ∀ x ∈ ts,R.told.getD x.1 0=x.2
 none: ∀ n,(∀ x ∈ ts,x.1≠n)→R.told.getD n 0=0
 used: ∀ n,n<256→R.used.getD n 0=base n+(ts.map (·.1)).count n
def X6 (T:List Nat) (k n i:Nat) (hk:k<T.length):(T.set k n).getD i 0=if k=i then n else T.getD i 0:=by
 rw [aN,uI]
 by_cases h:k=i
 ·subst h;rw [au rfl,au hk,au rfl];rfl
 ·rw [ak h,ak h,aN]
def Told.step {L:List aj} {rs:List bI} {b:Int} {base:Nat→Nat} {c:xu} {R:aU} (h:Told L rs b base c R) (r:L.length≤256) (n kind at':Nat) (ok:xq L (c++[(n,kind)])):
  (tell R n kind at').1=true∧Told L rs b base (c++[(n,kind)]) (tell R n kind at').2:=by
 obtain ⟨l,hn,i⟩:=ok.lo (n,kind) sm;simp only at l hn i;have j:Eh R n kind=false:=by
  have o:decide (n<6)=false:=by simp;omega
  have p:decide (R.L.length≤n)=false:=by rw [h.hL];simp;omega
  unfold Eh;rw [o,p,Gh,Gh]
  by_cases a: ∃ x ∈ c,x.1=n
  ·obtain ⟨x,a,he⟩:=a;have d:=h.told x a;rw [he] at d;have f:=ok.kind x (by simp [a]) (n,kind) sm he;simp only at f;rw [d,f];have q:kind≠1:=by
    intro hk;have g:=ok.once n;rw [Jj,hk] at g;have s:0<c.count (n,1):=by
     rw [aax]
     have:x=(n,1):=by rw [← he,← hk,← f]
     rw [← this];exact a
    simp at g;omega
   simp [q]
  ·have d:=h.none n (fun x k e=>a ⟨x,k,e⟩);rw [d];rfl
 unfold tell;rw [j];refine ⟨rfl,⟨h.hL,h.hR,h.hB,by simp [h.tl],by simp [h.ul],?_,?_,?_⟩⟩
 ·intro x a;show (R.told.set n kind).getD x.1 0=x.2;rw [X6 _ _ _ _ (by rw [h.tl];omega)]
  by_cases e:n=x.1
  ·rw [au e];exact ok.kind (n,kind) sm x a e
  ·rw [ak e];rcases fK.1 a with y | y
   ·exact h.told x y
   ·exact absurd (by rw [iP.1 y]) e
 ·intro m hm;show (R.told.set n kind).getD m 0=0;rw [X6 _ _ _ _ (by rw [h.tl];omega),ak (hm (n,kind) sm)];exact h.none m (fun x a=>hm x (by simp [a]))
 ·intro m hm;show (R.used.set n (R.used.getD n 0+1)).getD m 0=_;rw [X6 _ _ _ _ (by rw [h.ul];omega),rQ,Jj]
  by_cases e:n=m
  ·subst e;rw [au rfl,h.used n hm]
   simp
   omega
  ·rw [ak e,h.used m hm];simp [e]
def aag {L:List aj} {rs:List bI} {b:Int} {base:Nat→Nat} (d:L.length≤256) (t:Nat): ∀ (m k:Nat) (a:xu) (R:aU),Told L rs b base a R→xq L (a++uF L t m k)→
  (o8 t m k R).1=true∧Told L rs b base (a++uF L t m k) (o8 t m k R).2
 | 0,_,a,R,h,_=>⟨rfl,by rw [uF,sN];exact h⟩
 | m+1,k,a,R,h,ok=>by
  by_cases h0:num (cl R.L t) (2*k)=0
  ·rw [amP _ _ _ _ h0];have c:num (cl L t) (2*k)=0:=by rw [← h.hL];exact h0
   have e:uF L t (m+1) k=uF L t m (k+1):=by rw [uF,au c];rfl
   rw [e] at ok ⊢;exact aag d t m (k+1) a R h ok
  ·have c: ¬ num (cl L t) (2*k)=0:=by rw [← h.hL];exact h0
   have e:a++uF L t (m+1) k=(a++[(num (cl L t) (2*k)%32768,3)])++uF L t m (k+1):=by rw [uF,ak c,tV]
   rw [e] at ok ⊢;obtain ⟨f,g⟩:=h.step d (num (cl L t) (2*k)%32768) 3 t ok.pre;rw [amO _ _ _ _ h0 (by rw [h.hL];exact f),h.hL];exact aag d t m (k+1) _ _ g ok
def afc {L:List aj} {rs:List bI} {b:Int} {base:Nat→Nat} (c:L.length≤256) (t:Nat) (d: ∀ i,1<i→i<32→num (cl L t) (2*i)=0): ∀ (m i:Nat) (a:xu) (R:aU),i+m≤32→Told L rs b base a R→xq L (a++uS L t m i)→
  (xW t m i R).1=true∧Told L rs b base (a++uS L t m i) (xW t m i R).2
 | 0,_,a,R,_,h,_=>⟨rfl,by rw [uS,sN];exact h⟩
 | m+1,i,a,R,hm,h,ok=>by
  rw [xW,h.hL]
  by_cases h0:num (cl L t) (2*i)=0
  ·rw [au h0];have e:uS L t (m+1) i=uS L t m (i+1):=by rw [uS,au h0];rfl
   rw [e] at ok ⊢;exact afc c t d m (i+1) a R om h ok
  ·have hi: ¬ 1<i:=fun hi=>h0 (d i hi om);have e:a++uS L t (m+1) i=((a++[(num (cl L t) (2*i)%32768,2)])++uF L (num (cl L t) (2*i)%32768) 32 0)++uS L t m (i+1):=by
    rw [uS,ak h0];simp
   rw [e] at ok ⊢;obtain ⟨f,g⟩:=h.step c (num (cl L t) (2*i)%32768) 2 t ok.pre.pre;obtain ⟨j,k⟩:=aag c (num (cl L t) (2*i)%32768) 32 0 _ _ g ok.pre;rw [ak h0,ak hi,au f,au j];exact afc c t d m (i+1) _ _ om k ok
def awW {L:List aj} {rs:List bI} {b:Int} {base:Nat→Nat} (c:L.length≤256) (r:bI) (d: ∀ i,1<i→i<32→num (cl L r.N) (2*i)=0) (a:xu) (R:aU) (h:Told L rs b base a R) (ok:xq L (a++xX L r.N)):
  (tree R r).1=true∧Told L rs b base (a++xX L r.N) (tree R r).2:=by
 have e:a++xX L r.N=(a++[(r.N,1)])++uS L r.N 32 0:=by rw [xX];simp
 rw [e] at ok ⊢;obtain ⟨f,g⟩:=h.step c r.N 1 r.At ok.pre;unfold tree;rw [au f];exact afc c r.N d 32 0 _ _ om g ok
def l7 (L:List aj) (rs:List bI):Nat→Nat→xu
 | 0,_=>[]
 | m+1,i=>xX L (rs.getD i ⟨0,0,[]⟩).N++l7 L rs m (i+1)
def afe {L:List aj} {rs:List bI} {b:Int} {base:Nat→Nat} (c:L.length≤256) (d: ∀ r ∈ rs,∀ i,1<i→i<32→num (cl L r.N) (2*i)=0): ∀ (m i:Nat) (a:xu) (R:aU),i+m≤rs.length→Told L rs b base a R→xq L (a++l7 L rs m i)→
  (BU m i R).1=true∧Told L rs b base (a++l7 L rs m i) (BU m i R).2
 | 0,_,a,R,_,h,_=>⟨rfl,by rw [l7,sN];exact h⟩
 | m+1,i,a,R,hm,h,ok=>by
  have hr:rootOf R i=rs.getD i ⟨0,0,[]⟩:=by unfold rootOf;rw [h.hR]
  have f:rs.getD i ⟨0,0,[]⟩ ∈ rs:=by
   rw [aN,bJ om];exact o9 _
  have e:a++l7 L rs (m+1) i=(a++xX L (rs.getD i ⟨0,0,[]⟩).N)++l7 L rs m (i+1):=by rw [l7,tV]
  rw [e] at ok ⊢;obtain ⟨g,j⟩:=awW c (rs.getD i ⟨0,0,[]⟩) (d _ f) a R h ok.pre;rw [BU,hr,au g];exact afe c d m (i+1) _ _ om j ok
def ace {R:aU}: ∀ (m n:Nat),(∀ j,n≤j→j<n+m→ET R j=false)→qB R m n= -1
 | 0,_,_=>rfl
 | m+1,n,h=>by
  rw [qB,h n om om];exact ace m (n+1) (fun j a c=>h j om om)
def gZ (n:Nat):Nat:=Wn.getD n 0
def aak:Wn.length=256:=kr
def aau:FX.length=256:=kr
def wK (n:Nat):gZ n=if n<6 then 1 else 0:=by
 unfold gZ
 by_cases h:n<256
 ·have: ∀ k:Fin 256,Wn.getD k.val 0=if k.val<6 then 1 else 0:=by decide +kernel
  exact this ⟨n,h⟩
 ·rw [aN,eG (by rw [aak];omega),ak om];rfl
def ajy (L:List aj) (t:Nat): ∀ (m k j:Nat),k≤j→j<k+m→num (cl L t) (2*j)≠0→(num (cl L t) (2*j)%32768,3) ∈ uF L t m k
 | 0,_,_,a,c,_=>om
 | m+1,k,j,a,c,hj=>by
  rw [uF]
  by_cases e:j=k
  ·subst e;rw [ak hj];simp
  ·exact fK.2 (ay (ajy L t m (k+1) j om om hj))
def adX (L:List aj) (t:Nat): ∀ (m i j:Nat),i≤j→j<i+m→num (cl L t) (2*j)≠0→ ∀ x,(x=(num (cl L t) (2*j)%32768,2)∨x ∈ uF L (num (cl L t) (2*j)%32768) 32 0)→x ∈ uS L t m i
 | 0,_,_,c,d,_,_,_=>om
 | m+1,i,j,c,d,hj,x,a=>by
  rw [uS]
  by_cases e:j=i
  ·subst e;rw [ak hj];rcases a with rfl | a
   ·simp
   ·simp [a]
  ·exact fK.2 (ay (adX L t m (i+1) j om om hj x a))
def agG (L:List aj) (rs:List bI): ∀ (m i j:Nat),i≤j→j<i+m→ ∀ x ∈ xX L (rs.getD j ⟨0,0,[]⟩).N,x ∈ l7 L rs m i
 | 0,_,_,c,d,_,_=>om
 | m+1,i,j,c,d,x,a=>by
  rw [l7]
  by_cases e:j=i
  ·subst e;exact fK.2 (aA a)
  ·exact fK.2 (ay (agG L rs m (i+1) j om om x a))
def QB (L:List aj) (x:Nat):Prop:=x≠0→(32768≤x↔aQ L (x%32768)=1)
def aos (L:List aj) (t:Nat):Prop:= ∀ i,i<2→QB L (num (cl L t) (2*i))∧(num (cl L t) (2*i)≠0→ ∀ k,k<32→QB L (num (cl L (num (cl L t) (2*i)%32768)) (2*k)))
structure DL (L:List aj) (rs:List bI):Prop where
 len:L.length≤256
 qp:6≤L.length
 ok:xq L (l7 L rs rs.length 0)
 zero: ∀ r ∈ rs,∀ i,1<i→i<32→num (cl L r.N) (2*i)=0
 jI: ∀ n,n<256→aQ L n=gZ n+((l7 L rs rs.length 0).map (·.1)).count n
 top: ∀ n,n<256→aQ L n<255
 mark: ∀ i,i<rs.length→aos L (rs.getD i ⟨0,0,[]⟩).N
section
variable {L:List aj} {rs:List bI} {b:Int} {R:aU}
def DL.used (h:DL L rs) (a:Told L rs b gZ (l7 L rs rs.length 0) R) (n:Nat) (hn:n<256):R.used.getD n 0=aQ R.L n:=by
 rw [a.used n hn,a.hL,h.jI n hn]
def DL.none (h:DL L rs) (n:Nat) (hn:n<256) (hL:L.length≤n):aQ L n=0:=by
 rw [h.jI n hn,wK,ak (by have:=h.qp;omega),rE,H8];intro hm;obtain ⟨x,a,rfl⟩:=gY.1 hm
 have:=(h.ok.lo x a).2.1
 omega
def DL.counts (h:DL L rs) (a:Told L rs b gZ (l7 L rs rs.length 0) R):qB R 256 0= -1:=by
 refine ace 256 0 fun j _ hj=> ?_;have d:=h.used a j om;have g:=h.top j om;unfold ET SH;rw [d,a.hL];have e:decide (aQ L j<aQ L j)=false:=sm;have f:(aQ L j == 255)=false:=by rw [lY];omega
 rw [e,f,SQ,Gh,Gh]
 by_cases c:L.length≤j
 ·rw [h.none j om c];simp
 ·rw [gK c];rfl
def alV (hu: ∀ n,n<256→R.used.getD n 0=aQ R.L n) (x:Nat) (c:x≠0) (d:x%32768<256) (hr:QB R.L x):pF R x=false∧sW R x=0:=by
 have h:=hr c;have a:=hu _ d;unfold pF sW
 by_cases hm:32768≤x
 ·rw [au hm,au hm,a,h.1 hm];exact ⟨rfl,rfl⟩
 ·rw [ak hm,ak hm,a,ak (fun e=>hm (h.2 e))];exact ⟨rfl,rfl⟩
def adD (hu: ∀ n,n<256→R.used.getD n 0=aQ R.L n) (t:Nat) (a: ∀ k,k<32→num (cl R.L t) (2*k)≠0→num (cl R.L t) (2*k)%32768<256∧QB R.L (num (cl R.L t) (2*k))): ∀ (m k acc:Nat),k+m≤32→sZ R t m k acc=some acc
 | 0,_,_,_=>rfl
 | m+1,k,acc,hm=>by
  rw [sZ]
  by_cases h0:num (cl R.L t) (2*k)=0
  ·rw [au h0];exact adD hu t a m (k+1) acc om
  ·obtain ⟨c,d⟩:=a k om h0;obtain ⟨e,f⟩:=alV hu _ h0 c d;rw [ak h0,e,f];exact adD hu t a m (k+1) _ om
def adI (hu: ∀ n,n<256→R.used.getD n 0=aQ R.L n) (t:Nat) (a: ∀ i,i<2→num (cl R.L t) (2*i)≠0→num (cl R.L t) (2*i)%32768<256∧QB R.L (num (cl R.L t) (2*i))∧
  ∀ k,k<32→num (cl R.L (num (cl R.L t) (2*i)%32768)) (2*k)≠0→num (cl R.L (num (cl R.L t) (2*i)%32768)) (2*k)%32768<256∧QB R.L (num (cl R.L (num (cl R.L t) (2*i)%32768)) (2*k))): ∀ (m i acc:Nat),i+m≤2→vI R t m i acc=(-1,acc)
 | 0,_,_,_=>rfl
 | m+1,i,acc,hm=>by
  rw [vI]
  by_cases h0:num (cl R.L t) (2*i)=0
  ·rw [au h0];exact adI hu t a m (i+1) acc om
  ·obtain ⟨c,d,e⟩:=a i om h0;obtain ⟨f,g⟩:=alV hu _ h0 c d;rw [ak h0,f,g,jW,adD hu _ e 32 0 acc om];exact adI hu t a m (i+1) acc om
def DL.marked (h:DL L rs) (a:Told L rs b gZ (l7 L rs rs.length 0) R) (i:Nat) (hi:i<rs.length):marked R (rootOf R i)=(-1,0):=by
 have hu:=fun n hn=>h.used a n hn;have hr:rootOf R i=rs.getD i ⟨0,0,[]⟩:=by unfold rootOf;rw [a.hR]
 unfold Go.Proofs.YtknjjjenklfeoaaGreatDoor.marked;refine adI hu _ (fun j hj h0=> ?_) 2 0 0 om;rw [hr] at h0 ⊢;rw [a.hL] at h0 ⊢;have hm:=h.mark i hi j hj;have c: ∀ x ∈ xX L (rs.getD i ⟨0,0,[]⟩).N,x.1<256:=fun x d=>by
  have:=(h.ok.lo x (agG L rs rs.length 0 i om om x d)).2.1
  have:=h.len
  omega
 refine ⟨c (_,2) (cO.2 (ay (adX L _ 32 0 j om om h0 _ (aA rfl)))),hm.1,fun k hk e=>⟨?_,hm.2 h0 k hk⟩⟩;exact c (_,3) (cO.2 (ay (adX L _ 32 0 j om om h0 _ (ay (ajy L _ 32 0 k om om e)))))
def DL.marks (h:DL L rs) (a:Told L rs b gZ (l7 L rs rs.length 0) R): ∀ (m i:Nat),i+m≤rs.length→xO R m i (-1)= -1
 | 0,_,_=>rfl
 | m+1,i,hm=>by
  rw [xO,au dc,h.marked a i om];exact h.marks a m (i+1) om
def abX (p:Nat→Bool): ∀ k,(∀ j,j<k→p j=false)→bF p k=0
 | 0,_=>rfl
 | k+1,h=>by rw [bF,abX p k (fun j hj=>h j om),h k om];rfl
def DL.exact (h:DL L rs) (a:Told L rs b gZ (l7 L rs rs.length 0) R):zW R=true:=by
 have hu:=fun n hn=>h.used a n hn;have f:=h.len;have c:bF (yI R) R.L.length=0:=abX _ _ fun j hj=>by
  unfold yI;rw [hu j (by rw [a.hL] at hj;omega)]
  by_cases hc:aQ R.L j=0
  ·rw [hc];rfl
  ·rw [show (aQ R.L j == 0)=false by rw [lY];exact hc];rfl
 have d:bF (yJ R) R.L.length=0:=abX _ _ fun j hj=>by
  unfold yJ;rw [hu j (by rw [a.hL] at hj;omega)]
  simp
 have e: ∀ k,k≤rs.length→Bd R k=0:=by
  intro k
  induction k with
  | zero=>intro _;rfl
  | succ k ih=>
   intro hk;rw [Bd,ih om,h.marked a k om];rfl
 unfold zW Dz;simp only [c,d,a.hR,e rs.length (aO _)];rfl
def asF {file:List aj} (j:mD file=true) (k:(ji (gJ file)).1=true) (c:DL (gJ file).L (ji (gJ file)).2):
  (look file).bad= -1∧(look file).L=(gJ file).L∧(look file).roots=(ji (gJ file)).2∧zW (look file)=true∧vk 1000 (look file):=by
 have h:Told (gJ file).L (ji (gJ file)).2 (-1) gZ [] (qR file):=
  ⟨rfl,rfl,rfl,aau,aak,fun x c=>by simp at c,fun n _=>by
   show FX.getD n 0=0;unfold FX;rw [aN,rG]
   split <;> rfl,fun n _=>rfl⟩
 obtain ⟨i,f⟩:=afe c.len c.zero (ji (gJ file)).2.length 0 [] (qR file) om h c.ok;rw [qy] at f;have g:(iQ file).1=true:=i;have a:Told (gJ file).L (ji (gJ file)).2 (-1) gZ (l7 (gJ file).L (ji (gJ file)).2 (ji (gJ file)).2.length 0) (iQ file).2:=f;have e:look file={ (iQ file).2 with bad:=xO (iQ file).2 (iQ file).2.roots.length 0 (qB (iQ file).2 256 0) }:=by
  unfold look;rw [ak (by rw [j];decide),ak (by rw [k];decide),ak (by rw [g];decide)]
 clear i f h g;generalize iQ file=Q at a e;have d:Told (gJ file).L (ji (gJ file)).2 (-1) gZ (l7 (gJ file).L (ji (gJ file)).2 (ji (gJ file)).2.length 0) (look file):=by
  rw [e,c.counts a,a.hR,c.marks a _ 0 om];exact ⟨a.hL,a.hR,rfl,a.tl,a.ul,a.told,a.none,a.used⟩
 refine ⟨d.hB,d.hL,d.hR,c.exact d,fun n=> ?_⟩
 by_cases hn:n<256
 ·rw [c.used d n hn,d.hL]
  have:=c.top n hn
  omega
 ·rw [aN,eG (by rw [d.ul];omega)];exact lX _
end
end
def agM (parts:Array (Nat × Value)):Sem Value:=Instr.build 93 parts
def apb (parts:Array (Nat × Value)):Instr.build 93 parts=agM parts:=rfl
def avi (w:World):(agM #[(4,.int .i64 (-1))]).run Tryz.prog w= .ok (.agg (Eb (.slice none 0 0) (.slice none 0 0) R0).toArray) w:=kr
def adn (c:aj): ∀ m i over Q,(∀ r ∈ Q,r.N<65536∧r.At<65536)→(∀ r ∈ (qX c m i over Q).2,r.N<65536∧r.At<65536)∧Q.length≤(qX c m i over Q).2.length∧(qX c m i over Q).2.length≤Q.length+m
 | 0,_,_,Q,h=>⟨h,aO _,aO _⟩
 | m+1,i,over,Q,h=>by
  rw [qX];split
  ·split
   ·obtain ⟨a,b,d⟩:=adn c m (i+1) true Q h;exact ⟨a,b,om⟩
   ·exact ⟨h,aO _,by show Q.length≤_;omega⟩
  ·split
   ·exact ⟨h,aO _,by show Q.length≤_;omega⟩
   ·split
    ·exact ⟨h,aO _,by show Q.length≤_;omega⟩
    ·obtain ⟨a,b,d⟩:=adn c m (i+1) over (Q++[⟨num c (16*i),5,(nameOf c (16*i+2)).1⟩]) (by
      intro r hr;rcases fK.1 hr with x | x
      ·exact h r x
      ·rw [iP.1 x];exact ⟨iK _ _,by show 5<65536;omega⟩)
     simp only [oL,aay] at b d;exact ⟨a,om,om⟩
def aoq (file:List aj): ∀ r ∈ (gJ file).roots,r.N<65536∧r.At<65536:=by
 intro r hr;rw [iP.1 hr];exact ⟨iK _ _,by show 0<65536;omega⟩
def aor (file:List aj):(∀ r ∈ (qR file).roots,r.N<65536∧r.At<65536)∧1≤(qR file).roots.length∧(qR file).roots.length≤5:=by
 have h:=adn (cl (gJ file).L 5) 4 0 false (gJ file).roots (aoq file);have e:(gJ file).roots.length=1:=rfl;rw [e] at h;exact ⟨h.1,h.2.1,h.2.2⟩
def avb {R:aU} {i:Nat} (h:i<R.roots.length):rootOf R i ∈ R.roots:=by
 unfold rootOf;rw [aN,bJ h];exact o9 h
def akl (R:aU) (b:Int) (x:Nat):pF { R with bad:=b } x=pF R x:=rfl
def akn (R:aU) (b:Int) (x:Nat):sW { R with bad:=b } x=sW R x:=rfl
def ako (R:aU) (b:Int) (t:Nat): ∀ m k acc,sZ { R with bad:=b } t m k acc=sZ R t m k acc
 | 0,_,_=>rfl
 | m+1,k,acc=>by simp only [sZ,akl,akn,ako R b t m]
def akp (R:aU) (b:Int) (t:Nat): ∀ m k acc,vI { R with bad:=b } t m k acc=vI R t m k acc
 | 0,_,_=>rfl
 | m+1,k,acc=>by simp only [vI,akl,akn,ako,akp R b t m]
def asL (R:aU) (b:Int) (r:bI):marked { R with bad:=b } r=marked R r:=akp R b r.N 2 0 0
def LM (k:Nat):List Nat:=List.replicate k 1++List.replicate (256 - k) 0
def aw3 (k:Nat) (h:k≤6):(LM k).length=256:=by simp [LM];omega
def aw5 (k:Nat) (h:k<6):(LM k).set k 1=LM (k+1):=by
 refine uY fun i=> ?_;rw [uI,aw3 k om];unfold LM
 by_cases hi:k=i
 ·subst hi;rw [au rfl,au om,nV sm,rG,au om]
 ·rw [ak hi]
  by_cases a:i<k
  ·rw [nV (by simp;omega),nV (by simp;omega),rG,rG,au a,au om]
  ·rw [nP (by simp;omega),nP (by simp;omega),rG,rG];simp only [Ai]
   by_cases c:i<256
   ·rw [au om,au om]
   ·rw [ak om,ak om]
def aw4 (k n:Nat):(LM k).getD n 0≤1:=by
 unfold LM;rw [aN]
 by_cases h:n<k
 ·rw [nV (by rw [Ai];exact h),rG,au h];exact aO _
 ·rw [nP (by rw [Ai];omega),rG];split
  ·exact lX _
  ·exact lX _
def adY (s:ByteArray) (w:World) (hs:s.size≤maxLen):
  Calls Tryz.prog 82 #[.string s] w fun e x=>e= .returned (.bool (nZ s.data.toList))∧aC w x:=by
 unfold maxLen at hs;have hlen:s.data.toList.length=s.size:=by rw [Ws];rfl
 have a:Hid (nZ s.data.toList=(s.data.toList.all letter && (decide (1≤s.data.toList.length) && decide (s.data.toList.length≤12)))):=rfl;rw [hlen] at a;have d:=ah hlen;clear hlen
 by_cases I:s.size<1
 ·have y:decide ((s.size:Int)<1)=true:=dZ om;rw [show decide (1≤s.size)=false from gK om,J3,SQ] at a
  go_enter Tryz.func82,Tryz.ntmps82
  go_wp2;go_ret;exact ⟨by rw [uh a];rfl,bG _ _⟩
 have y:decide ((s.size:Int)<1)=false:=gK om;rw [show decide (1≤s.size)=true from dZ om,um] at a
 by_cases G:12<s.size
 ·have z:decide ((12:Int)<(s.size:Int))=true:=dZ om;rw [show decide (s.size≤12)=false from gK om,SQ] at a
  go_enter Tryz.func82,Tryz.ntmps82
  go_wp2;go_ret;exact ⟨by rw [uh a];rfl,bG _ _⟩
 have z:decide ((12:Int)<(s.size:Int))=false:=gK om;rw [show decide (s.size≤12)=true from dZ om,aaz] at a;have l:=Lib.run_convert_string_bytes (P:=Tryz.prog) w 9 73 5 s Tryz.underlying9 Tryz.underlying73 Tryz.underlying5;have hB:Hid (aC w (Lib.bytesWorld w 5 s)):=⟨rfl,rfl,rfl,by rw [Lib.bytesWorld_size];omega,fun k hk=>Lib.bytesWorld_at_old w _ s k hk⟩;have o:Hid (∀ j,j<s.size→(Lib.bytesWorld w 5 s).cell? ⟨w.heap.size,j,none⟩=some (.int .u8 (s.data.toList.getD j 0).toNat)):=fun j hj=>Lib.bytesWorld_cell w _ s j hj;generalize Lib.bytesWorld w 5 s=J at l hB o;generalize grownCap w s.size 0 5=cap at l
 go_enter Tryz.func82,Tryz.ntmps82
 go_wp2
 go_loop [16] (fun i=> ∃ k:Nat,k≤s.size∧i= .int .i64 k∧(s.data.toList.take k).all letter=true) (fun i=>s.size - (intOf i).toNat)
 case atStart=>exact ⟨0,lX _,rfl,sm⟩
 case round=>
  obtain ⟨k,hk,rfl,p⟩:=hrel;have q:=ah p;clear p
  by_cases f:k<s.size
  ·have n:s.data.toList.getD k 0=s[k]:=by
    rw [aN,bJ (by rw [uh d];exact f)];rfl
   have u:=uh o k f;rw [n] at u;have g:s.data.toList.take (k+1)=s.data.toList.take k++[s[k]]:=by
    rw [x9 (by rw [uh d];exact f)];rfl
   have K:=s[k].toNat_lt;have r:letter s[k]=(decide (97≤s[k].toNat) && decide (s[k].toNat≤122)):=rfl;have c:letter s[k]=false→nZ s.data.toList=false:=fun A=>by
    have:s.data.toList.all letter=false:=by
     rw [List.all_eq_false];exact ⟨s[k],by rw [← LP (k+1) s.data.toList,g];simp,by rw [A];simp⟩
    rw [uh a,this]
   have m:letter s[k]=true→(s.data.toList.take (k+1)).all letter=true:=fun B=>by rw [g,List.all_append,uh q];simp [B]
   have t:=ah c;have C:=ah m;have h:=ah r;clear c m r g n
   by_cases H:s[k].toNat<97
   ·have D:decide ((s[k].toNat:Int)<97)=true:=dZ om;have e:=ah (uh t (by rw [uh h,show decide (97≤s[k].toNat)=false from gK om];rfl));go_wp2;go_ret;exact ⟨by rw [uh e];rfl,uh hB⟩
   ·have D:decide ((s[k].toNat:Int)<97)=false:=gK om
    by_cases F:122<s[k].toNat
    ·have E:decide ((122:Int)<(s[k].toNat:Int))=true:=dZ om;have e:=ah (uh t (by rw [uh h,show decide (s[k].toNat≤122)=false from gK om];simp));go_wp2;go_ret;exact ⟨by rw [uh e];rfl,uh hB⟩
    ·have E:decide ((122:Int)<(s[k].toNat:Int))=false:=gK om;have e:=ah (uh C (by rw [uh h,show decide (97≤s[k].toNat)=true from dZ om,show decide (s[k].toNat≤122)=true from dZ om];rfl));go_wp2
     go_round
     case rel=>exact ⟨k+1,om,gn,uh e⟩
     case measure=>exact bW
  ·have v:k=s.size:=om;have c:s.data.toList.all letter=true:=by
    have:=uh q
    rwa [v,← uh d,H7] at this
   rw [c] at a;clear c;go_wp2;go_ret;exact ⟨by rw [uh a];rfl,uh hB⟩
end Go.Proofs.YtknjjjenklfeoaaGreatDoor
