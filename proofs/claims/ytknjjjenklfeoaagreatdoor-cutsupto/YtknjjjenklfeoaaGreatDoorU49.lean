import Derived.Test.YtknjjjenklfeoaaGreatDoorU48
set_option maxHeartbeats 8000000
set_option maxRecDepth 100000
set_option linter.all false
namespace Go.Proofs.YtknjjjenklfeoaaGreatDoor
open Go.RowKit
section
attribute [local go_sem ↓] IZ awh axK OB
attribute [local go_sem] Jd avy avu
def avh {w:World}:(abA #[]).run Tryz.prog w= .ok (.agg (wP ⟨zD,[]⟩ (.slice none 0 0)).toArray) w:=by
 have a:=(uZ (P:=Tryz.prog) (t:=70) (v:= .agg (wP ⟨zD,[]⟩ (.slice none 0 0)).toArray) (n:=4097) kr).1;exact LH w 70 _ (.agg (wP ⟨zD,[]⟩ (.slice none 0 0)).toArray) #[(0,4096),(4096,1)] #[] _ Tryz.underlying70 a (fun w=>kr) rfl
attribute [local go_sem] avh
structure abr (w:World) (a:Option Addr) (n:Nat) (ops:Nat→lM):Prop where
 some:0<n→ ∃ g o,a=some ⟨g,o,none⟩∧g<w.heap.size∧ ∀ i,i<n→w.rangeAt g (o+i*6) (dI (ops i))
 fits: ∀ i,i<n→(ops i).Fits
 text: ∀ i,i<n→(ops i).text.size≤maxLen∧(ops i).name.size≤maxLen
def GV (hi:Int) (file:Bool) (k:Int):Bool:=decide (k≤hi) || (file && decide (k=9))
structure MN (w w':World) (p' b:Nat) (P:eP) (S:Nat→Prop) (B:nG) (U:Nat→Prop) (P':eP) (S':Nat→Prop) (V':oM) (B':nG) (U':Nat→Prop):Prop where
 at':dL w' p' P' S'
 book:iY w' b V' B' U'
 log:P'.V.L.length≤P.V.L.length+100
 marks:P'.ms.length≤P.ms.length+2
 next:B'.next≤B.next+2
 files:B'.files.length≤B.files.length+4
 writes:B'.writes.length≤B.writes.length+4
 names:B'.names.length≤B.names.length+4
 Vp: ∀ x ∈ B'.files,x ∈ B.files∨x.n≤258
 Vs: ∀ x ∈ B'.writes,x ∈ B.writes∨x.n≤P.V.L.length+2
 Vq: ∀ x ∈ B'.names,x ∈ B.names∨x.n≤8
 kept:Kept (fun k=>S k∨U k) w w'
 YU: ∀ k,S' k→S k∨w.heap.size≤k
 YV: ∀ k,U' k→U k∨w.heap.size≤k
 apart: ∀ k,S' k→ ¬ U' k
def agB (G:eP→Prop):Prop:= ∀ w p P S,dL w p P S→G P→P.V.L.length≤300000000→P.ms.length≤1000000000→
 Calls Tryz.prog 33 #[.pointer (some ⟨p,0,none⟩)] w fun e w'=>e= .returned (.bool true)∧ ∃ P',G P'∧P'.V.L.length=P.V.L.length∧P'.ms.length=P.ms.length+1∧ ∃ S',dL w' p P' S'∧Kept S w w'∧ ∀ k,S' k→S k∨w.heap.size≤k
def Xk (hi:Int) (file:Bool) (G:eP→Prop) (A:World→lM→Prop):Prop:= ∀ w p b P S V B U o,dL w p P S→G P→iY w b V B U→(∀ k,S k→ ¬ U k)→P.V.L.length≤300000000→P.ms.length≤900000000→B.next≤900000000→B.files.length≤900000000→B.writes.length≤900000000→B.names.length≤900000000→A w o→GV hi file o.kind=true→o.kind≠8→
 Calls Tryz.prog 34 (Bc p b o) w fun e w'=> ∃ p',e= .returned (.tuple #[.pointer (some ⟨p',0,none⟩),.bool true])∧ ∃ P',G P'∧ ∃ S' a c d,MN w w' p' b P S B U P' S' a c d
structure yX (w w':World) (i p q b:Nat) (P Q:eP) (S R:Nat→Prop) (V:oM) (B:nG) (U:Nat→Prop):Prop where
 one:dL w' p P S
 two:dL w' q Q R
 book:iY w' b V B U
 sr: ∀ k,S k→ ¬ R k
 su: ∀ k,S k→ ¬ U k
 ru: ∀ k,R k→ ¬ U k
 s0: ∀ k,S k→w.heap.size≤k
 r0: ∀ k,R k→w.heap.size≤k
 u0: ∀ k,U k→w.heap.size≤k
 below:aC w w'
 JI:P.V.L.length≤20+100*i
 O9:Q.V.L.length≤20+100*i
 Ld:P.ms.length≤4+2*i
 Pj:Q.ms.length≤4+2*i
 next:B.next≤2*i
 lf:B.files.length≤4*i
 lw:B.writes.length≤4*i
 ln:B.names.length≤4*i
 ef: ∀ x ∈ B.files,x.n≤258
 ew: ∀ x ∈ B.writes,x.n≤100+100*i
 en: ∀ x ∈ B.names,x.n≤8
section
variable {w w1 w2:World} {i p q b:Nat} {P Q:eP} {S R:Nat→Prop} {V:oM} {B:nG} {U:Nat→Prop}
def yX.low (h:yX w w1 i p q b P Q S R V B U) (hi:i≤1048576):afI B:=
 ⟨by have:=h.ln;omega,by have:=h.lf;omega,by have:=h.lw;omega,fun x a=>by have:=h.en x a;omega,fun x a=>by have:=h.ef x a;omega,fun x a=>by have:=h.ew x a;omega⟩
def yX.later (h:yX w w1 i p q b P Q S R V B U) (a:aC w1 w2):yX w w2 i p q b P Q S R V B U:=
 { h with one:=h.one.below a,two:=h.two.below a,book:=h.book.below a,below:=h.below.trans (a.mono h.below.size) }
def yX.on (h:yX w w1 i p q b P Q S R V B U):yX w w1 (i+1) p q b P Q S R V B U:=
 { h with
  JI:=by have:=h.JI;omega
  O9:=by have:=h.O9;omega
  Ld:=by have:=h.Ld;omega
  Pj:=by have:=h.Pj;omega
  next:=by have:=h.next;omega
  lf:=by have:=h.lf;omega
  lw:=by have:=h.lw;omega
  ln:=by have:=h.ln;omega
  ew:=fun x a=>by have:=h.ew x a;omega }
def yX.swap (h:yX w w1 i p q b P Q S R V B U):yX w w1 i q p b Q P R S V B U:=
 { h with one:=h.two,two:=h.one,sr:=fun k hk hs=>h.sr k hs hk,su:=h.ru,ru:=h.su,s0:=h.r0,r0:=h.s0,JI:=h.O9,O9:=h.JI,Ld:=h.Pj,Pj:=h.Ld }
def yX.step {p':Nat} {P':eP} {S':Nat→Prop} {c:oM} {d:nG} {e:Nat→Prop} (h:yX w w1 i p q b P Q S R V B U) (hs:MN w1 w2 p' b P S B U P' S' c d e):yX w w2 (i+1) p' q b P' Q S' R c d e:=by
 have hR: ∀ k,R k→ ¬ (S k∨U k):=fun k hk a=>by
  rcases a with x | x
  ·exact h.sr k x hk
  ·exact h.ru k hk x
 refine ⟨hs.at',h.two.kept hs.kept hR,hs.book,fun k hk hr=> ?_,hs.apart,fun k hr hu=> ?_,fun k hk=> ?_,h.r0,fun k hk=> ?_,?_,?_,?_,?_,?_,?_,?_,?_,?_,fun x a=> ?_,fun x a=> ?_,fun x a=> ?_⟩
 ·rcases hs.YU k hk with x | x
  ·exact h.sr k x hr
  ·have:=h.two.lt k hr;omega
 ·rcases hs.YV k hu with x | x
  ·exact h.ru k hr x
  ·have:=h.two.lt k hr;omega
 ·rcases hs.YU k hk with x | x
  ·exact h.s0 k x
  ·have:=h.below.size;omega
 ·rcases hs.YV k hk with x | x
  ·exact h.u0 k x
  ·have:=h.below.size;omega
 ·exact h.below.trans ⟨hs.kept.os,hs.kept.tape,hs.kept.output,hs.kept.size,fun k hk=>hs.kept.block k (iL hk h.below.size) (fun a=>by
   rcases a with x | x
   ·have:=h.s0 k x;omega
   ·have:=h.u0 k x;omega)⟩
 ·have:=hs.log;have:=h.JI;omega
 ·have:=h.O9;omega
 ·have:=hs.marks;have:=h.Ld;omega
 ·have:=h.Pj;omega
 ·have:=hs.next;have:=h.next;omega
 ·have:=hs.files;have:=h.lf;omega
 ·have:=hs.writes;have:=h.lw;omega
 ·have:=hs.names;have:=h.ln;omega
 ·rcases hs.Vp x a with y | y
  ·exact h.ef x y
  ·exact y
 ·rcases hs.Vs x a with y | y
  ·have:=h.ew x y;omega
  ·have:=h.JI;omega
 ·rcases hs.Vq x a with y | y
  ·exact h.en x y
  ·exact y
def yX.stood {P':eP} {S':Nat→Prop} (h:yX w w1 i p q b P Q S R V B U) (d:P'.V.L.length=P.V.L.length) (e:P'.ms.length=P.ms.length+1) (c:dL w2 p P' S') (hk:Kept S w1 w2) (hn: ∀ k,S' k→S k∨w1.heap.size≤k):yX w w2 (i+1) p q b P' Q S' R V B U:=by
 refine h.step ⟨c,h.book.kept hk (fun k hu hs=>h.su k hs hu),om,om,om,om,om,om,fun x a=>aA a,fun x a=>aA a,fun x a=>aA a,hk.mono fun k hk=>aA hk,hn,fun k hk=>aA hk,fun k hk hu=> ?_⟩;rcases hn k hk with x | x
 ·exact h.su k x hu
 ·have:=h.book.lt k hu;omega
end
def anb (w:World):fB (w.alloc (.cells (wP ⟨zD,[]⟩ (.slice none 0 0)).toArray 70)) w.heap.size (.slice none 0 0) ⟨zD,[]⟩:=⟨aX _ _,wH _ _ _ _,⟨NV,NW⟩,fun p a=>(by cases a)⟩
def akN (w:World):kK w (.slice none 0 0) []:=⟨wH _ _ _ _,fun c hc=>(by cases hc)⟩
def VA (d v y:Nat) (Cv Lv Mv:Value) (m:yV):eP:=⟨d,v,y,Cv,Lv,.slice none 0 0,Mv,.slice none 0 0,true,xP,⟨zD,[]⟩,[],[m]⟩
def aup (hi:Int) (file:Bool) (G:eP→Prop) (hG: ∀ d v y Cv Lv Mv m,m.log=xP.L.length→m.D=⟨zD,[]⟩→G (VA d v y Cv Lv Mv m)) (aL:agB G) (A:World→lM→Prop) (aa:Xk hi file G A) (w:World) (a:Option Addr) (n cap:Nat) (ops:Nat→lM) (hs:abr w a n ops) (hA: ∀ i,i<n→ ∀ w',aC w w'→A w' (ops i)) (hn:n≤1048000):
  Calls Tryz.prog 10 #[.slice a n cap,.int .i64 hi,.bool file] w fun e w'=>e= .returned (.bool true)∧aC w w':=by
 have HG:=ah hG;have gq:=ah aL;have aM:=ah aa;have HS:=ah hs;have HA:=ah hA;have Nh:xP.L.length≤20:=as6;clear hG aL aa hs hA
 go_enter Tryz.func10,Tryz.ntmps10
 go_wp2_with fail
 refine (ahP _).mono ?_;rintro e w1 ⟨J,v1,C1,L1,rfl,T,b1,n1⟩;have D1:=ah T;have B1:=ah b1;have N1:=ah n1;clear T b1 n1
 go_wp2_with fail
 refine (ahP _).mono ?_;rintro e w2 ⟨d2,v2,C2,L2,rfl,X,b2,n2⟩;have D2:=ah X;have K:=ah b2;have N2:=ah n2;clear X b2 n2
 go_wp2_with fail
 have Y2:=ah (anb w2);have A2:Hid (aC w2 (w2.alloc (.cells (wP ⟨zD,[]⟩ (.slice none 0 0)).toArray 70))):=fC;have aq:(w2.alloc (.cells (wP ⟨zD,[]⟩ (.slice none 0 0)).toArray 70)).heap.size=w2.heap.size+1:=sm;have av:=ah aq;clear aq;refine (abI _ J v1 C1 L1 xP w2.heap.size (.slice none 0 0) (.slice none 0 0) ⟨zD,[]⟩ [] (D1.below (K.trans (A2.mono K.size))) Y2 (akN _) (fun g hg=>(by cases hg)) sm om true).mono ?_;rintro e w3 ⟨p,rfl,a8,m1,C,T,S1,h3,b3,n3⟩;have H3:=ah h3;have B3:=ah b3;have N3:=ah n3;have aR:=uh HG J v1 w2.heap.size C1 L1 a8 m1 C T;clear h3 b3 n3 Y2 C T
 go_wp2_with fail
 have Y3:=ah (anb w3);have A3:Hid (aC w3 (w3.alloc (.cells (wP ⟨zD,[]⟩ (.slice none 0 0)).toArray 70))):=fC;have ar:(w3.alloc (.cells (wP ⟨zD,[]⟩ (.slice none 0 0)).toArray 70)).heap.size=w3.heap.size+1:=sm;have aw:=ah ar;clear ar;have I:Hid (aC w2 w3):=A2.trans (B3.mono (by rw [uh av];omega));refine (abI _ d2 v2 C2 L2 xP w3.heap.size (.slice none 0 0) (.slice none 0 0) ⟨zD,[]⟩ [] (D2.below (I.trans (A3.mono I.size))) Y3 (akN _) (fun g hg=>(by cases hg)) sm om true).mono ?_;rintro e r ⟨q,rfl,Mv2,m2,F,X,S2,h4,b4,n4⟩;have a0:=uh HG d2 v2 w3.heap.size C2 L2 Mv2 m2 F X;have Y:Hid (aC w3 r):=A3.trans (b4.mono (by rw [uh aw];omega))
 have an: ∃ P Q:eP,G P∧G Q∧ ∃ S R U,yX w (r.alloc (.cells (y5 ⟨.slice none 0 0,.slice none 0 0,.slice none 0 0,.slice none 0 0,.slice none 0 0,.slice none 0 0⟩ 0).toArray 77)) 0 p q r.heap.size P Q S R ⟨.slice none 0 0,.slice none 0 0,.slice none 0 0,.slice none 0 0,.slice none 0 0,.slice none 0 0⟩ ⟨[],[],[],0⟩ U:=by
  have ax:aC r (r.alloc (.cells (y5 ⟨.slice none 0 0,.slice none 0 0,.slice none 0 0,.slice none 0 0,.slice none 0 0,.slice none 0 0⟩ 0).toArray 77)):=fC;have e1:=B1.size;have e2:=K.size;have e3:=I.size;have e4:=Y.size;have bm:=uh av;have bn:=uh aw;have f1: ∀ k,S1 k→(w.heap.size≤k∧k<w1.heap.size)∨(w2.heap.size≤k∧k<w3.heap.size):=fun k hk=>by
   have u:=H3.lt k hk;rcases uh N3 k hk with (x | x | x | x) | x
   ·exact aA ⟨uh N1 k x,D1.qV k x⟩
   ·exact ay ⟨om,u⟩
   ·cases x
   ·cases x
   ·exact ay ⟨om,u⟩
  have f2: ∀ k,S2 k→(w1.heap.size≤k∧k<w2.heap.size)∨(w3.heap.size≤k∧k<r.heap.size):=fun k hk=>by
   have u:=h4.lt k hk;rcases n4 k hk with (x | x | x | x) | x
   ·exact aA ⟨uh N2 k x,D2.qV k x⟩
   ·exact ay ⟨om,u⟩
   ·cases x
   ·cases x
   ·exact ay ⟨om,u⟩
  have H: ∀ (W:World) (t:TypeId) (sz:Nat),W.ownsRow 0 t sz (.slice none 0 0) 0 []:=fun W t sz=>wH _ _ _ _;have a9:iY (r.alloc (.cells (y5 ⟨.slice none 0 0,.slice none 0 0,.slice none 0 0,.slice none 0 0,.slice none 0 0,.slice none 0 0⟩ 0).toArray 77)) r.heap.size ⟨.slice none 0 0,.slice none 0 0,.slice none 0 0,.slice none 0 0,.slice none 0 0,.slice none 0 0⟩ ⟨[],[],[],0⟩ (fun k=>k=r.heap.size):=by
   refine ⟨aX _ _,H _ _ _,H _ _ _,H _ _ _,H _ _ _,H _ _ _,H _ _ _,fun x h=>(by cases h),fun x h=>(by cases h),fun x h=>(by cases h),fun x h=>(by cases h),rfl,fun g hg=> ?_,fun x h=>(by cases h),fun x h=>(by cases h),fun x h=>(by cases h),fun k hk=> ?_⟩
   ·rcases hg with x | x | x | x | x | x <;> cases x
   ·rw [hk];simp
  refine ⟨_,_,aR,a0,S1,S2,fun k=>k=r.heap.size,⟨(H3.below Y).below ax,h4.below ax,a9,?_,?_,?_,?_,?_,?_,?_,?_,?_,?_,?_,aO _,aO _,aO _,aO _,fun x h=>(by cases h),fun x h=>(by cases h),fun x h=>(by cases h)⟩⟩
  ·intro k hk hr;have x1:=f1 k hk;have x2:=f2 k hr;omega
  ·intro k hk hu;have x1:=f1 k hk;omega
  ·intro k hk hu;have x1:=f2 k hk;omega
  ·intro k hk;have x1:=f1 k hk;omega
  ·intro k hk;have x1:=f2 k hk;omega
  ·intro k hk;omega
  ·exact B1.trans ((K.trans ((I.trans ((Y.trans (ax.mono Y.size)).mono I.size)).mono K.size)).mono B1.size)
  ·show xP.L.length≤_;omega
  ·show xP.L.length≤_;omega
  ·show 1≤_;omega
  ·show 1≤_;omega
 obtain ⟨P0,Q0,ba,a1,S0,bb,U0,a2⟩:=an;have o:=ah a2;clear a2 b4 h4 n4 F X D1 B1 N1 D2 K N2 A2 av H3 B3 N3 A3 aw I Y3 Y aR a0
 go_wp2_with fail
 refine (uh gq _ p P0 S0 o.one ba (by have:=o.JI;omega) (by have:=o.Ld;omega)).mono ?_;rintro e w6 ⟨rfl,P1,bd,Z,C,bo,ab,ad,ae⟩;have s:=ah (o.stood Z C ab ad ae);clear o Z C ab ad ae
 go_wp2_with fail
 refine (uh gq _ q Q0 bb s.two a1 (by have:=s.O9;omega) (by have:=s.Pj;omega)).mono ?_;rintro e w7 ⟨rfl,Q1,a3,af,F,bp,ag,ai,al⟩;have WX:=ah (s.swap.stood af F ag ai al).swap;clear s af F ag ai al;generalize r.heap.size=bk at*;go_wp2
 go_loopw [9,10,14] (fun sp sq si w'=> ∃ (k p q:Nat) (P Q:eP),k≤n∧sp= .pointer (some ⟨p,0,none⟩)∧sq= .pointer (some ⟨q,0,none⟩)∧si= .int .i64 k∧G P∧G Q∧ ∃ S R V B U,yX w w' (2+k) p q bk P Q S R V B U) (fun _ _ si _=>n - (intOf si).toNat)
 case atStart=>exact ⟨0,p,q,P1,Q1,om,rfl,rfl,rfl,bd,a3,_,_,_,_,_,uh WX⟩
 case round=>
  obtain ⟨k,p,q,P,Q,hk,rfl,rfl,rfl,M,N,S,R,V,B,U,an⟩:=hrel;have o:=ah an;clear an WX
  by_cases u:k<n
  ·have bf:(k:Int)<(n:Int):=om;obtain ⟨g,oo,ha,bh,a4⟩:=HS.some om;subst ha;have bj:=HS.fits k u;have a5:=a4 k u;have a6:=o.below;have az:wr.rangeAt g (oo+k*6) (dI (ops k)):=fun j v hv=>(Md (a6.block g bh)).trans (a5 j v hv);have l1:dU wr g (oo+k*6) 6:=sU az (Nw _);have l2:dO wr g (oo+k*6) 6=dI (ops k):=qU az (Nw _);have hA:aC wr (wr.alloc (.cells (dI (ops k)).toArray 80)):=fC;have c:=ah (o.later hA);have ao:(wr.alloc (.cells (dI (ops k)).toArray 80)).heap[wr.heap.size]? = some (.cells (dI (ops k)).toArray 80 (0,0)):=aX _ _;have ck:(wr.alloc (.cells (dI (ops k)).toArray 80)).cell? ⟨wr.heap.size,0,none⟩=some (.int .i64 (ops k).kind):=by rw [aF ao 0,bZ];rfl
   have l3:dU (wr.alloc (.cells (dI (ops k)).toArray 80)) wr.heap.size 0 6:=fun j hj=>by rw [rE,aF ao,bZ,bJ (by rw [Nw];exact hj)];rfl
   have l4:dO (wr.alloc (.cells (dI (ops k)).toArray 80)) wr.heap.size 0 6=dI (ops k):=qU (fun j v hv=>by rw [rE,aF ao,bZ];exact hv) (Nw _);clear a6 a5 az hA ao a4 o
   by_cases h8:(ops k).kind=8
   ·have b8:((ops k).kind == 8)=true:=by rw [h8];rfl
    have f:=ah c.swap.on;clear h8 c
    go_wp2_with fail
    refine (Vo _ bk V B U f.book (f.low om)).mono ?_;rintro e w9 ⟨rfl,l⟩;have z:=ah (f.later l);clear l f;go_wp2;go_roundw
    case rel=>exact ⟨k+1,q,p,Q,P,om,rfl,rfl,gn,N,M,_,_,_,_,_,uh z⟩
    case measure=>exact bW
   ·have b8:((ops k).kind == 8)=false:=by rw [lY];exact h8
    have a7:=ah h8;clear h8
    by_cases hle:(ops k).kind≤hi
    ·have J:decide ((ops k).kind≤hi)=true:=dZ hle;have aD:Hid (GV hi file (ops k).kind=true):=by show GV hi file (ops k).kind=true;unfold GV;rw [J];rfl
     clear hle
     go_wp2_with fail
     refine (uh aM _ p bk P S V B U (ops k) c.one M c.book c.su (by have:=c.JI;omega) (by have:=c.Ld;omega) (by have:=c.next;omega) (by have:=c.lf;omega) (by have:=c.lw;omega) (by have:=c.ln;omega) (uh HA k u _ c.below) aD a7).mono ?_;rintro e w8 ⟨p',rfl,P',aE,S',V',B',U',O⟩;have f:=ah (c.step O);clear O c
     go_wp2_with fail
     refine (Vo _ bk V' B' U' f.book (f.low om)).mono ?_;rintro e w9 ⟨rfl,l⟩;have z:=ah (f.later l);clear l f;go_wp2;go_roundw
     case rel=>exact ⟨k+1,p',q,P',Q,om,rfl,rfl,gn,aE,N,_,_,_,_,_,uh z⟩
     case measure=>exact bW
    ·have J:decide ((ops k).kind≤hi)=false:=gK hle;clear hle;cases file with
     | false=>
      have f:=ah c.on;clear c
      go_wp2_with fail
      refine (Vo _ bk V B U f.book (f.low om)).mono ?_;rintro e w9 ⟨rfl,l⟩;have z:=ah (f.later l);clear l f;go_wp2;go_roundw
      case rel=>exact ⟨k+1,p,q,P,Q,om,rfl,rfl,gn,M,N,_,_,_,_,_,uh z⟩
      case measure=>exact bW
     | true=>
      by_cases h9:(ops k).kind=9
      ·have l:((ops k).kind == 9)=true:=by rw [h9];rfl
       have aD:Hid (GV hi true (ops k).kind=true):=by show GV hi true (ops k).kind=true;unfold GV;rw [J,dZ h9];rfl
       clear h9
       go_wp2_with fail
       refine (uh aM _ p bk P S V B U (ops k) c.one M c.book c.su (by have:=c.JI;omega) (by have:=c.Ld;omega) (by have:=c.next;omega) (by have:=c.lf;omega) (by have:=c.lw;omega) (by have:=c.ln;omega) (uh HA k u _ c.below) aD a7).mono ?_;rintro e w8 ⟨p',rfl,P',aE,S',V',B',U',O⟩;have f:=ah (c.step O);clear O c
       go_wp2_with fail
       refine (Vo _ bk V' B' U' f.book (f.low om)).mono ?_;rintro e w9 ⟨rfl,l⟩;have z:=ah (f.later l);clear l f;go_wp2;go_roundw
       case rel=>exact ⟨k+1,p',q,P',Q,om,rfl,rfl,gn,aE,N,_,_,_,_,_,uh z⟩
       case measure=>exact bW
      ·have l:((ops k).kind == 9)=false:=by rw [lY];exact h9
       clear h9;have f:=ah c.on;clear c
       go_wp2_with fail
       refine (Vo _ bk V B U f.book (f.low om)).mono ?_;rintro e w9 ⟨rfl,l⟩;have z:=ah (f.later l);clear l f;go_wp2;go_roundw
       case rel=>exact ⟨k+1,p,q,P,Q,om,rfl,rfl,gn,M,N,_,_,_,_,_,uh z⟩
       case measure=>exact bW
  ·have bf: ¬ (k:Int)<(n:Int):=om
   go_wp2_with fail
   refine (uh gq _ p P S o.one M (by have:=o.JI;omega) (by have:=o.Ld;omega)).mono ?_;rintro e w6 ⟨rfl,P2,bq,Z,C,bs,ab,ad,ae⟩;have s:=ah (o.stood Z C ab ad ae);clear o Z C ab ad ae
   go_wp2_with fail
   refine (uh gq _ q Q R s.two N (by have:=s.O9;omega) (by have:=s.Pj;omega)).mono ?_;rintro e w7 ⟨rfl,Q2,bl,af,F,bt,ag,ai,al⟩;have WX:=ah (s.swap.stood af F ag ai al);clear s af F ag ai al;go_wp2;go_ret;exact ⟨rfl,WX.below⟩
end
section
structure CJ (w w':World) (p':Nat) (P':eP) (S':Nat→Prop):Prop where
 at':dL w' p' P' S'
 stands: ∃ N1 E1,nI P' N1 E1
 base:P'.B.length≤1000
 log:P'.V.L.length=0
 marks:P'.ms.length=2
 YB: ∀ m ∈ P'.ms,m.log=0
 XK: ∀ m ∈ P'.ms,m.D=P'.D
 new: ∀ k,S' k→w.heap.size≤k
 below:aC w w'
section
variable {w w1 w':World} {p p' b:Nat} {P P':eP} {S S' U:Nat→Prop} {V:oM} {B:nG} {file:List aj}
def Xj.fresh (h:Xj w1 w' file p' P' S') (e: ∀ c ∈ file,c.length=64) (f:qY file= -1) (d:aC w w1):CJ w w' p' P' S':=by
 obtain ⟨N0,E,a⟩:=ak6 e f;have hm:=a.bH.file.most;refine ⟨h.at',⟨N0,E,⟨?_,?_,?_⟩⟩,by rw [h.B];omega,by rw [h.V];rfl,h.ms,h.YB,h.XK,fun k hk=>jL d.size (h.new k hk),d.trans (h.below.mono d.size)⟩
 ·rw [h.B,h.V];exact a.bH
 ·rw [h.V,h.D];exact a.jw.symm
 ·rw [h.V,h.ex];exact a.exact
def CJ.Ez (h:CJ w w' p' P' S') (c:iY w b V B U):MN w w' p' b P S B U P' S' V B U:=
 ⟨h.at',c.below h.below,by rw [h.log];omega,by rw [h.marks];omega,om,om,om,om,fun x a=>aA a,fun x a=>aA a,fun x a=>aA a,Kept.dQ h.below,fun k hk=>ay (h.new k hk),fun k hk=>aA hk,fun k hk hu=>by have:=h.new k hk;have:=c.lt k hu;omega⟩
end
def abt (p q y z:Nat) (w':World):Prop:=w'.cell? ⟨q,1,none⟩=some (.pointer (some ⟨z,0,none⟩))∧w'.cell? ⟨p,1,none⟩=some (.pointer (some ⟨y,0,none⟩))
def av4 (w:World) (p b:Nat) (P:eP) (S:Nat→Prop) (N0:Nat) (E:List aW) (h:dL w p P S) (k:nI P N0 E) (u:oN w) (o:lM) (hk:o.kind=12):
  Calls Tryz.prog 34 (Bc p b o) w fun e w'=> ∃ p',e= .returned (.tuple #[.pointer (some ⟨p',0,none⟩),.bool true])∧ ∃ P' S',CJ w w' p' P' S':=by
 unfold Bc;have N:=Lp w o;have hj:=O1 hk;have d:=k.bH;have W:=d.file.seven;have X:=d.file.most;have r:=d.qY;have v:=d.file.lens;have O:D9 (look P.V.C)=P.D:=by rw [d.jw];exact k.jw
 have T:P.D.L.length≤4:=by rw [← k.jw];exact d.file.iR.ig
 have H:=ah (h.below (qG w o));have m:=ah (qG w o);have x:=ah (u.below (qG w o));have c0:=H.c0;clear h k hk d u
 go_enter Tryz.func34,Tryz.ntmps34
 go_wp2_with fail
 generalize w.alloc (.cells (dI o).toArray 80)=w0 at*;refine (OD w0 _ _ _ _ _ H.ig om om).mono ?_;rintro e w1 ⟨z,rfl,s,b1⟩;have H1:=ah (H.below b1);have A:=ah (m.trans (b1.mono m.size));have R1:Hid (kK w1 z P.V.C):=⟨Ba s (lX _),v⟩;have F:=ah (x.below b1);clear b1 s H m c0 N x
 go_wp2_with fail
 refine (adW w1 z P.V.C R1 F om r).mono ?_;rintro e w2 ⟨q,Q,R,rfl,g⟩;have a:=ah (g.fresh v r A);have l:=ah (H1.below g.below);have j:=ah g.at';have G:Q.D=P.D:=g.D.trans O;clear g R1 F H1 A
 go_wp2_with fail
 have c:abt p q P.y Q.y w2.drew:=⟨j.c1,l.c1⟩;have n:=ah (aeA w2.drew Q.y P.y _ _ _ _ (j.below (bG _ w2).drew).ref (l.below (bG _ w2).drew).ref (by rw [G];omega) om);rw [G,aez.2 rfl] at n;refine xZ (abt p q P.y Q.y) 9 kr ?_;refine tk 0 c ?_;refine tk 1 c ?_;refine tk 2 c ?_;refine tk 3 c ?_;refine tk 4 c ?_;refine tk 5 c ?_;refine tk 6 c ?_;refine tk 7 c ?_;refine wo 8 fun Y J=> ?_;go_simp;go_at_call 59;refine n.mono ?_;rintro e w3 ⟨rfl,I⟩;have f:aC w2 w3:=((bG _ w2).drew).trans I;have t:abt p q P.y Q.y w3:=⟨(j.below f).c1,(l.below f).c1⟩;have K:Hid (CJ w w3 q Q R):=⟨j.below f,a.stands,a.base,a.log,a.marks,a.YB,a.XK,a.new,a.below.trans (f.mono a.below.size)⟩;clear I f n a l j;refine J _ _ (ay t) ?_;refine wo 9 fun Z M=> ?_;go_simp;refine M _ _ (aA rfl) ?_;refine sH kr ?_ _;clear c t;go_wp2;go_ret2;exact ⟨q,rfl,Q,R,uh K⟩
def av8 (w:World) (p b:Nat) (l:oN w) (o:lM) (f:Option Addr) (a rc:Nat) (g:Nat→ByteArray) (hr:o.raw= .slice f a rc) (hs:Ov w f a g) (hn:a≤maxLen) (hk:o.kind=13):
  Calls Tryz.prog 34 (Bc p b o) w fun e w'=>(e= .returned (.tuple #[.pointer (some ⟨p,0,none⟩),.bool true])∧aC w w')∨ ∃ p',e= .returned (.tuple #[.pointer (some ⟨p',0,none⟩),.bool true])∧ ∃ P' S',CJ w w' p' P' S':=by
 unfold Bc;have v:=Lp w o;have c4:(w.alloc (.cells (dI o).toArray 80)).cell? ⟨w.heap.size,4,none⟩=some (.slice f a rc):=by rw [aF (RH w o) 4,bZ,← hr];rfl
 have hj:=O1 hk;have j:=ah (qG w o);have m:=ah (l.below (qG w o));have r:=ah (hs.below (qG w o));clear hk l hs hr
 go_enter Tryz.func34,Tryz.ntmps34
 go_wp2_with fail
 generalize w.alloc (.cells (dI o).toArray 80)=w0 at*;refine (auL w0 f a rc g r hn).mono ?_;rintro e w1 ⟨s,rfl,t,_,b1⟩;have hlen:(FP g (min a 300)).length≤1000:=by unfold FP;simp;omega
 have R1:=ah t;have c:=ah (j.trans (b1.mono j.size));have h:=ah (m.below b1);clear b1 t j m r v c4;generalize FP g (min a 300)=file at*
 go_wp2_with fail
 by_cases d:qY file= -1
 ·refine (adW w1 s file R1 h hlen d).mono ?_;rintro e w2 ⟨q,Q,R,rfl,u⟩;have x:=ah (u.fresh R1.lens d c);clear u R1 h c d;go_wp2;go_ret2;exact ay ⟨q,rfl,Q,R,uh x⟩
 ·obtain ⟨n,k⟩: ∃ n:Nat,qY file=(n:Int):=Cj ((atD file).resolve_left d);refine (atL w1 s file R1 h hlen n k).mono ?_;rintro e w2 ⟨rfl,b2⟩;have y:=ah (c.trans (b2.mono c.size));clear b2 R1 h c d k;go_wp2;go_ret2;exact aA ⟨rfl,uh y⟩
def aku: ∀ (l:List yV) (i:Nat) (m:yV),l[i]? = some m→(l.flatMap Rn)[i*2]? = some (.int .i64 (m.log:Nat))∧(l.flatMap Rn)[i*2+1]? = some (.pointer (some ⟨m.d,0,none⟩))
 | [],i,m,h=>by simp at h
 | x :: r,0,m,h=>by
  obtain rfl:x=m:=by simpa using h
  exact ⟨rfl,rfl⟩
 | x :: r,i+1,m,h=>by
  have a:r[i]? = some m:=by simpa using h
  obtain ⟨c,e⟩:=aku r i m a;rw [qx,show (i+1)*2=(i*2)+1+1 by omega];exact ⟨c,e⟩
def dL.mark {w:World} {p:Nat} {P:eP} {S:Nat→Prop} {g cap i:Nat} {m:yV} (h:dL w p P S) (a:P.Mv= .slice (some ⟨g,0,none⟩) P.ms.length cap) (hi:P.ms[i]? = some m):w.cell? ⟨g,i*2,none⟩=some (.int .i64 (m.log:Nat))∧w.cell? ⟨g,i*2+1,none⟩=some (.pointer (some ⟨m.d,0,none⟩)):=by
 have hr:=h.BP;rw [a] at hr;obtain ⟨c,e⟩:=aku P.ms i m hi;exact ⟨aem hr _ _ c,aem hr _ _ e⟩
def ajE: ∀ (l:List yV) (n j:Nat),j<wQ l n→ ∃ m,l[j]? = some m∧m.log<n
 | [],n,j,h=>by simp [wQ] at h
 | x :: r,n,j,h=>by
  rw [wQ] at h
  split at h
  ·rename_i a;cases j with
   | zero=>exact ⟨x,rfl,a⟩
   | succ j=>exact ajE r n j om
  ·omega
def ajF: ∀ (l:List yV) (n:Nat),wQ l n<l.length→ ∃ m,l[wQ l n]? = some m∧n≤m.log
 | [],n,h=>by simp at h
 | x :: r,n,h=>by
  rw [wQ] at h ⊢
  split at h
  ·rename_i a;rw [au a];exact ajF r n (by simpa using h)
  ·rename_i a;rw [ak a];exact ⟨x,rfl,om⟩
structure Cx (w W:World) (p q bo:Nat) (P Q:eP) (S R:Nat→Prop) (o:lM):Prop where
 one:dL W p P S
 two:dL W q Q R
 box:W.heap[bo]? = some (.cells (dI o).toArray 80 (0,0))
 below:Below bo w W
def Cx.later {w W c:World} {p q d:Nat} {P Q:eP} {S R:Nat→Prop} {o:lM} (h:Cx w W p q d P Q S R o) (a:aC W c):Cx w c p q d P Q S R o:=
 ⟨h.one.below a,h.two.below a,(a.block _ (aK h.box)).trans h.box,h.below.trans (a.mono (SN (aK h.box)))⟩
def Ok.opens {C:List aj} {T N0:Nat} {E:List aW} {D:dR} (h:Ok C T N0 E D):qY C= -1∧D9 (look C)=D:=by
 have a:qY C= -1:=by rw [← adw h.file.lens];exact (h.file.look h.sound).1
 exact ⟨a,by rw [h.file.jw h.sound];exact h.holds⟩
def Holds (P:eP):Prop:=(∃ N0 E,nI P N0 E)∧P.B.length≤1000
def agC (_:World) (o:lM):Prop:=o.text.size≤maxLen∧o.name.size≤maxLen
def arH (d v y:Nat) (Cv Lv Mv:Value) (m:yV) (_:m.log=xP.L.length) (_:m.D=⟨zD,[]⟩):Holds (VA d v y Cv Lv Mv m):=by
 exact ⟨⟨6,[],akM,akI,fun _=>akJ⟩,by show 0≤1000;omega⟩
def Stepped.Ez {w w':World} {p b:Nat} {P:eP} {S:Nat→Prop} {B:nG} {U:Nat→Prop} {P':eP} {S':Nat→Prop} {a:oM} {c:nG} {d:Nat→Prop} (h:Stepped w w' p b P S B U P' S' a c d):MN w w' p b P S B U P' S' a c d:=
 ⟨h.at',h.book,h.log,by have:=h.marks;omega,h.next,h.files,h.writes,h.names,h.Vp,h.Vs,h.Vq,h.kept,h.YU,h.YV,h.apart⟩
section
variable {base:List aj} {V:aB} {N0:Nat} {E:List aW}
def aY.au3 (h:aY base V N0 E) (m:Nat) (hm:m<256):aQ (uV V).C m=gZ m+dN V.C (aH N0 E) m:=by
 obtain ⟨_,a⟩:=h.Zp;obtain ⟨o1,o2,c⟩:=h.complete;obtain ⟨d,e,f,_⟩:=o1.Nl o2 c;obtain ⟨_,_,g,_⟩:=d.marked e;have j:(uV V).C=(sD (iq (iG V) (wG V N0 E 256))).C:=by rw [a];unfold jQ;rw [zX]
 have k:=f m hm;rw [D8,VR,au hm] at k;rw [j,g m hm]
 have:=h.sound.jI m hm
 omega
def aY.au2 (h:aY base V N0 E):yx (uV V)=⟨(yx V).Gt,(yx V).used,0,0,0⟩:=by
 have hm:=h.YO;have a:(yx V).Gt=V.C.length:=h.file.Ll;have c:(yx V).used=bF (PY V N0 E) 256:=h.used;rw [hm.bH.check hm.exact,hm.bH.file.Ll,hm.len,a,c];have d:bF (PY (uV V) N0 E) 256=bF (PY V N0 E) 256:=abV 256 fun n hn=>by
  unfold PY;rw [← hm.exact.eq n hn,h.au3 n hn]
 rw [d]
end
structure Gp (w w':World) (p':Nat) (P':eP) (S':Nat→Prop):Prop where
 at':dL w' p' P' S'
 holds:Holds P'
 Yi:Gl P'
 log:P'.V.L.length≤100
 marks:P'.ms.length≤3
 new: ∀ k,S' k→w.heap.size≤k
 below:aC w w'
section
variable {w w0 w1 w2 w3:World} {q b:Nat} {P Q Q1:eP} {R R1 R2 S U:Nat→Prop} {N1:Nat} {E1:List aW} {Mv2:Value} {m2:yV} {V:oM} {B:nG}
def CJ.later (h:CJ w w0 q Q R) (a:aC w0 w1):CJ w w1 q Q R:={ h with at':=h.at'.below a,below:=h.below.trans (a.mono h.below.size) }
def CJ.Yi (h:CJ w w0 q Q R):Gl Q:=by
 obtain ⟨N,E,a⟩:=h.stands;have hm:=h.marks;exact Gl.fresh a (fun e=>by rw [e] at hm;cases hm) (fun m c=>by rw [h.YB m c,h.log]) h.XK
def Below.akZ {n:Nat} {T:Nat→Prop} (a:Below n w w1) (hk:Kept T w1 w2) (hn: ∀ k,T k→n≤k) (hs:n≤w.heap.size):Below n w w2:=
 a.trans ⟨hk.os,hk.tape,hk.output,hk.size,fun k c=>hk.block k (iL c (jL hs a.size)) (fun d=>by have:=hn k d;omega)⟩
def CJ.as9 (h:CJ w w0 q Q R) (g:aC w0 w1) (a:MC w1 w2 q Q R Q1 R1) (c:nI Q1 N1 E1) (j:m2.log=Q1.V.L.length) (l:m2.D=Q1.D)
  (m:dL w3 q { Q1 with Mv:=Mv2,ms:=Q1.ms++[m2] } R2) (n:Kept R1 w2 w3) (o: ∀ k,R2 k→R1 k∨w2.heap.size≤k):Gp w w3 q { Q1 with Mv:=Mv2,ms:=Q1.ms++[m2] } R2:=by
 have b1:aC w w1:=h.below.trans (g.mono h.below.size);have b2:=Below.akZ b1 a.kept h.new (aO _);have n1: ∀ k,R1 k→w.heap.size≤k:=fun k hk=>(a.new k hk).elim (h.new k) (fun x=>jL b1.size x);have r:=Below.akZ b2 n n1 (aO _);have d:=h.stands;obtain ⟨N,E,d⟩:=d;have e:=a.log;rw [h.log] at e;have f:=h.marks;refine ⟨m,⟨⟨N1,E1,c.bH,c.jw,c.exact⟩,by show Q1.B.length≤1000;rw [a.base];exact h.base⟩,?_,by show Q1.V.L.length≤100;omega,by show (Q1.ms++[m2]).length≤3;rw [a.marks,oL,f];exact aO _,fun k hk=>(o k hk).elim (n1 k) (fun x=>jL b2.size x),r⟩;exact h.Yi.grow (P':={ Q1 with Mv:=Mv2,ms:=Q1.ms++[m2] }) a.cut d.bH.log a.base (by show Q1.ms++[m2]=_;rw [a.marks]) j l (by show Q1.D.L.length≤4;rw [← c.jw];exact c.bH.file.iR.ig)
def Gp.later (h:Gp w w0 q Q R) (a:aC w0 w1):Gp w w1 q Q R:={ h with at':=h.at'.below a,below:=h.below.trans (a.mono h.below.size) }
def Gp.Ez (h:Gp w w1 q Q R) (c:iY w b V B U) (d:0<P.ms.length):MN w w1 q b P S B U Q R V B U:=
 ⟨h.at',c.below h.below,by have:=h.log;omega,by have:=h.marks;omega,om,om,om,om,fun x a=>aA a,fun x a=>aA a,fun x a=>aA a,Kept.dQ h.below,fun k hk=>ay (h.new k hk),fun k hk=>aA hk,fun k hk hu=>by have:=h.new k hk;have:=c.lt k hu;omega⟩
end
end
end Go.Proofs.YtknjjjenklfeoaaGreatDoor
