import Derived.Test.YtknjjjenklfeoaaGreatDoorO40
set_option maxHeartbeats 8000000
set_option maxRecDepth 100000
set_option linter.all false
namespace Go.Proofs.YtknjjjenklfeoaaGreatDoor
open Go.RowKit
section
attribute [local go_sem ↓] J7 atU avn Ns
attribute [local go_sem] KG atc as7
theorem asT {w:World}:(aaf #[]).run Tryz.prog w= .ok (.agg (vZ ⟨zD,[]⟩ (.slice none 0 0)).toArray) w:=by
 have hz:=(uI (P:=Tryz.prog) (t:=70) (v:= .agg (vZ ⟨zD,[]⟩ (.slice none 0 0)).toArray) (n:=4097) kr).1;exact KF w 70 _ (.agg (vZ ⟨zD,[]⟩ (.slice none 0 0)).toArray) #[(0,4096),(4096,1)] #[] _ Tryz.underlying70 hz (fun w=>kr) rfl
attribute [local go_sem] asT
structure ZX (w:World) (a:Option Addr) (n:Nat) (ops:Nat→nZ):Prop where
 some:0<n→ ∃ g o,a=some ⟨g,o,none⟩∧g<w.heap.size∧ ∀ i,i<n→w.rangeAt g (o+i*6) (dH (ops i))
 fits: ∀ i,i<n→(ops i).Fits
 text: ∀ i,i<n→(ops i).text.size≤maxLen∧(ops i).name.size≤maxLen
def I4 (hi:Int) (file:Bool) (k:Int):Bool:=decide (k≤hi) || (file && decide (k=9))
structure Py (w w':World) (p' b:Nat) (P:gW) (S:Nat→Prop) (B:lX) (U:Nat→Prop) (P':gW) (S':Nat→Prop) (V':ou) (B':lX) (U':Nat→Prop):Prop where
 at':dO w' p' P' S'
 book:iK w' b V' B' U'
 log:P'.V.L.length≤P.V.L.length+100
 marks:P'.ms.length≤P.ms.length+2
 next:B'.next≤B.next+2
 files:B'.files.length≤B.files.length+4
 writes:B'.writes.length≤B.writes.length+4
 names:B'.names.length≤B.names.length+4
 TY: ∀ x ∈ B'.files,x ∈ B.files∨x.n≤258
 Uc: ∀ x ∈ B'.writes,x ∈ B.writes∨x.n≤P.V.L.length+2
 Ua: ∀ x ∈ B'.names,x ∈ B.names∨x.n≤8
 kept:Kept (fun k=>S k∨U k) w w'
 XA: ∀ k,S' k→S k∨w.heap.size≤k
 XB: ∀ k,U' k→U k∨w.heap.size≤k
 apart: ∀ k,S' k→ ¬ U' k
def aeX (G:gW→Prop):Prop:= ∀ w p P S,dO w p P S→G P→P.V.L.length≤300000000→P.ms.length≤1000000000→
 Calls Tryz.prog 33 #[.pointer (some ⟨p,0,none⟩)] w fun e w'=>e= .returned (.bool true)∧ ∃ P',G P'∧P'.V.L.length=P.V.L.length∧P'.ms.length=P.ms.length+1∧ ∃ S',dO w' p P' S'∧Kept S w w'∧ ∀ k,S' k→S k∨w.heap.size≤k
def Z5 (hi:Int) (file:Bool) (G:gW→Prop) (A:World→nZ→Prop):Prop:= ∀ w p b P S V B U o,dO w p P S→G P→iK w b V B U→(∀ k,S k→ ¬ U k)→P.V.L.length≤300000000→P.ms.length≤900000000→B.next≤900000000→B.files.length≤900000000→B.writes.length≤900000000→B.names.length≤900000000→A w o→I4 hi file o.kind=true→o.kind≠8→
 Calls Tryz.prog 34 (CB p b o) w fun e w'=> ∃ p',e= .returned (.tuple #[.pointer (some ⟨p',0,none⟩),.bool true])∧ ∃ P',G P'∧ ∃ S' V' B' U',Py w w' p' b P S B U P' S' V' B' U'
structure yj (w w':World) (i p q b:Nat) (P Q:gW) (S R:Nat→Prop) (V:ou) (B:lX) (U:Nat→Prop):Prop where
 one:dO w' p P S
 two:dO w' q Q R
 book:iK w' b V B U
 sr: ∀ k,S k→ ¬ R k
 su: ∀ k,S k→ ¬ U k
 ru: ∀ k,R k→ ¬ U k
 s0: ∀ k,S k→w.heap.size≤k
 r0: ∀ k,R k→w.heap.size≤k
 u0: ∀ k,U k→w.heap.size≤k
 below:aC w w'
 IW:P.V.L.length≤20+100*i
 NU:Q.V.L.length≤20+100*i
 J8:P.ms.length≤4+2*i
 NZ:Q.ms.length≤4+2*i
 next:B.next≤2*i
 lf:B.files.length≤4*i
 lw:B.writes.length≤4*i
 ln:B.names.length≤4*i
 ef: ∀ x ∈ B.files,x.n≤258
 ew: ∀ x ∈ B.writes,x.n≤100+100*i
 en: ∀ x ∈ B.names,x.n≤8
section
variable {w w1 w2:World} {i p q b:Nat} {P Q:gW} {S R:Nat→Prop} {V:ou} {B:lX} {U:Nat→Prop}
theorem yj.low (h:yj w w1 i p q b P Q S R V B U) (hi:i≤1048576):aec B:=
 ⟨by have:=h.ln;omega,by have:=h.lf;omega,by have:=h.lw;omega,fun x hx=>by have:=h.en x hx;omega,fun x hx=>by have:=h.ef x hx;omega,fun x hx=>by have:=h.ew x hx;omega⟩
theorem yj.later (h:yj w w1 i p q b P Q S R V B U) (hb:aC w1 w2):yj w w2 i p q b P Q S R V B U:=
 { h with one:=h.one.below hb,two:=h.two.below hb,book:=h.book.below hb,below:=h.below.trans (hb.mono h.below.size) }
theorem yj.on (h:yj w w1 i p q b P Q S R V B U):yj w w1 (i+1) p q b P Q S R V B U:=
 { h with
  IW:=by have:=h.IW;omega
  NU:=by have:=h.NU;omega
  J8:=by have:=h.J8;omega
  NZ:=by have:=h.NZ;omega
  next:=by have:=h.next;omega
  lf:=by have:=h.lf;omega
  lw:=by have:=h.lw;omega
  ln:=by have:=h.ln;omega
  ew:=fun x hx=>by have:=h.ew x hx;omega }
theorem yj.swap (h:yj w w1 i p q b P Q S R V B U):yj w w1 i q p b Q P R S V B U:=
 { h with one:=h.two,two:=h.one,sr:=fun k hk hs=>h.sr k hs hk,su:=h.ru,ru:=h.su,s0:=h.r0,r0:=h.s0,IW:=h.NU,NU:=h.IW,J8:=h.NZ,NZ:=h.J8 }
theorem yj.step {p':Nat} {P':gW} {S':Nat→Prop} {V':ou} {B':lX} {U':Nat→Prop} (h:yj w w1 i p q b P Q S R V B U) (hs:Py w1 w2 p' b P S B U P' S' V' B' U'):yj w w2 (i+1) p' q b P' Q S' R V' B' U':=by
 have hR: ∀ k,R k→ ¬ (S k∨U k):=fun k hk hx=>by
  rcases hx with x | x
  ·exact h.sr k x hk
  ·exact h.ru k hk x
 refine ⟨hs.at',h.two.kept hs.kept hR,hs.book,fun k hk hr=> ?_,hs.apart,fun k hr hu=> ?_,fun k hk=> ?_,h.r0,fun k hk=> ?_,?_,?_,?_,?_,?_,?_,?_,?_,?_,fun x hx=> ?_,fun x hx=> ?_,fun x hx=> ?_⟩
 ·rcases hs.XA k hk with x | x
  ·exact h.sr k x hr
  ·have:=h.two.lt k hr;omega
 ·rcases hs.XB k hu with x | x
  ·exact h.ru k hr x
  ·have:=h.two.lt k hr;omega
 ·rcases hs.XA k hk with x | x
  ·exact h.s0 k x
  ·have:=h.below.size;omega
 ·rcases hs.XB k hk with x | x
  ·exact h.u0 k x
  ·have:=h.below.size;omega
 ·exact h.below.trans ⟨hs.kept.os,hs.kept.tape,hs.kept.output,hs.kept.size,fun k hk=>hs.kept.block k (iZ hk h.below.size) (fun hx=>by
   rcases hx with x | x
   ·have:=h.s0 k x;omega
   ·have:=h.u0 k x;omega)⟩
 ·have:=hs.log;have:=h.IW;omega
 ·have:=h.NU;omega
 ·have:=hs.marks;have:=h.J8;omega
 ·have:=h.NZ;omega
 ·have:=hs.next;have:=h.next;omega
 ·have:=hs.files;have:=h.lf;omega
 ·have:=hs.writes;have:=h.lw;omega
 ·have:=hs.names;have:=h.ln;omega
 ·rcases hs.TY x hx with y | y
  ·exact h.ef x y
  ·exact y
 ·rcases hs.Uc x hx with y | y
  ·have:=h.ew x y;omega
  ·have:=h.IW;omega
 ·rcases hs.Ua x hx with y | y
  ·exact h.en x y
  ·exact y
theorem yj.stood {P':gW} {S':Nat→Prop} (h:yj w w1 i p q b P Q S R V B U) (h1:P'.V.L.length=P.V.L.length) (h2:P'.ms.length=P.ms.length+1) (ha:dO w2 p P' S') (hk:Kept S w1 w2) (hn: ∀ k,S' k→S k∨w1.heap.size≤k):yj w w2 (i+1) p q b P' Q S' R V B U:=by
 refine h.step ⟨ha,h.book.kept hk (fun k hu hs=>h.su k hs hu),om,om,om,om,om,om,fun x hx=>aA hx,fun x hx=>aA hx,fun x hx=>aA hx,hk.mono fun k hk=>aA hk,hn,fun k hk=>aA hk,fun k hk hu=> ?_⟩;rcases hn k hk with x | x
 ·exact h.su k x hu
 ·have:=h.book.lt k hu;omega
end
theorem ak8 (w:World):eP (w.alloc (.cells (vZ ⟨zD,[]⟩ (.slice none 0 0)).toArray 70)) w.heap.size (.slice none 0 0) ⟨zD,[]⟩:=⟨aW _ _,wF _ _ _ _,⟨MK,ML⟩,fun p hp=>(by cases hp)⟩
theorem aiY (w:World):lK w (.slice none 0 0) []:=⟨wF _ _ _ _,fun c hc=>(by cases hc)⟩
def aiV (d v y:Nat) (Cv Lv Mv:Value) (m:Pn):gW:=⟨d,v,y,Cv,Lv,.slice none 0 0,Mv,.slice none 0 0,true,zf,⟨zD,[]⟩,[],[m]⟩
theorem arX (hi:Int) (file:Bool) (G:gW→Prop) (hG: ∀ d v y Cv Lv Mv m,G (aiV d v y Cv Lv Mv m)) (ahK:aeX G) (A:World→nZ→Prop) (hstep:Z5 hi file G A) (w:World) (a:Option Addr) (n cap:Nat) (ops:Nat→nZ) (hs:ZX w a n ops) (hA: ∀ i,i<n→ ∀ w',aC w w'→A w' (ops i)) (hn:n≤1048000):
  Calls Tryz.prog 10 #[.slice a n cap,.int .i64 hi,.bool file] w fun e w'=>e= .returned (.bool true)∧aC w w':=by
 have HG:=ah hG;have fK:=ah ahK;have Hsp:=ah hstep;have HS:=ah hs;have HA:=ah hA;have LH:zf.L.length≤20:=aqI;clear hG ahK hstep hs hA
 go_enter Tryz.func10,Tryz.ntmps10
 go_wp2_with fail
 refine (agc _).mono ?_;rintro e w1 ⟨d1,v1,C1,L1,rfl,hd1,b1,n1⟩;have D1:=ah hd1;have B1:=ah b1;have N1:=ah n1;clear hd1 b1 n1
 go_wp2_with fail
 refine (agc _).mono ?_;rintro e w2 ⟨d2,v2,C2,L2,rfl,hd2,b2,n2⟩;have D2:=ah hd2;have B2:=ah b2;have N2:=ah n2;clear hd2 b2 n2
 go_wp2_with fail
 have Y2:=ah (ak8 w2);have A2:Hid (aC w2 (w2.alloc (.cells (vZ ⟨zD,[]⟩ (.slice none 0 0)).toArray 70))):=fC;have hsz2:(w2.alloc (.cells (vZ ⟨zD,[]⟩ (.slice none 0 0)).toArray 70)).heap.size=w2.heap.size+1:=sm;have ZK:=ah hsz2;clear hsz2;refine (aal _ d1 v1 C1 L1 zf w2.heap.size (.slice none 0 0) (.slice none 0 0) ⟨zD,[]⟩ [] (D1.below (B2.trans (A2.mono B2.size))) Y2 (aiY _) (fun g hg=>(by cases hg)) sm om true).mono ?_;rintro e w3 ⟨p,rfl,Mv1,m1,hm1,hd1,S1,h3,b3,n3⟩;have H3:=ah h3;have B3:=ah b3;have N3:=ah n3;clear h3 b3 n3 Y2 hm1 hd1;have hP1:=uh HG d1 v1 w2.heap.size C1 L1 Mv1 m1
 go_wp2_with fail
 have Y3:=ah (ak8 w3);have A3:Hid (aC w3 (w3.alloc (.cells (vZ ⟨zD,[]⟩ (.slice none 0 0)).toArray 70))):=fC;have hsz3:(w3.alloc (.cells (vZ ⟨zD,[]⟩ (.slice none 0 0)).toArray 70)).heap.size=w3.heap.size+1:=sm;have ZL:=ah hsz3;clear hsz3;have B23:Hid (aC w2 w3):=A2.trans (B3.mono (by rw [uh ZK];omega));refine (aal _ d2 v2 C2 L2 zf w3.heap.size (.slice none 0 0) (.slice none 0 0) ⟨zD,[]⟩ [] (D2.below (B23.trans (A3.mono B23.size))) Y3 (aiY _) (fun g hg=>(by cases hg)) sm om true).mono ?_;rintro e w4 ⟨q,rfl,Mv2,m2,hm2,hd2,S2,h4,b4,n4⟩;have hP2:=uh HG d2 v2 w3.heap.size C2 L2 Mv2 m2;have B34:Hid (aC w3 w4):=A3.trans (b4.mono (by rw [uh ZL];omega))
 have hPl: ∃ P Q:gW,G P∧G Q∧ ∃ S R U,yj w (w4.alloc (.cells (yw ⟨.slice none 0 0,.slice none 0 0,.slice none 0 0,.slice none 0 0,.slice none 0 0,.slice none 0 0⟩ 0).toArray 77)) 0 p q w4.heap.size P Q S R ⟨.slice none 0 0,.slice none 0 0,.slice none 0 0,.slice none 0 0,.slice none 0 0,.slice none 0 0⟩ ⟨[],[],[],0⟩ U:=by
  have hb5:aC w4 (w4.alloc (.cells (yw ⟨.slice none 0 0,.slice none 0 0,.slice none 0 0,.slice none 0 0,.slice none 0 0,.slice none 0 0⟩ 0).toArray 77)):=fC;have e1:=B1.size;have e2:=B2.size;have e3:=B23.size;have e4:=B34.size;have hs2:=uh ZK;have hs3:=uh ZL;have f1: ∀ k,S1 k→(w.heap.size≤k∧k<w1.heap.size)∨(w2.heap.size≤k∧k<w3.heap.size):=fun k hk=>by
   have hlt:=H3.lt k hk;rcases uh N3 k hk with (x | x | x | x) | x
   ·exact aA ⟨uh N1 k x,D1.qG k x⟩
   ·exact ay ⟨om,hlt⟩
   ·cases x
   ·cases x
   ·exact ay ⟨om,hlt⟩
  have f2: ∀ k,S2 k→(w1.heap.size≤k∧k<w2.heap.size)∨(w3.heap.size≤k∧k<w4.heap.size):=fun k hk=>by
   have hlt:=h4.lt k hk;rcases n4 k hk with (x | x | x | x) | x
   ·exact aA ⟨uh N2 k x,D2.qG k x⟩
   ·exact ay ⟨om,hlt⟩
   ·cases x
   ·cases x
   ·exact ay ⟨om,hlt⟩
  have nil0: ∀ (W:World) (t:TypeId) (sz:Nat),W.ownsRow 0 t sz (.slice none 0 0) 0 []:=fun W t sz=>wF _ _ _ _;have hbk:iK (w4.alloc (.cells (yw ⟨.slice none 0 0,.slice none 0 0,.slice none 0 0,.slice none 0 0,.slice none 0 0,.slice none 0 0⟩ 0).toArray 77)) w4.heap.size ⟨.slice none 0 0,.slice none 0 0,.slice none 0 0,.slice none 0 0,.slice none 0 0,.slice none 0 0⟩ ⟨[],[],[],0⟩ (fun k=>k=w4.heap.size):=by
   refine ⟨aW _ _,nil0 _ _ _,nil0 _ _ _,nil0 _ _ _,nil0 _ _ _,nil0 _ _ _,nil0 _ _ _,fun x hx=>(by cases hx),fun x hx=>(by cases hx),fun x hx=>(by cases hx),fun x hx=>(by cases hx),rfl,fun g hg=> ?_,fun x hx=>(by cases hx),fun x hx=>(by cases hx),fun x hx=>(by cases hx),fun k hk=> ?_⟩
   ·rcases hg with x | x | x | x | x | x <;> cases x
   ·rw [hk];simp
  refine ⟨_,_,hP1,hP2,S1,S2,fun k=>k=w4.heap.size,⟨(H3.below B34).below hb5,h4.below hb5,hbk,?_,?_,?_,?_,?_,?_,?_,?_,?_,?_,?_,aP _,aP _,aP _,aP _,fun x hx=>(by cases hx),fun x hx=>(by cases hx),fun x hx=>(by cases hx)⟩⟩
  ·intro k hk hr;have x1:=f1 k hk;have x2:=f2 k hr;omega
  ·intro k hk hu;have x1:=f1 k hk;omega
  ·intro k hk hu;have x1:=f2 k hk;omega
  ·intro k hk;have x1:=f1 k hk;omega
  ·intro k hk;have x1:=f2 k hk;omega
  ·intro k hk;omega
  ·exact B1.trans ((B2.trans ((B23.trans ((B34.trans (hb5.mono B34.size)).mono B23.size)).mono B2.size)).mono B1.size)
  ·show zf.L.length≤_;omega
  ·show zf.L.length≤_;omega
  ·show 1≤_;omega
  ·show 1≤_;omega
 obtain ⟨P0,Q0,hG0,hG0',S0,R0',U0,ag8⟩:=hPl;have xA:=ah ag8;clear ag8 b4 h4 n4 hm2 hd2 D1 B1 N1 D2 B2 N2 A2 ZK H3 B3 N3 A3 ZL B23 Y3 B34 hP1 hP2
 go_wp2_with fail
 refine (uh fK _ p P0 S0 xA.one hG0 (by have:=xA.IW;omega) (by have:=xA.J8;omega)).mono ?_;rintro e w6 ⟨rfl,P1,hG1,hl1,hm1,S1',ha1,hk1,hn1⟩;have Gf:=ah (xA.stood hl1 hm1 ha1 hk1 hn1);clear xA hl1 hm1 ha1 hk1 hn1
 go_wp2_with fail
 refine (uh fK _ q Q0 R0' Gf.two hG0' (by have:=Gf.NU;omega) (by have:=Gf.NZ;omega)).mono ?_;rintro e w7 ⟨rfl,Q1,hG1',hl2,hm2,R1',ha2,hk2,hn2⟩;have Vr:=ah (Gf.swap.stood hl2 hm2 ha2 hk2 hn2).swap;clear Gf hl2 hm2 ha2 hk2 hn2;generalize w4.heap.size=bk at*;go_wp2
 go_loopw [9,10,14] (fun sp sq si w'=> ∃ (k p q:Nat) (P Q:gW),k≤n∧sp= .pointer (some ⟨p,0,none⟩)∧sq= .pointer (some ⟨q,0,none⟩)∧si= .int .i64 k∧G P∧G Q∧ ∃ S R V B U,yj w w' (2+k) p q bk P Q S R V B U) (fun _ _ si _=>n - (intOf si).toNat)
 case atStart=>exact ⟨0,p,q,P1,Q1,om,rfl,rfl,rfl,hG1,hG1',_,_,_,_,_,uh Vr⟩
 case round=>
  obtain ⟨k,p,q,P,Q,hk,rfl,rfl,rfl,PV,PW,S,R,V,B,U,hPl⟩:=hrel;have xA:=ah hPl;clear hPl Vr
  by_cases hlt:k<n
  ·have hki:(k:Int)<(n:Int):=om;obtain ⟨g,oo,ha,hgl,hrg⟩:=HS.some om;subst ha;have hfit:=HS.fits k hlt;have hrk:=hrg k hlt;have hbl:=xA.below;have hrw:wr.rangeAt g (oo+k*6) (dH (ops k)):=fun j v hv=>(OX (hbl.block g hgl)).trans (hrk j v hv);have l1:dN wr g (oo+k*6) 6:=sV hrw (LV _);have l2:dI wr g (oo+k*6) 6=dH (ops k):=qX hrw (LV _);have hA:aC wr (wr.alloc (.cells (dH (ops k)).toArray 80)):=fC;have qV:=ah (xA.later hA);have hbx:(wr.alloc (.cells (dH (ops k)).toArray 80)).heap[wr.heap.size]? = some (.cells (dH (ops k)).toArray 80 (0,0)):=aW _ _;have ck:(wr.alloc (.cells (dH (ops k)).toArray 80)).cell? ⟨wr.heap.size,0,none⟩=some (.int .i64 (ops k).kind):=by rw [aG hbx 0,bW];rfl
   have l3:dN (wr.alloc (.cells (dH (ops k)).toArray 80)) wr.heap.size 0 6:=fun j hj=>by rw [qR,aG hbx,bW,bI (by rw [LV];exact hj)];rfl
   have l4:dI (wr.alloc (.cells (dH (ops k)).toArray 80)) wr.heap.size 0 6=dH (ops k):=qX (fun j v hv=>by rw [qR,aG hbx,bW];exact hv) (LV _);clear hbl hrk hrw hA hbx hrg xA
   by_cases h8:(ops k).kind=8
   ·have b8:((ops k).kind == 8)=true:=by rw [h8];rfl
    have uJ:=ah qV.swap.on;clear h8 qV
    go_wp2_with fail
    refine (TW _ bk V B U uJ.book (uJ.low om)).mono ?_;rintro e w9 ⟨rfl,b9⟩;have Jz:=ah (uJ.later b9);clear b9 uJ;go_wp2;go_roundw
    case rel=>exact ⟨k+1,q,p,Q,P,om,rfl,rfl,gn,PW,PV,_,_,_,_,_,uh Jz⟩
    case measure=>exact cO
   ·have b8:((ops k).kind == 8)=false:=by rw [lI];exact h8
    have Hk8:=ah h8;clear h8
    by_cases hle:(ops k).kind≤hi
    ·have d1:decide ((ops k).kind≤hi)=true:=eH hle;have Hpl:Hid (I4 hi file (ops k).kind=true):=by show I4 hi file (ops k).kind=true;unfold I4;rw [d1];rfl
     clear hle
     go_wp2_with fail
     refine (uh Hsp _ p bk P S V B U (ops k) qV.one PV qV.book qV.su (by have:=qV.IW;omega) (by have:=qV.J8;omega) (by have:=qV.next;omega) (by have:=qV.lf;omega) (by have:=qV.lw;omega) (by have:=qV.ln;omega) (uh HA k hlt _ qV.below) Hpl Hk8).mono ?_;rintro e w8 ⟨p',rfl,P',abf,S',V',B',U',hstp⟩;have uJ:=ah (qV.step hstp);clear hstp qV
     go_wp2_with fail
     refine (TW _ bk V' B' U' uJ.book (uJ.low om)).mono ?_;rintro e w9 ⟨rfl,b9⟩;have Jz:=ah (uJ.later b9);clear b9 uJ;go_wp2;go_roundw
     case rel=>exact ⟨k+1,p',q,P',Q,om,rfl,rfl,gn,abf,PW,_,_,_,_,_,uh Jz⟩
     case measure=>exact cO
    ·have d1:decide ((ops k).kind≤hi)=false:=gU hle;clear hle;cases file with
     | false=>
      have uJ:=ah qV.on;clear qV
      go_wp2_with fail
      refine (TW _ bk V B U uJ.book (uJ.low om)).mono ?_;rintro e w9 ⟨rfl,b9⟩;have Jz:=ah (uJ.later b9);clear b9 uJ;go_wp2;go_roundw
      case rel=>exact ⟨k+1,p,q,P,Q,om,rfl,rfl,gn,PV,PW,_,_,_,_,_,uh Jz⟩
      case measure=>exact cO
     | true=>
      by_cases h9:(ops k).kind=9
      ·have b9:((ops k).kind == 9)=true:=by rw [h9];rfl
       have Hpl:Hid (I4 hi true (ops k).kind=true):=by show I4 hi true (ops k).kind=true;unfold I4;rw [d1,eH h9];rfl
       clear h9
       go_wp2_with fail
       refine (uh Hsp _ p bk P S V B U (ops k) qV.one PV qV.book qV.su (by have:=qV.IW;omega) (by have:=qV.J8;omega) (by have:=qV.next;omega) (by have:=qV.lf;omega) (by have:=qV.lw;omega) (by have:=qV.ln;omega) (uh HA k hlt _ qV.below) Hpl Hk8).mono ?_;rintro e w8 ⟨p',rfl,P',abf,S',V',B',U',hstp⟩;have uJ:=ah (qV.step hstp);clear hstp qV
       go_wp2_with fail
       refine (TW _ bk V' B' U' uJ.book (uJ.low om)).mono ?_;rintro e w9 ⟨rfl,b9⟩;have Jz:=ah (uJ.later b9);clear b9 uJ;go_wp2;go_roundw
       case rel=>exact ⟨k+1,p',q,P',Q,om,rfl,rfl,gn,abf,PW,_,_,_,_,_,uh Jz⟩
       case measure=>exact cO
      ·have b9:((ops k).kind == 9)=false:=by rw [lI];exact h9
       clear h9;have uJ:=ah qV.on;clear qV
       go_wp2_with fail
       refine (TW _ bk V B U uJ.book (uJ.low om)).mono ?_;rintro e w9 ⟨rfl,b9⟩;have Jz:=ah (uJ.later b9);clear b9 uJ;go_wp2;go_roundw
       case rel=>exact ⟨k+1,p,q,P,Q,om,rfl,rfl,gn,PV,PW,_,_,_,_,_,uh Jz⟩
       case measure=>exact cO
  ·have hki: ¬ (k:Int)<(n:Int):=om
   go_wp2_with fail
   refine (uh fK _ p P S xA.one PV (by have:=xA.IW;omega) (by have:=xA.J8;omega)).mono ?_;rintro e w6 ⟨rfl,P2,hG2,hl1,hm1,S2',ha1,hk1,hn1⟩;have Gf:=ah (xA.stood hl1 hm1 ha1 hk1 hn1);clear xA hl1 hm1 ha1 hk1 hn1
   go_wp2_with fail
   refine (uh fK _ q Q R Gf.two PW (by have:=Gf.NU;omega) (by have:=Gf.NZ;omega)).mono ?_;rintro e w7 ⟨rfl,Q2,hG2',hl2,hm2,R2',ha2,hk2,hn2⟩;have Vr:=ah (Gf.swap.stood hl2 hm2 ha2 hk2 hn2);clear Gf hl2 hm2 ha2 hk2 hn2;go_wp2;go_ret;exact ⟨rfl,Vr.below⟩
end
def Holds (P:gW):Prop:=(∃ N0 E,pF P N0 E)∧P.B.length≤1000
def aeY (_:World) (o:nZ):Prop:=o.text.size≤maxLen∧o.name.size≤maxLen
theorem apn (d v y:Nat) (Cv Lv Mv:Value) (m:Pn):Holds (aiV d v y Cv Lv Mv m):=by
 exact ⟨⟨6,[],aqL,aqD,fun _=>aqF⟩,by show 0≤1000;omega⟩
theorem apo:aeX Holds:=by
 intro w p P S h hG hL hms;obtain ⟨⟨N0,E,hst⟩,hB⟩:=hG;refine (UE w p P S N0 E h hst om hB hms).mono ?_;rintro e w' ⟨rfl,Mv,m,_,_,S',h',hk,hn⟩;exact ⟨rfl,{ P with Mv:=Mv,ms:=P.ms++[m] },⟨⟨N0,E,hst.bP,hst.nS,hst.exact⟩,hB⟩,rfl,sm,S',h',hk,hn⟩
theorem Stepped.Jg {w w':World} {p b:Nat} {P:gW} {S:Nat→Prop} {B:lX} {U:Nat→Prop} {P':gW} {S':Nat→Prop} {V':ou} {B':lX} {U':Nat→Prop} (h:Stepped w w' p b P S B U P' S' V' B' U'):Py w w' p b P S B U P' S' V' B' U':=
 ⟨h.at',h.book,h.log,by have:=h.marks;omega,h.next,h.files,h.writes,h.names,h.TY,h.Uc,h.Ua,h.kept,h.XA,h.XB,h.apart⟩
theorem Ends.goes {w w':World} {p b:Nat} {P:gW} {S:Nat→Prop} {B:lX} {U:Nat→Prop} (h:Ends w w' p b P S B U) (hB:P.B.length≤1000): ∃ P',Holds P'∧ ∃ S' V' B' U',Py w w' p b P S B U P' S' V' B' U':=
 let ⟨P',N1,E',hst,S',V',B',U',hs⟩:=h
 ⟨P',⟨⟨N1,E',hst⟩,by rw [hs.base];exact hB⟩,S',V',B',U',hs.Jg⟩
section
attribute [local go_sem ↓] J7
attribute [local go_sem] KG jc jd
theorem atK (w:World) (p b:Nat) (P:gW) (S U:Nat→Prop) (N0:Nat) (E:List aX) (V:ou) (B:lX) (h:dO w p P S) (hst:pF P N0 E) (hb:iK w b V B U) (pX: ∀ k,S k→ ¬ U k) (hL:P.V.L.length≤300000000) (hBl:P.B.length≤1000) (hms:P.ms.length≤1000000000) (o:nZ) (hn:o.name.size≤maxLen) (hk:o.kind=5):
  Calls Tryz.prog 34 (CB p b o) w fun e w'=>e= .returned (.tuple #[.pointer (some ⟨p,0,none⟩),.bool true])∧Ends w w' p b P S B U:=by
 unfold CB;have ck:=LW w o;have l1:=aco w o;have l2:=acn w o;have hj:=Qe hk;have H:=ah h;have HB:=ah hb;have HS:=ah hst;have B0:=ah (sW w o);clear h hst hk hb
 go_enter Tryz.func34,Tryz.ntmps34
 go_wp2_with fail
 have hg:=HS.bP;have h7:=hg.file.seven;have qI:=hg.file.most;have hDl:P.D.L.length≤4:=by rw [← HS.nS,LC];exact hg.file.jT.len
 have HC:=ah (hg.aoh o.name);rw [HS.nS] at HC;have O7:=ah (fun he=>hg.aoi (s:=o.name) he);have hft:=fun k hk=>H.lt k (H.BN k (ay hk));have Nc:=ah hft;have X0:Hid ((w.alloc (.cells (dH o).toArray 80)).heap[w.heap.size]? = some (.cells (dH o).toArray 80 (0,0))):=aW _ _;clear hg hft ck l1 l2;generalize w.alloc (.cells (dH o).toArray 80)=w3 at*;have B3:=B0;have X3:=X0;clear B0 X0;have hT:JD p w.heap.size P.d o.name w3.drew:=⟨(H.below B3.drew).c0,(aG (w:=w3) X3 2).trans rfl⟩;have Hw:=ah (an5 w3.drew P.d P.v P.Cv P.Lv P.V (H.below B3.drew).iV om qI om o.name hn O7);generalize hR:Aq P.V o.name=R at*;have HR:=ah hR;clear hR;refine yT (JD p w.heap.size P.d o.name) 7 kr ?_;refine tk 0 hT ?_;refine tk 1 hT ?_;refine tk 2 hT ?_;refine tk 3 hT ?_;refine tk 4 hT ?_;refine tk 5 hT ?_;refine wo 6 fun K6 hK6=> ?_;go_simp;go_at_call 29;refine Hw.mono ?_;rintro e w4 ⟨rfl,C4,L4,hS4⟩
 have S4:Hid (bZ w3 w4 P.v P.Cv P.Lv C4 L4 R.1):=⟨hS4.at',⟨hS4.kept.os,hS4.kept.tape,hS4.kept.output,hS4.kept.size,hS4.kept.block⟩,hS4.new⟩;have hnf: ∀ k,w.heap.size≤k→ ¬ eX P.v P.Cv P.Lv k:=fun k hk hf=>by have:=uh Nc k hf;omega
 have X4:=ah (S4.kept.aF (hnf _ (aP _)) X3);have h4:=ah ((H.below B3).step S4);have c04:=h4.c0;have hT4:JD p w.heap.size P.d o.name w4:=⟨c04,(aG X4 2).trans rfl⟩;clear hS4 hnf;refine hK6 _ _ (ay hT4) ?_;refine wo 7 fun K7 hK7=> ?_;go_simp;refine hK7 _ _ (aA rfl) ?_;refine tu kr ?_ _;clear hT hT4 c04 Hw X3
 go_wp2_with fail
 have hall: ∃ E1,(FM P.D o.name).2=R.2∧R.1.L.length≤P.V.L.length+100∧P.V.L.length≤R.1.L.length∧ ∀ Qv,pF { P with Cv:=C4,Lv:=L4,V:=R.1,D:=(FM P.D o.name).1,Pv:=Qv } N0 E1:=by
  rcases uh HC with ⟨c,hc,e1,e2⟩ | ⟨e2,e1,hl,hm,E',hcm⟩
  ·rw [e1,e2];exact ⟨E,rfl,ad3 _ _,aP _,fun Qv=>⟨HS.bP,HS.nS,HS.exact⟩⟩
  ·rw [e1,e2];exact ⟨E',rfl,hl,hm,fun Qv=>⟨hcm.bP,hcm.holds,fun hx=>hcm.exact (HS.exact hx)⟩⟩
 obtain ⟨E1,hsame,hl,hm,hst1⟩:=hall;have aeS:=ah hst1;have vP:RY p w.heap.size P.y o.name w4.drew:=⟨h4.c1,(aG (w:=w4) X4 2).trans rfl⟩;have ZC:=ah (fun W=>Dp ((R.2:Nat):Int) W);have RS:=ah (asn w4.drew P.y P.Pv P.D (h4.ref.below ((bG _ w4).drew)) om o.name hn);rw [hsame] at RS;have hylt:=H.ref.lt;have Qb:=H.lt _ H.zQ;have hs3:=B3.size;have hs4:=S4.kept.size;have VA:=ah (fun (w6:World) (Qv:Value) (hr:Vl w4.drew w6 P.y P.Pv Qv (FM P.D o.name).1)=>vK.did (w6:=w6) (D':=(FM P.D o.name).1) H B3 S4 ⟨hr.kept.os,hr.kept.tape,hr.kept.output,hr.kept.size,hr.kept.block⟩ hr.at' (fun g hg=>by
  rcases hr.new g hg with x | x
  ·exact aA (H.iC g (aA x))
  ·exact ay (jZ (jZ hs3 hs4) x)) hl hm)
 have hpy:=h4.agV;have hp5:p<w4.heap.size:=om;have c15:=h4.c1;have HT6:=ah (fun (w6:World) (hk:Kept (fun x=>x=P.y) w4.drew w6)=>(show RY p w.heap.size P.y o.name w6 from
   ⟨(OX (hk.block p hp5 hpy)).trans c15,(aG (hk.aF (show ¬ w.heap.size=P.y by omega) X4) 2).trans rfl⟩))
 clear hpy hp5 c15 hst1 HC;refine yT (RY p w.heap.size P.y o.name) 10 kr ?_;refine tk 0 vP ?_;refine tk 2 vP ?_;refine tk 3 vP ?_;refine tk 4 vP ?_;refine tk 5 vP ?_;refine tk 6 vP ?_;refine tk 7 vP ?_;refine wo 1 fun K1 hK1=> ?_;go_simp;go_at_call 64;refine (uh ZC _).mono ?_;rintro e w5' ⟨rfl,rfl⟩;refine hK1 _ _ (ay vP) ?_;refine wo 8 fun K8 hK8=> ?_;go_simp;go_at_call 65;refine RS.mono ?_;rintro e w1 ⟨rfl,Qv,hr6⟩;have H1:=ah (uh VA w1 Qv hr6);have HS1:=ah (uh aeS Qv);have hT6:=uh HT6 w1 hr6.kept;clear hr6 VA aeS RS HT6;refine hK8 _ _ (ay hT6) ?_;refine tk 9 hT6 ?_;refine wo 10 fun K10 hK10=> ?_;go_simp;refine hK10 _ _ (aA rfl) ?_;refine tu kr ?_ _;clear vP hT6 X4 h4 S4;have hl1:=H1.log;generalize { P with Cv:=C4,Lv:=L4,V:=R.1,D:=(FM P.D o.name).1,Pv:=Qv }=P1 at*;generalize (fun k=>(S k∨eX P.v C4 L4 k)∨Qv.ownBlock=some k)=S1 at*
 go_wp2_with fail
 refine (UE w1 p P1 S1 N0 E1 H1.at' HS1 om (by rw [H1.base];exact hBl) (by rw [H1.marks];exact hms)).mono ?_;rintro e w2 ⟨rfl,Mv2,m2,hm2,hd2,S2,h2,k2,n2⟩;have hfin:=H1.made.ends HS1 HB pX h2 k2 n2;have Bv:=ah hfin;clear hfin h2 k2 n2;go_wp2;go_ret2;exact ⟨rfl,uh Bv⟩
end
theorem arU:Z5 9 true Holds aeY:=by
 intro w p b P S V B U o h hG hb pX hL hms hnx hfl hwl hnl htx hpl h8;obtain ⟨⟨N0,E,hst⟩,hB⟩:=hG;have hcase:o.kind≤0∨o.kind=1∨o.kind=2∨o.kind=3∨o.kind=4∨o.kind=5∨o.kind=6∨o.kind=7∨o.kind=9:=by
  unfold I4 at hpl;simp at hpl;omega
 rcases hcase with hk | hk | hk | hk | hk | hk | hk | hk | hk
 ·refine (atL w p b o hk).mono ?_;rintro e w' ⟨rfl,hB'⟩;exact ⟨p,rfl,P,⟨⟨N0,E,hst⟩,hB⟩,S,V,B,U,(Stepped.none h hb pX hB').Jg⟩
 ·refine (UF w p b o _ om (amO _ p b P S N0 E (h.below (sW w o)) hst o hk)).mono ?_;rintro e w' ⟨rfl,hB'⟩;exact ⟨p,rfl,P,⟨⟨N0,E,hst⟩,hB⟩,S,V,B,U,(Stepped.asked h hb pX hB').Jg⟩
 ·refine (ada w p b P S U V B hb pX om hB om o _ (aA ⟨hk,rfl⟩) ((avg _ p P S N0 E (h.below (sW w o)) hst om o htx.1).mono fun e w' hx=>⟨hx.1,let ⟨P',hs,hr⟩:=hx.2;⟨P',N0,E,hs,hr⟩⟩)).mono ?_;rintro e w' ⟨rfl,hE⟩;exact ⟨p,rfl,hE.goes hB⟩
 ·refine (ada w p b P S U V B hb pX om hB om o _ (ay (aA ⟨hk,rfl⟩)) (atA _ p P S N0 E (h.below (sW w o)) hst om o htx.2 hk)).mono ?_;rintro e w' ⟨rfl,hE⟩;exact ⟨p,rfl,hE.goes hB⟩
 ·refine (ada w p b P S U V B hb pX om hB om o _ (ay (ay ⟨hk,rfl⟩)) (atz _ p P S N0 E (h.below (sW w o)) hst om o htx.2 hk)).mono ?_;rintro e w' ⟨rfl,hE⟩;exact ⟨p,rfl,hE.goes hB⟩
 ·refine (atK w p b P S U N0 E V B h hst hb pX om hB om o htx.2 hk).mono ?_;rintro e w' ⟨rfl,hE⟩;exact ⟨p,rfl,hE.goes hB⟩
 ·refine (UF w p b o _ om (amM _ p b P S U N0 E V B (h.below (sW w o)) hst (hb.below (sW w o)) om om o hk)).mono ?_;rintro e w' ⟨rfl,V',B',U',hs⟩;exact ⟨p,rfl,P,⟨⟨N0,E,hst⟩,hB⟩,S,V',B',U',(hs.aks h pX).Jg⟩
 ·refine (UF w p b o _ om (amN _ p b P S N0 E (h.below (sW w o)) hst o hk htx.2)).mono ?_;rintro e w' ⟨rfl,hB'⟩;exact ⟨p,rfl,P,⟨⟨N0,E,hst⟩,hB⟩,S,V,B,U,(Stepped.asked h hb pX hB').Jg⟩
 ·refine (UF w p b o _ om (amL _ p b P S U N0 E V B (h.below (sW w o)) hst (hb.below (sW w o)) pX om om om om o hk)).mono ?_;rintro e w' ⟨rfl,V',B',U',hs⟩;exact ⟨p,rfl,P,⟨⟨N0,E,hst⟩,hB⟩,S,V',B',U',(hs.aks h pX).Jg⟩
section
open Go.RowKit Go.Shelf
section
variable {α:Type} {g:Operand} {ps:Array Tmp} {assign body:Code} {Q:Exit→Act→World→Prop} {a:Act} {w:World} {n:Nat}
theorem asb {l₀:Nat} {r₀:Loop} (hl₀:w.heap[l₀]? = some (.loop r₀)) (h1:1≤n) {gf:Nat} {lb:Array Value} (hg:a.eval g= .func (.func gf) #[] lb) (eg: ∀ args w,(callFunc gf args).run Tryz.prog w= .ok (.enter gf args) w)
  {encs:α→Array Value} {Kp:World→World→Prop} {S Sp:List α→Prop} {N:Nat} {w0:World} (hseq:Px (n - 1) gf lb encs Kp S Sp N (w.heap.size+1) w0)
  (hKt: ∀ A B C:World,Kp A B→Kp B C→Kp A C) (hKb: ∀ (W:World) (o o':Obj),W.heap[w.heap.size]? = some o→o.isCells=false→Kp W (W.putObj w.heap.size o')) (hb0:aC w0 w) (hps: ∀ x,(encs x).size=ps.size)
  (I Ix:List α→World→Prop) (hI:OwnFrom w.heap.size I) (hIx:OwnFrom w.heap.size Ix) (h0:I [] w) (Ax:α→Act→World→Prop) (hAx: ∀ x a',OwnFrom w.heap.size (fun (_:Unit) W=>Ax x a' W))
  (hassign: ∀ (l:Nat) (pre:List α) (x:α) (W:World) (K:Act→World→Prop),I pre W→(∀ a' W',KeepsFrom w.heap.size W W'→Kp W W'→I pre W'→Ax x a' W'→K a' W')→
   assign.wpIn (Fence.wide.inRound l) (n - 1 - 1) Tryz.prog (Exit.then K (fun _ _ _=>False)) { tmps:=(ps.zip (encs x)).foldl (fun t (p,v)=>t.setIfInBounds p v) a.tmps,defers:=[] } W)
  (hbody: ∀ (l:Nat) (pre:List α) (x:α) (a':Act) (W:World),w.heap.size≤l→(∃ r,W.heap[l]? = some (.loop r))→I pre W→Ax x a' W→pre.length<N→body.wpIn (Fence.wide.inRound l) (n - 1 - 1) Tryz.prog (aac w.heap.size Kp I Ix (pre++[x]) W) a' W)
  (hdone: ∀ (xs:List α) (W:World),S xs→I xs W→Q .normal a W)
  (hstop: ∀ (pre:List α) (W:World),Sp pre→Ix pre W→Code.ret.wpIn (Fence.wide.inRound l₀) n Tryz.prog Q a W):
  (Code.rangeFunc g ps assign body).wpIn (Fence.wide.inRound l₀) n Tryz.prog Q a w:=by
 refine wpIn_rangeFunc fun fn hfn=> ?_;obtain ⟨rec,hrec⟩: ∃ rec:LoopState→Option Code→Loop,rec=fun st pe=>{ state:=st,pending:=pe,fn,tmps:=a.tmps,params:=ps,assign,body,defers:=r₀.defers }:=⟨_,rfl⟩
 let d:=w.heap.size
 let W1:=w.alloc (.loop (rec .ready none))
 have hL1:W1.heap[d]? = some (.loop (rec .ready none)):=aW w _;have hI1:I [] W1:=hI.alloc _ h0;have hsz:W1.heap.size=d+1:=by simp [W1,d]
 have hw1:aC w0 W1:=hb0.trans (((bG _ w).alloc (aP _) _).mono hb0.size);refine ⟨d,[],W1,{ target:= .fn (.func gf) lb,args:= #[.func (.yield d) #[] #[]] },W1,gf,#[.func (.yield d) #[] #[]]++lb,W1,?_,?_,fun _ _=>trivial,?_,fun _=>h1,?_⟩
 ·show (Instr.enterLoop fn a.tmps ps assign body (some l₀)).run Tryz.prog w=_;rw [run_enterLoop_inner hl₀];simp only [W1,hrec,d]
 ·simp only [resolve,hg];simp [go_sem]
 ·simp [invoke,go_sem,eg]
 have hJ:OwnFrom W1.heap.size (fun (pre:List α) W=>I pre W∧W.heap[d]? = some (.loop (rec .ready none))):=fun s A B row hs hg' hr=>
  ⟨hI s A B row hs.1 hg' (fun r e=>⟨by have:=(hr r e).1;omega,(hr r e).2⟩),rX hg' hr hs.2 om⟩
 have hJx:OwnFrom W1.heap.size (fun (pre:List α) W=>Ix pre W∧W.heap[d]? = some (.loop (rec .done (some .ret)))):=fun s A B row hs hg' hr=>
  ⟨hIx s A B row hs.1 hg' (fun r e=>⟨by have:=(hr r e).1;omega,(hr r e).2⟩),rX hg' hr hs.2 om⟩
 refine (CallsIn.inRound l₀ (hseq d (fun pre W=>I pre W∧W.heap[d]? = some (.loop (rec .ready none))) (fun pre W=>Ix pre W∧W.heap[d]? = some (.loop (rec .done (some .ret)))) W1 hw1 om hJ hJx ?_ ⟨hI1,hL1⟩)).mono ?_
 ·rintro pre x W ⟨hi,hb⟩ hlen;have hy:=run_yield (P:=Tryz.prog) (args:=encs x) hb (by rw [hrec];exact hps x);rw [hrec] at hy;refine ⟨fn,_,assign,body,hy,roundIn_of_wpIn hfn (hassign d pre x W _ hi fun a' Wa Fq hkp hia hax=> ?_)⟩;have hba:=Fq.same _ _ (aP _) hb rfl;refine ⟨_,run_beginRound hba (by rw [hrec]),?_⟩;have hbb:(Wa.putObj d (.loop { rec .ready none with state:= .busy })).heap[d]? = some (.loop { rec .ready none with state:= .busy }):=World.putObj_heap_same (aO hba);have hkb:Kp Wa (Wa.putObj d (.loop { rec .ready none with state:= .busy })):=hKb _ _ _ hba rfl;refine UW (hbody d pre x a' _ (aP _) ⟨_,hbb⟩ (hI.putObj _ hia (aP _) hba rfl) ((hAx x a').putObj (s:=()) _ hax (aP _) hba rfl) hlen) ?_;have fin: ∀ (jump:Option Code) (W3:World),KeepsFrom d (Wa.putObj d (.loop { rec .ready none with state:= .busy })) W3→
    (Instr.endRound d jump).run Tryz.prog W3= .ok (.bool jump.isNone) (W3.putObj d (.loop (rec (if jump.isNone then .ready else .done) jump)))∧
    W3.heap[d]? = some (.loop { rec .ready none with state:= .busy })∧
    (W3.putObj d (.loop (rec (if jump.isNone then .ready else .done) jump))).heap[d]? = some (.loop (rec (if jump.isNone then .ready else .done) jump)):=fun jump W3 hk3=>by
   have hl3:=hk3.same _ _ (aP _) hbb rfl
   have:=run_endRound (P:=Tryz.prog) jump hl3
   rw [hrec] at this ⊢;exact ⟨this,by rw [hrec] at hl3;exact hl3,World.putObj_heap_same (aO hl3)⟩
  rintro e a3 W3 hp;cases e with
  | normal=>
   obtain ⟨BM,hkp3,hi3⟩:=hp;obtain ⟨hr,hl3,hl4⟩:=fin none W3 BM;exact ⟨_,_,hr,hKt _ _ _ hkp (hKt _ _ _ hkb (hKt _ _ _ hkp3 (hKb _ _ _ hl3 rfl))),.inl ⟨rfl,hI.putObj _ hi3 (aP _) hl3 rfl,hl4⟩⟩
  | ret=>
   obtain ⟨BM,hkp3,hi3⟩:=hp;obtain ⟨hr,hl3,hl4⟩:=fin (some .ret) W3 BM;exact ⟨_,_,hr,hKt _ _ _ hkp (hKt _ _ _ hkb (hKt _ _ _ hkp3 (hKb _ _ _ hl3 rfl))),.inr ⟨rfl,hIx.putObj _ hi3 (aP _) hl3 rfl,hl4⟩⟩
  | exit id=>exact hp.elim
  | goto t=>exact hp.elim
  | panic ch=>exact hp.elim
  | outgrown=>exact hp.elim
 ·rintro e W2 ⟨⟨v,rfl⟩,(⟨xs,hS,hi,hb⟩ | ⟨pre,hSp,hi,hb⟩)⟩
  ·have hh:(rec .ready none).state≠ .busy:=by rw [hrec];simp
   have hp:(rec .ready none).pending=none:=by rw [hrec]
   refine ⟨_,_,run_endLoop hb hh,?_⟩;rw [hp];exact hdone xs _ hS (hI.putObj _ hi (aP _) hb rfl)
  ·have hh:(rec .done (some .ret)).state≠ .busy:=by rw [hrec];simp
   have hp:(rec .done (some .ret)).pending=some .ret:=by rw [hrec]
   refine ⟨_,_,run_endLoop hb hh,?_⟩;rw [hp];exact hstop pre _ hSp (hIx.putObj _ hi (aP _) hb rfl)
theorem ajI {l₀:Nat} {r₀:Loop} (hl₀:w.heap[l₀]? = some (.loop r₀)) (h1:1≤n) {gf:Nat} {lb:Array Value} (hg:a.eval g= .func (.func gf) #[] lb) (eg: ∀ args w,(callFunc gf args).run Tryz.prog w= .ok (.enter gf args) w)
  {encs:α→Array Value} {Kp:World→World→Prop} {S:List α→Prop} {N:Nat} {w0:World} (hseq:Lh (n - 1) gf lb encs Kp S N (w.heap.size+1) w0)
  (hKt: ∀ A B C:World,Kp A B→Kp B C→Kp A C) (hKb: ∀ (W:World) (o o':Obj),W.heap[w.heap.size]? = some o→o.isCells=false→Kp W (W.putObj w.heap.size o')) (hb0:aC w0 w) (hps: ∀ x,(encs x).size=ps.size)
  (I:List α→World→Prop) (hI:OwnFrom w.heap.size I) (h0:I [] w) (Ax:α→Act→World→Prop) (hAx: ∀ x a',OwnFrom w.heap.size (fun (_:Unit) W=>Ax x a' W))
  (hassign: ∀ (l:Nat) (pre:List α) (x:α) (W:World) (K:Act→World→Prop),I pre W→(∀ a' W',KeepsFrom w.heap.size W W'→Kp W W'→I pre W'→Ax x a' W'→K a' W')→
   assign.wpIn (Fence.wide.inRound l) (n - 1 - 1) Tryz.prog (Exit.then K (fun _ _ _=>False)) { tmps:=(ps.zip (encs x)).foldl (fun t (p,v)=>t.setIfInBounds p v) a.tmps,defers:=[] } W)
  (hbody: ∀ (l:Nat) (pre:List α) (x:α) (a':Act) (W:World),w.heap.size≤l→(∃ r,W.heap[l]? = some (.loop r))→I pre W→Ax x a' W→pre.length<N→body.wpIn (Fence.wide.inRound l) (n - 1 - 1) Tryz.prog (fun e _ W'=>e= .normal∧KeepsFrom w.heap.size W W'∧Kp W W'∧I (pre++[x]) W') a' W)
  (hdone: ∀ (xs:List α) (W:World),S xs→I xs W→Q .normal a W):
  (Code.rangeFunc g ps assign body).wpIn (Fence.wide.inRound l₀) n Tryz.prog Q a w:=by
 refine wpIn_rangeFunc fun fn hfn=> ?_;obtain ⟨rec,hrec⟩: ∃ rec:LoopState→Option Code→Loop,rec=fun st pe=>{ state:=st,pending:=pe,fn,tmps:=a.tmps,params:=ps,assign,body,defers:=r₀.defers }:=⟨_,rfl⟩
 let d:=w.heap.size
 let W1:=w.alloc (.loop (rec .ready none))
 have hL1:W1.heap[d]? = some (.loop (rec .ready none)):=aW w _;have hI1:I [] W1:=hI.alloc _ h0;have hsz:W1.heap.size=d+1:=by simp [W1,d]
 have hw1:aC w0 W1:=hb0.trans (((bG _ w).alloc (aP _) _).mono hb0.size);refine ⟨d,[],W1,{ target:= .fn (.func gf) lb,args:= #[.func (.yield d) #[] #[]] },W1,gf,#[.func (.yield d) #[] #[]]++lb,W1,?_,?_,fun _ _=>trivial,?_,fun _=>h1,?_⟩
 ·show (Instr.enterLoop fn a.tmps ps assign body (some l₀)).run Tryz.prog w=_;rw [run_enterLoop_inner hl₀];simp only [W1,hrec,d]
 ·simp only [resolve,hg];simp [go_sem]
 ·simp [invoke,go_sem,eg]
 have hJ:OwnFrom W1.heap.size (fun (pre:List α) W=>I pre W∧W.heap[d]? = some (.loop (rec .ready none))):=fun s A B row hs hg' hr=>
  ⟨hI s A B row hs.1 hg' (fun r e=>⟨by have:=(hr r e).1;omega,(hr r e).2⟩),rX hg' hr hs.2 om⟩
 refine (CallsIn.inRound l₀ (hseq d (fun pre W=>I pre W∧W.heap[d]? = some (.loop (rec .ready none))) W1 hw1 om hJ ?_ ⟨hI1,hL1⟩)).mono ?_
 ·rintro pre x W ⟨hi,hb⟩ hlen;have hy:=run_yield (P:=Tryz.prog) (args:=encs x) hb (by rw [hrec];exact hps x);rw [hrec] at hy;refine ⟨fn,_,assign,body,hy,roundIn_of_wpIn hfn (hassign d pre x W _ hi fun a' Wa Fq hkp hia hax=> ?_)⟩;have hba:=Fq.same _ _ (aP _) hb rfl;refine ⟨_,run_beginRound hba (by rw [hrec]),?_⟩;have hbb:(Wa.putObj d (.loop { rec .ready none with state:= .busy })).heap[d]? = some (.loop { rec .ready none with state:= .busy }):=World.putObj_heap_same (aO hba);have hkb:Kp Wa (Wa.putObj d (.loop { rec .ready none with state:= .busy })):=hKb _ _ _ hba rfl;refine UW (hbody d pre x a' _ (aP _) ⟨_,hbb⟩ (hI.putObj _ hia (aP _) hba rfl) ((hAx x a').putObj (s:=()) _ hax (aP _) hba rfl) hlen) ?_;have fin: ∀ (jump:Option Code) (W3:World),KeepsFrom d (Wa.putObj d (.loop { rec .ready none with state:= .busy })) W3→
    (Instr.endRound d jump).run Tryz.prog W3= .ok (.bool jump.isNone) (W3.putObj d (.loop (rec (if jump.isNone then .ready else .done) jump)))∧
    W3.heap[d]? = some (.loop { rec .ready none with state:= .busy })∧
    (W3.putObj d (.loop (rec (if jump.isNone then .ready else .done) jump))).heap[d]? = some (.loop (rec (if jump.isNone then .ready else .done) jump)):=fun jump W3 hk3=>by
   have hl3:=hk3.same _ _ (aP _) hbb rfl
   have:=run_endRound (P:=Tryz.prog) jump hl3
   rw [hrec] at this ⊢;exact ⟨this,by rw [hrec] at hl3;exact hl3,World.putObj_heap_same (aO hl3)⟩
  rintro e a3 W3 ⟨rfl,BM,hkp3,hi3⟩;obtain ⟨hr,hl3,hl4⟩:=fin none W3 BM;exact ⟨_,_,hr,rfl,⟨hI.putObj _ hi3 (aP _) hl3 rfl,hl4⟩,hKt _ _ _ hkp (hKt _ _ _ hkb (hKt _ _ _ hkp3 (hKb _ _ _ hl3 rfl)))⟩
 ·rintro e W2 ⟨⟨v,rfl⟩,xs,hS,hi,hb⟩;have hh:(rec .ready none).state≠ .busy:=by rw [hrec];simp
  have hp:(rec .ready none).pending=none:=by rw [hrec]
  refine ⟨_,_,run_endLoop hb hh,?_⟩;rw [hp];exact hdone xs _ hS (hI.putObj _ hi (aP _) hb rfl)
end
end
end Go.Proofs.YtknjjjenklfeoaaGreatDoor
