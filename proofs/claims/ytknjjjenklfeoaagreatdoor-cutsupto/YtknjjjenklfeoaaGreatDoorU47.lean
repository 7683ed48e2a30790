import Derived.Test.YtknjjjenklfeoaaGreatDoorU46
set_option maxHeartbeats 8000000
set_option maxRecDepth 100000
set_option linter.all false
namespace Go.Proofs.YtknjjjenklfeoaaGreatDoor
open Go.RowKit
section
attribute [local go_sem ↓] ag4
attribute [local go_sem] al5
def amU (d v y:Nat) (Cv Lv Pv bv:Value) (k:Nat):Prop:=MW d v Cv Lv k∨k=y∨Pv.ownBlock=some k∨bv.ownBlock=some k
abbrev TQ (p:Nat) (w':World):Prop:=w'.cell? ⟨p,4,none⟩=some (.slice none 0 0)
def abI (w:World) (d v:Nat) (Cv Lv:Value) (V:aB) (y:Nat) (Pv bv:Value) (D:dR) (B:List aj) (E:pK w d v Cv Lv V) (l:fB w y Pv D) (hB:kK w bv B) (J: ∀ g,bv.ownBlock=some g→ ¬ eX v Cv Lv g) (hD:D.L.length≤1000) (hL:V.L.length≤900000000) (ex:Bool):
  Calls Tryz.prog 32 #[.pointer (some ⟨d,0,none⟩),.pointer (some ⟨y,0,none⟩),bv,.bool ex] w fun e X=>
   ∃ p,e= .returned (.pointer (some ⟨p,0,none⟩))∧ ∃ Mv m,m.log=V.L.length∧m.D=D∧ ∃ Y,dL X p ⟨d,v,y,Cv,Lv,Pv,Mv,bv,ex,V,D,B,[m]⟩ Y∧aC w X∧ ∀ k,Y k→amU d v y Cv Lv Pv bv k∨w.heap.size≤k:=by
 obtain ⟨j,bc,ae⟩:=gQ hB.row;subst ae;have K:dL (w.alloc (.cells #[.pointer (some ⟨d,0,none⟩),.pointer (some ⟨y,0,none⟩),.slice j B.length bc,.bool ex,.slice none 0 0] 107)) w.heap.size ⟨d,v,y,Cv,Lv,Pv,.slice none 0 0,.slice j B.length bc,ex,V,D,B,[]⟩ (fun k=>amU d v y Cv Lv Pv (.slice j B.length bc) k∨k=w.heap.size):=by
  have n:aC w (w.alloc (.cells #[.pointer (some ⟨d,0,none⟩),.pointer (some ⟨y,0,none⟩),.slice j B.length bc,.bool ex,.slice none 0 0] 107)):=fC;refine ⟨aX _ _,E.below n,l.below n,hB.kept (S:=fun _=>False) (Kept.dQ n) (fun _ _=>id),wH _ _ _ _,fun m hm=>(by cases hm),fun m hm=>(by cases hm),J,ay rfl,fun k hk=>aA (aA hk),aA (ay (aA rfl)),?_,fun m hm=>(by cases hm),?_⟩
  ·rintro g (e | e | e)
   ·exact aA (ay (ay (aA e)))
   ·cases e
   ·exact aA (ay (ay (ay e)))
  ·rintro k ((e | e | e | e) | e)
   ·have:=E.qV k e;simp;omega
   ·have:=l.lt;simp;omega
   ·have:=(l.row.lt k e).2;simp;omega
   ·have:=(hB.row.lt k e).2;simp;omega
   ·simp;omega
 have M:aC w (w.alloc (.cells #[.pointer (some ⟨d,0,none⟩),.pointer (some ⟨y,0,none⟩),.slice j B.length bc,.bool ex,.slice none 0 0] 107)):=fC;have z:=ah M;have A:=ah K;have H:w.heap.size<(w.alloc (.cells #[.pointer (some ⟨d,0,none⟩),.pointer (some ⟨y,0,none⟩),.slice j B.length bc,.bool ex,.slice none 0 0] 107)).heap.size:=sm;have av:=l.lt;obtain ⟨i0,af,ag,ai,al⟩:=qw Tryz.ajA;clear K E l M hB J
 go_enter Tryz.func32,Tryz.ntmps32
 go_wp2_with fail
 generalize w.alloc (.cells #[.pointer (some ⟨d,0,none⟩),.pointer (some ⟨y,0,none⟩),.slice j B.length bc,.bool ex,.slice none 0 0] 107)=W0 at*;refine (XO W0 _ _ _ _ _ A.ig (jL hL om)).mono ?_;rintro e a ⟨lv,rfl,N,b1⟩;obtain ⟨la,jh,rfl⟩:=gQ N;have f:=ah (A.below b1);have F:=ah (z.trans (b1.mono z.size));have aw:w.heap.size<a.heap.size:=iL H b1.size;have c4:a.drew.cell? ⟨w.heap.size,4,none⟩=some (.slice none 0 0):=(f.below ((bG _ a).drew)).c4;have z4:=f.fz 4;have Hc:=ah (fun (W:World) (n:aC a W)=>XE W y Pv D (f.below n).ref om);clear b1 N A z H;go_wp2;have c:TQ w.heap.size a.drew:=c4;refine xZ (TQ w.heap.size) 14 kr ?_;refine tk 0 c ?_;refine tk 1 c ?_;refine tk 2 c ?_;refine tk 3 c ?_;refine tk 4 c ?_;refine tk 5 c ?_;refine tk 6 c ?_;refine tk 7 c ?_;refine wo 8 fun K8 an=> ?_;go_simp;go_at_call 58;refine (uh Hc _ ((bG _ a).drew)).mono ?_
 rintro e h ⟨Z,rfl,O,P,b9⟩;have b:Hid (aC a h):=((bG _ a).drew).trans b9;have ao:=ah O;have aq:=ah P;have C:TQ w.heap.size h:=(f.below b).c4;have Q: ∀ o,TQ w.heap.size (h.alloc o):=fun o=>(f.below (b.alloc b.size o)).c4;clear b9 O P;refine an _ _ (ay C) ?_;refine tk 9 C ?_;refine wo 10 fun ax aa=> ?_;go_simp;refine aa _ _ (ay (Q _)) ?_;refine wo 11 fun az ab=> ?_;refine JZ _ (by rfl) _ _ _ (by rfl) 0 109 i0 _ 2 16 Tryz.underlying105 af ag ai al (by rfl) om (.slice none 0 0) 0 [] (by rfl) (wH _ _ _ _) ⟨h.heap.size,0,none⟩ 1 1 [.int .i64 (V.L.length:Nat),.pointer (some ⟨a.heap.size,0,none⟩)] (by rfl) (by rfl) (pJ (cs:= #[.int .i64 (V.L.length:Nat),.pointer (some ⟨a.heap.size,0,none⟩)]) (t:=109) (fr:=(0,0)) (aX h _)) (by intro u hu;simp at hu;rcases hu with rfl | rfl <;> rfl) om (by unfold maxLen;omega) om om (h.heap.size+1) sm ?_
 intro g5 cap5 s G q R uP;have b5:=ah (qW q (f.below (b.alloc b.size _)).aG f.YS);have c5:s.cell? ⟨w.heap.size,4,none⟩=some (.slice none 0 0):=(aF b5 4).trans rfl;have z5: ∀ i,s.frozen? ⟨w.heap.size,i,none⟩=false:=fun i=>eY b5 i;have r:TQ w.heap.size s:=c5;have T:g5=h.heap.size+1:=by
  rcases R with x | x
  ·cases x
  ·exact x
 have I:=dL.aiH (m:=⟨V.L.length,a.heap.size,Z,D⟩) (f.below (b.alloc b.size _)) q G (by right;rw [T];simp) uP (ao.below ((bG _ h).alloc (aO _) _)) (fun e=>by simp only at e;omega) w (by have h1:=F.size;have h2:=b.size;simp;omega) ⟨by simp only;omega,fun g hg=>by have h2:=uh aq g hg;have h3:a.drew.heap.size=a.heap.size:=rfl;omega⟩;have U:aC w (s.setCell ⟨w.heap.size,4,none⟩ (.slice (some ⟨g5,0,none⟩) (0+1) cap5)):=((F.trans ((b.alloc b.size _).mono F.size)).grown q (by have h2:=b.size;simp;omega) (fun k hk=>by cases hk)).setCell (aO _) _;have CO:=ah I;have ar:=ah U;clear q G I U T R;refine ab _ _ (ay r) ?_;refine wv 12 r ?_;refine wv 13 r ?_;refine wo 14 fun aD ad=> ?_;go_simp;refine ad _ _ (aA rfl) ?_;refine sH kr ?_ _;clear c C Q r;go_wp2;go_ret;obtain ⟨f1,f2,f3⟩:=uh CO
 refine ⟨w.heap.size,rfl,.slice (some ⟨g5,0,none⟩) 1 cap5,⟨V.L.length,a.heap.size,Z,D⟩,rfl,rfl,_,f1,uh ar,fun k hk=> ?_⟩;rcases f3 k hk with (x | x) | x
 ·exact aA x
 ·exact ay om
 ·exact ay x
end
section
attribute [local go_sem ↓] dw fP fV kQ ag3
attribute [local go_sem] dM fO fU aV kW al4
structure DU (w:World) (g cap:Nat) (L:List aj):Prop where
 row:w.ownsRow 0 38 64 (.slice (some ⟨g,0,none⟩) (L.length+2) cap) (L.length+2) (aS (L++[dV 1,dV 2]))
 lens: ∀ c ∈ L,c.length=64
def DU.kept {w b:World} {S:Nat→Prop} {g cap:Nat} {L:List aj} (h:DU w g cap L) (hk:Kept S w b) (hs: ¬ S g):DU b g cap L:=⟨bV hk h.row (fun k a=>by injection a with a;rw [← a];exact hs),h.lens⟩
def DU.below {w a:World} {g cap:Nat} {L:List aj} (h:DU w g cap L) (b:aC w a):DU a g cap L:=h.kept (S:=fun _=>False) (Kept.dQ b) id
def aip (a b:aj):aS [a,b]=cv a++cv b:=by simp [aS]
def DU.file {w:World} {g cap:Nat} {L:List aj} (h:DU w g cap L):kK w (.slice (some ⟨g,0,none⟩) L.length cap) L:=
 ⟨VK (m:=2) (news:=aS [dV 1,dV 2]) (by rw [← XU];exact h.row) (zi L h.lens),h.lens⟩
def aen {w:World} {base g cap n:Nat} {e:TypeId} {size:Nat} {xs:List Value} (h:w.ownsRow base e size (.slice (some ⟨g,0,none⟩) n cap) n xs):n≤cap:=by
 rcases h.2 with ⟨a,_⟩ | ⟨_,_,_,a,_,_,hn,_⟩
 ·cases a
 ·injection a with _ _ a;rw [a];exact hn
def ase (w:World) (D:Value) (file:List aj) (b:kK w D file) (h0:0<file.length) (hl:file.length≤1000):
  Calls Tryz.prog 39 #[D] w fun e a=> ∃ g cap,e= .returned (.slice (some ⟨g,0,none⟩) file.length cap)∧w.heap.size≤g∧DU a g cap file∧aC w a:=by
 obtain ⟨E,q,r,s,v⟩:=qw Tryz.KY;obtain ⟨F,J,rfl,X⟩:=gy b.row h0;have K:Hid (∀ W,Calls Tryz.prog 68 #[.int .u8 1] W fun e a=>e= .returned (.agg (cv (dV 1)).toArray)∧aC W a):=fun W=>KZ 1 W;have L:Hid (∀ W,Calls Tryz.prog 68 #[.int .u8 2] W fun e a=>e= .returned (.agg (cv (dV 2)).toArray)∧aC W a):=fun W=>KZ 2 W;have M:=Dn 1;have N:=Dn 2;have T:=ah b.row;have U:=ah b.lens;have O:=zi file b.lens;clear b
 go_enter Tryz.func39,Tryz.ntmps39
 go_wp2_with (at_builtin;refine yc _ rfl _ _ _ rfl 0 38 E _ 64 64 Tryz.underlying28 q r s v (by simp [Value.cells,bC,aV]) om (.slice none 0 0) 0 [] rfl (wH _ _ _ _) ⟨F,0,none⟩ file.length J (aS file) rfl O (T.cells (g:=F) rfl) (XV file) om (by unfold maxLen;omega) om om w.heap.size rfl ?_;intro g5 cap5 V f p y uP)
 have Y:w.heap.size≤g5:=by
  rcases y with x | x
  ·cases x
  ·omega
 have z:aC w V:=(bG _ w).grown p (aO _) (fun k hk=>by cases hk);rw [rE,qy] at f;have i:=ah z;have A:=ah f;clear p y f z;refine (uh K _).mono ?_;rintro e w6 ⟨rfl,j⟩
 go_wp2_with fail
 refine (uh L _).mono ?_;rintro e l ⟨rfl,B⟩;have h:=j.trans (B.mono j.size);have c:=ah (i.trans (h.mono i.size));have P:=ah (bV (Kept.dQ (S:=fun _=>False) h) A (fun _ _=>id));clear j B h i A
 go_wp2_with (at_builtin;refine yc _ rfl _ _ _ rfl 0 38 E _ 64 64 Tryz.underlying28 q r s v (by simp [Value.cells,bC,aV]) om (.slice (some ⟨g5,0,none⟩) file.length cap5) file.length (aS file) rfl (P.alloc _) ⟨l.heap.size,0,none⟩ 2 2 (cv (dV 1)++cv (dV 2)) rfl (by rw [oL,bC,bC,M,N]) (pJ (cs:=(cv (dV 1)++cv (dV 2)).toArray) (t:=38) (fr:=(0,0)) (aX l _)) (by intro u hu;rcases fK.1 hu with x | x <;> exact Au _ u x) om (by unfold maxLen;omega) om om (l.heap.size+1) sm ?_;intro m d G n H I Yl;have Z:=aen n;have aa:((file.length:Nat):Int)≤((d:Nat):Int):=om;have ab: ¬ d=0:=om)
 have C:aC w G:=(c.alloc c.size (.cells (cv (dV 1)++cv (dV 2)).toArray 38)).grown H (by have:=c.size;simp;omega) (fun k hk=>by
  simp only [Value.ownBlock,jH] at hk
  omega)
 have Q:w.heap.size≤m:=by
  rcases I with x | x
  ·simp only [Value.ownBlock,jH] at x;omega
  ·have:=c.size;omega
 have o:DU G m d file:=⟨by rw [XU,aip];exact n,uh U⟩;have R:=ah C;have o:=ah o;clear H I n C;go_ret;exact ⟨m,d,rfl,Q,uh o,uh R⟩
def asc (w:World) (a:Option Addr) (s:Nat):
  Calls Tryz.prog 39 #[.slice a 0 s] w fun e b=> ∃ g cap,e= .returned (.slice (some ⟨g,0,none⟩) 0 cap)∧w.heap.size≤g∧DU b g cap []∧aC w b:=by
 obtain ⟨H,v,y,z,A⟩:=qw Tryz.KY;have B:Hid (∀ W,Calls Tryz.prog 68 #[.int .u8 1] W fun e b=>e= .returned (.agg (cv (dV 1)).toArray)∧aC W b):=fun W=>KZ 1 W;have C:Hid (∀ W,Calls Tryz.prog 68 #[.int .u8 2] W fun e b=>e= .returned (.agg (cv (dV 2)).toArray)∧aC W b):=fun W=>KZ 2 W;have D:=Dn 1;have E:=Dn 2;rcases a with _ | a
 all_goals
  go_enter Tryz.func39,Tryz.ntmps39
  go_wp2_with fail
  try (simp only [zU,sK];go_wp2_with fail)
  refine (uh B _).mono ?_;rintro e w6 ⟨rfl,h⟩
  go_wp2_with fail
  refine (uh C _).mono ?_;rintro e i ⟨rfl,n⟩;have d:=ah (h.trans (n.mono h.size));clear h n
  go_wp2_with (at_builtin;refine yc _ rfl _ _ _ rfl 0 38 H _ 64 64 Tryz.underlying28 v y z A (by simp [Value.cells,bC,aV]) om (.slice none 0 0) 0 [] rfl (wH _ _ _ _) ⟨i.heap.size,0,none⟩ 2 2 (cv (dV 1)++cv (dV 2)) rfl (by rw [oL,bC,bC,D,E]) (pJ (cs:=(cv (dV 1)++cv (dV 2)).toArray) (t:=38) (fr:=(0,0)) (aX i _)) (by intro u hu;rcases fK.1 hu with x | x <;> exact Au _ u x) om (by unfold maxLen;omega) om om (i.heap.size+1) sm ?_;intro j f p l q r L;have I:=aen l;have J:(0:Int)≤((f:Nat):Int):=om;have K: ¬ f=0:=om)
  have o:aC w p:=(d.alloc d.size (.cells (cv (dV 1)++cv (dV 2)).toArray 38)).grown q (by have:=d.size;simp;omega) (fun k hk=>by cases hk);have F:w.heap.size≤j:=by
   rcases r with x | x
   ·cases x
   ·have:=d.size;omega
  have m:DU p j f []:=⟨by rw [qy,aip];exact l,fun c hc=>(by cases hc)⟩;have G:=ah o;have m:=ah m;clear q r l o;go_ret;exact ⟨j,f,rfl,F,uh m,uh G⟩
def ajS (w:World) (b:Value) (file:List aj) (c:kK w b file) (f:file.length≤1000):
  Calls Tryz.prog 39 #[b] w fun e d=> ∃ g cap,e= .returned (.slice (some ⟨g,0,none⟩) file.length cap)∧w.heap.size≤g∧DU d g cap file∧aC w d:=by
 by_cases h0:0<file.length
 ·exact ase w b file c h0 f
 ·have hn:file=[]:=aaw om;subst hn;obtain ⟨a,cap,rfl⟩:=gQ c.row;exact asc w a cap
end
section
attribute [local go_sem ↓] dw fP fV jE
attribute [local go_sem] dM fO fU aV
def aai:List aj:=[dV 1,dV 2]
def awY: ∀ c ∈ aai,c.length=64:=by
 intro c hc;simp only [aai,cO,jM,jO] at hc;rcases hc with rfl | rfl
 ·exact Dn 1
 ·exact Dn 2
def yw (L:List aj) (k:Nat):List aj:=Dp L 3 k++aai
def Xp (L:List aj) (k:Nat) (h:k≤L.length):(yw L k).length=L.length+2:=by rw [yw,oL,YJ L 3 k h];rfl
def agP {L:List aj} (a: ∀ c ∈ L,c.length=64) (k:Nat): ∀ c ∈ yw L k,c.length=64:=by
 intro c hc;rcases fK.1 hc with h | h
 ·exact aki a 3 k c h
 ·exact awY c h
def ao1 (L:List aj) (k:Nat) (h:k<L.length):(yw L k).set k (dV 3)=yw L (k+1):=by
 unfold yw;rw [afH _ _ (by rw [YJ L 3 k om];exact h),akj L 3 k h]
def aoY (L:List aj) (k:Nat) (h:k<L.length):cl (yw L k) k=cl L k:=by
 unfold cl yw Dp;rw [aN,aN,tV,nP sm,Ai,Bg,nV (by simp;omega),Qc,jW]
def abG (L:List aj):yw L 0=L++aai:=by unfold yw Dp;rfl
def aoZ (L:List aj):cl (yw L 0) L.length=dV 1:=by
 rw [abG];unfold cl;rw [aN,nP (aO _),Bg];rfl
def ao0 (L:List aj):cl (yw L 0) (L.length+1)=dV 2:=by
 rw [abG];unfold cl;rw [aN,nP om,show L.length+1 - L.length=1 by omega];rfl
def agQ (w:World) (g cap:Nat) (y:Value) (file:List aj) (hL:DU w g cap file) (q:kK w y file) (E: ∀ k,y.ownBlock=some k→k≠g) (hl:file.length≤1000):
  Calls Tryz.prog 40 #[.slice (some ⟨g,0,none⟩) file.length cap,y] w fun e h=>e= .returned (.bool true)∧Kept (fun k=>k=g) w h:=by
 have j:w.ownsRow 0 38 64 (.slice (some ⟨g,0,none⟩) (yw file 0).length cap) (yw file 0).length (aS (yw file 0)):=by
  rw [Xp _ _ (lX _),abG];exact hL.row
 have ad:=Xp file 0 (lX _);have a:=agP q.lens 0;have av:=aen hL.row;have aw:((file.length:Nat):Int)+2≤((cap:Nat):Int):=om;have ax: ¬ cap=0:=om;have F:=Dn 1;have G:=Dn 2;have ae:=Dn 3;have H:Hid (∀ W,Calls Tryz.prog 68 #[.int .u8 1] W fun e h=>e= .returned (.agg (cv (dV 1)).toArray)∧aC W h):=fun W=>KZ 1 W;have I:Hid (∀ W,Calls Tryz.prog 68 #[.int .u8 2] W fun e h=>e= .returned (.agg (cv (dV 2)).toArray)∧aC W h):=fun W=>KZ 2 W;have af:Hid (∀ W,Calls Tryz.prog 68 #[.int .u8 3] W fun e h=>e= .returned (.agg (cv (dV 3)).toArray)∧aC W h):=fun W=>KZ 3 W;have z: ∀ d os,dU (Go.Sort.grow (redrawn w d) os) g (file.length*64) 64:=fun d os=>oQ (bV (Kept.dQ (S:=fun _=>False) (lJ w d os)) j (fun _ _=>id)) a _ om;have A: ∀ d os,dO (Go.Sort.grow (redrawn w d) os) g (file.length*64) 64=cv (dV 1):=fun d os=>by
  have:=oP (bV (Kept.dQ (S:=fun _=>False) (lJ w d os)) j (fun _ _=>id)) a file.length om
  rw [this,aoZ]
 have B: ∀ d os,dU (Go.Sort.grow (redrawn w d) os) g ((file.length+1)*64) 64:=fun d os=>oQ (bV (Kept.dQ (S:=fun _=>False) (lJ w d os)) j (fun _ _=>id)) a _ om;have C: ∀ d os,dO (Go.Sort.grow (redrawn w d) os) g ((file.length+1)*64) 64=cv (dV 2):=fun d os=>by
  have:=oP (bV (Kept.dQ (S:=fun _=>False) (lJ w d os)) j (fun _ _=>id)) a (file.length+1) om
  rw [this,ao0]
 have ag: ∀ w,(yC (.agg (cv (dV 1)).toArray) (.agg (cv (dV 1)).toArray)).run Tryz.prog w= .ok true w:=fun w=>by rw [wY F F,dZ rfl]
 have ai: ∀ w,(yC (.agg (cv (dV 2)).toArray) (.agg (cv (dV 2)).toArray)).run Tryz.prog w= .ok true w:=fun w=>by rw [wY G G,dZ rfl]
 obtain ⟨V,X,al⟩:=gQ q.row;subst al;have Y:=ah j;have m:=ah q;have uM:=ah E;clear j q E hL a
 go_enter Tryz.func40,Tryz.ntmps40
 go_wp2_with fail
 have J:=ah (fun d os=>uh H (Go.Sort.grow (redrawn w d) os));have K:=ah (fun d os=>uh I (Go.Sort.grow (redrawn w d) os));refine DJ kr kr ?_
 repeat (go_big_quiet_step (fail))
 go_big_quiet_step (exact Aj (uh J _ _))
 repeat (go_big_quiet_step (fail))
 go_big_quiet_step (exact Aj (uh K _ _))
 repeat (go_big_quiet_step (fail))
 refine DK ?_;intro _ an;obtain ⟨⟨Z,L⟩,aa⟩:=an;subst aa;have r:=ah (lJ w Z L);have M:=ah (Kept.dQ (S:=fun k=>k=g) r);have N:=ah (bV (Kept.dQ (S:=fun _=>False) r) Y (fun _ _=>id));have O:=ah (m.kept (S:=fun _=>False) (Kept.dQ r) (fun _ _=>id));clear z A B C ag ai J K H I Y m r;generalize Go.Sort.grow (redrawn w Z) L=w1 at*;go_wp2
 go_loopw [6,7] (fun b i wr=> ∃ k:Nat,k≤file.length∧i= .int .i64 k∧b= .bool true∧Kept (fun k=>k=g) w wr∧wr.ownsRow 0 38 64 (.slice (some ⟨g,0,none⟩) (yw file k).length cap) (yw file k).length (aS (yw file k))∧kK wr (.slice V file.length X) file) (fun _ i _=>file.length - (intOf i).toNat)
 case atStart=>exact ⟨0,om,rfl,rfl,uh M,uh N,uh O⟩
 case round=>
  obtain ⟨k,hk,rfl,rfl,o,hR,f⟩:=hrel;clear M N O
  by_cases l:k<file.length
  ·obtain ⟨D,ab,e3,_⟩:=gy f.row om;obtain ⟨rfl,rfl⟩:V=some ⟨D,0,none⟩∧X=ab:=by injection e3 with x1 x2 x3;exact ⟨x1,x3⟩
   have az:(k:Int)<(file.length:Int):=om;have ao:=Xp file k hk;have a:=agP f.lens k;have aD:=o.size;have z: ∀ n,dU (wr.drewN n) g (k*64) 64:=fun n=>oQ (bV ((Kept.refl (fun _=>False) wr).drewN n) hR (fun _ _=>id)) a k om;have A: ∀ n,dO (wr.drewN n) g (k*64) 64=cv (cl file k):=fun n=>by
    have:=oP (bV ((Kept.refl (fun _=>False) wr).drewN n) hR (fun _ _=>id)) a k om
    rw [this,aoY file k l]
   have u:=fun n=>f.kept ((Kept.refl (fun _=>False) wr).drewN n) (fun _ _=>id);have B: ∀ n,dU (wr.drewN n) D (k*64) 64:=fun n=>oQ (u n).row f.lens k l;have C: ∀ n,dO (wr.drewN n) D (k*64) 64=cv (cl file k):=fun n=>oP (u n).row f.lens k l;have P:=je f.lens l;have he: ∀ w,(yC (.agg (cv (cl file k)).toArray) (.agg (cv (cl file k)).toArray)).run Tryz.prog w= .ok true w:=fun w=>by rw [wY P P,dZ rfl]
   have s:=ah o;have HR:=ah hR;have m:=ah f;clear o hR f u e3;generalize cl file k=c at*;go_wp2
   go_quiet (fail)
   have Q:=ah (s.drewN nq);have R:=ah (bV ((Kept.refl (fun _=>False) wr).drewN nq) HR (fun _ _=>id));have T:=ah (m.kept ((Kept.refl (fun _=>False) wr).drewN nq) (fun _ _=>id));clear z A B C he s HR m;generalize wr.drewN nq=wn at*
   go_wp2_with fail
   refine (uh af _).mono ?_;rintro e w2 ⟨rfl,p⟩;have v:=bV (Kept.dQ (S:=fun _=>False) p) R (fun _ _=>id);have th:=VL v k om;have t:=Zq v a k om (dV 3) ae;rw [ao1 file k l,show (yw file k).length=(yw file (k+1)).length by rw [ao,Xp file (k+1) om]] at t;have U:=T.kept (S:=fun _=>False) (Kept.dQ p) (fun _ _=>id);have Js:=ah t;have aq:=ah (U.kept ((Kept.refl (fun x=>x=g) w2).setCells (b:=g) (aA rfl) (k*64) (cv (dV 3))) (fun x hx=>uh uM x hx));have ar:=ah ((Q.trans (Kept.dQ p)).setCells (b:=g) (aA rfl) (k*64) (cv (dV 3)));clear t v U p Q R T;go_wp2;go_roundw
   case rel=>exact ⟨k+1,om,gn,rfl,uh ar,uh Js,uh aq⟩
   case measure=>exact bW
  ·have s:=ah o;clear o hR f;go_wp2;go_ret;exact ⟨rfl,uh s⟩
end
def atL (w:World) (p:Value) (file:List aj) (c:kK w p file) (A:oN w) (q:file.length≤1000) (n:Nat) (i:qY file=(n:Int)):
  Calls Tryz.prog 13 #[p] w fun e E=>e= .returned (.tuple #[.pointer none,.bool true])∧aC w E:=by
 obtain ⟨M,N,x⟩:=gQ c.row;have y: ∀ k,p.ownBlock=some k→k<w.heap.size:=fun k hk=>(c.row.lt k hk).2;have D:(look file).bad=(n:Int):=by rw [adw c.lens];exact i
 have r:=ah c;have F:=ah A;have G:=ah y;have K:=ah x;subst x;clear c A y
 go_enter Tryz.func13,Tryz.ntmps13
 go_wp2_with fail
 refine (ajS w _ file r q).mono ?_;rintro e B ⟨g,cap,rfl,O,l,b1⟩;have L:g<B.heap.size:=(l.row.lt g rfl).2;have d:=ah b1;have s:=ah l;clear b1 l
 go_wp2_with fail
 refine (ahR B _ file s.file (F.below d) om).mono ?_;rintro e H ⟨(⟨t,m,rfl⟩ | ⟨m,_⟩),b2⟩
 rotate_left
 ·rw [i] at m;omega
 obtain rfl:t=n:=by rw [i] at m;omega
 have u:=ah (d.trans (b2.mono d.size));have C:=ah (s.below b2);clear b2 s
 go_wp2_with fail
 refine (agQ H g cap _ file C (r.kept (S:=fun _=>False) (Kept.dQ u) (fun _ _=>id)) (fun k hk=>by have:=uh G k hk;omega) q).mono ?_;rintro e v ⟨rfl,a⟩;have z:aC w v:=by
  have b:=uh u;exact ⟨a.os.trans b.os,a.tape.trans b.tape,a.output.trans b.output,jL b.size a.size,fun j hj=>by
   rw [a.block j (iL hj b.size) om];exact b.block j hj⟩
 have h:=ah z;clear a z C u d
 go_wp2_with fail
 refine (Pe v _ file (r.kept (S:=fun _=>False) (Kept.dQ h) (fun _ _=>id)) q).mono ?_;rintro e P ⟨rfl,Q,fr,o⟩;have I:=o.at'.DX;rw [D] at I;have J:=ah (h.trans (o.below.mono h.size));have R: ¬ ((t:Nat):Int)<0:=om;have T:(0:Int)≤((t:Nat):Int):=om;clear o h;generalize v.heap.size=f at*;go_wp2;refine iy (Ob rfl _ _ _) rfl ?_;exact ⟨rfl,uh J⟩
structure Xj (w w':World) (file:List aj) (p:Nat) (P:eP) (S:Nat→Prop):Prop where
 at':dL w' p P S
 V:P.V=dP file
 B:P.B=(dP file).C
 ex:P.ex=zW (look file)
 D:P.D=D9 (look file)
 ms:P.ms.length=2
 YB: ∀ m ∈ P.ms,m.log=0
 XK: ∀ m ∈ P.ms,m.D=P.D
 new: ∀ k,S k→w.heap.size≤k
 below:aC w w'
abbrev abl (f:Nat) (fl:Value) (w':World):Prop:=w'.cell? ⟨f,0,none⟩=some fl
def adW (w:World) (X:Value) (file:List aj) (h:kK w X file) (hG:oN w) (Y:file.length≤1000) (aa:qY file= -1):
  Calls Tryz.prog 13 #[X] w fun e w'=> ∃ p P S,e= .returned (.tuple #[.pointer (some ⟨p,0,none⟩),.bool true])∧Xj w w' file p P S:=by
 obtain ⟨fa,zh,a5⟩:=gQ h.row;have ae: ∀ k,X.ownBlock=some k→k<w.heap.size:=fun k hk=>(h.row.lt k hk).2;obtain ⟨N0,E,a⟩:=ak6 h.lens aa;have c:=a.bH;have h7:=c.file.seven;have K:=c.file.most;have h6:=c.file.qp;have af:(look file).roots.length≤5:=by rw [a.roots];have:=c.file.iR.len;simp [aH];omega
 have a6:0<(look file).roots.length:=by rw [a.roots];simp [aH]
 have ag: ∀ i,i<(look file).roots.length→rX (look file).L (rootOf (look file) i).N:=by
  intro i hi;unfold rootOf;rw [a.L,a.roots];rw [a.roots] at hi;apply c.sound.KW;rw [aN,bJ hi];exact o9 hi
 have ai:(look file).L.length=(dP file).C.length:=by rw [a.L]
 have ab:vk 1000000 (look file):=fun n=>by have:=a.low n;omega
 have J: ∀ f ∈ bP (dP file),gU (dP file) f:=fun f h=>by rw [c.yE] at h;exact c.sound.BF h
 have a7:=a.bad;have a8:=a.state;have bq:(D9 (look file)).L.length≤4:=by rw [a.jw];exact c.file.iR.ig
 have D:=ah a;have Z:=ah h;have HG:=ah hG;have Qz:=ah ae;have Ik:=ah ag;have Xc:=ah ab;have MH:=ah J;have z:=ah ai;subst a5;clear h hG ae a c ag ab J ai
 go_enter Tryz.func13,Tryz.ntmps13
 go_wp2_with fail
 refine (ajS w _ file Z Y).mono ?_;rintro e w1 ⟨g,cap,rfl,hg,V,b1⟩;have bs:g<w1.heap.size:=(V.row.lt g rfl).2;have F:=ah b1;have L1:=ah V;clear b1 V
 go_wp2_with fail
 refine (ahR w1 _ file L1.file (HG.below F) om).mono ?_;rintro e w2 ⟨(⟨n',a9,rfl⟩ | ⟨_,d,v,Cv,Lv,rfl,al,an⟩),b2⟩
 ·rw [aa] at a9;omega
 have B2:=ah (F.trans (b2.mono F.size));have L2:=ah (L1.below b2);have D2:=ah al;have bt:w.heap.size≤w1.heap.size:=F.size;have ao:=ah an;clear b2 L1 al an
 go_wp2_with fail
 refine (agQ w2 g cap _ file L2 (Z.kept (S:=fun _=>False) (Kept.dQ B2) (fun _ _=>id)) (fun k hk=>by have:=uh Qz k hk;omega) Y).mono ?_;rintro e A ⟨rfl,s⟩;have aq:aC w A:=by
  have l:=uh B2;exact ⟨s.os.trans l.os,s.tape.trans l.tape,s.output.trans l.output,jL l.size s.size,fun j hj=>by
   rw [s.block j (iL hj l.size) om];exact l.block j hj⟩
 have G:=ah aq;have D3:=ah (D2.kept s (fun k hk e=>by have:=uh ao k hk;omega));clear s aq L2 B2 F D2
 go_wp2_with fail
 refine (Pe A _ file (Z.kept (S:=fun _=>False) (Kept.dQ G) (fun _ _=>id)) Y).mono ?_;rintro e w4 ⟨rfl,b,fr,t⟩;have cb:=t.at'.DX;rw [a7] at cb;have F4:=ah t.at';have ar: ∀ g,b.ownBlock=some g→A.heap.size≤g:=t.fresh;have MI:=ah ar;have D4:=ah (D3.below t.below);have B4:=ah (G.trans (t.below.mono G.size));have av: ∀ k,MW d v Cv Lv k→k<A.heap.size:=D3.qV;have ba:=ah av;have bw:w.heap.size≤A.heap.size:=G.size;clear t G D3 ar av;generalize A.heap.size=f at*
 go_wp2_with fail
 refine (XL w4 d v Cv Lv (dP file) D4 om K MH).mono ?_;rintro e w5 ⟨rfl,H⟩;rw [a8];have F5:=ah (F4.below H);have D5:=ah (D4.below H);have B5:=ah (B4.trans (H.mono B4.size));have bx:w4.heap.size≤w5.heap.size:=H.size;clear H F4 D4 B4 cb
 go_wp2_with fail
 refine (aeN w5 f b fr (look file) F5 (by rw [uh z];exact K) (by rw [uh z];omega) af Ik Xc).mono ?_;rintro e w6 ⟨rfl,M⟩;have I:=ah (F5.below M);have D6:=ah (D5.below M);have B6:=ah (B5.trans (M.mono B5.size));clear M F5 D5 B5;unfold jG
 go_wp2_with fail
 have o:abl f b w6.drew:=I.vF;have wF: ∀ W,aC w6 W→abl f b W:=fun W l=>(I.below l).vF;have O:=ah wF;clear wF;refine xZ (abl f b) 10 kr ?_;refine tk 0 o ?_;refine tk 1 o ?_;refine tk 3 o ?_;refine tk 4 o ?_;refine tk 5 o ?_;refine tk 6 o ?_;refine tk 7 o ?_;refine wo 2 fun K2 bb=> ?_;go_simp;go_at_call 43;refine (ahT w6.drew f b fr (look file) (I.below (bG _ w6).drew) Ik (by rw [uh z];exact K) a6 om).mono ?_;rintro e w7 ⟨Q,R,rfl,aw,ax,Yd,b7⟩;have az:aC w6 w7:=((bG _ w6).drew).trans b7;have T:=ah az;have DY:=ah ax;have bA:w6.heap.size≤Q:=aw;have bd:Hid (∀ g,R.ownBlock=some g→w6.heap.size≤g):=Yd;clear b7 ax Yd aw az;refine bb _ _ (ay (uh O _ T)) ?_;refine wo 8 fun K8 bf=> ?_;go_simp;go_at_call 44;refine (ah5 w7 f b fr (look file) (I.below T) (by rw [uh z];exact K) (by rw [uh z];omega) af Ik Xc).mono ?_;rintro e w8 ⟨rfl,b8⟩
 have B:=ah (T.trans (b8.mono T.size));have bh:=ah (DY.below b8);clear b8 DY;refine bf _ _ (ay (uh O _ B)) ?_;refine wo 9 fun K9 bj=> ?_;go_simp;go_at_call 32;have aD: ∀ g,b.ownBlock=some g→ ¬ eX v Cv Lv g:=fun g hg J=>by
  have h1:=uh MI g hg;have h2:=uh ba g (ay J);omega
 have F8:=I.below B;refine (abI w8 d v Cv Lv (dP file) Q R b (D9 (look file)) (look file).L (D6.below B) bh ⟨F8.fJ,F8.lens⟩ aD om (lX _) (zW (look file))).mono ?_;rintro e w9 ⟨p,rfl,Mv,m,aE,aL,S1,aM,b9,u⟩;have U:=ah (B.trans (b9.mono B.size));have P9:=ah aM;have bl:=ah u;have bm:=ah aE;have bn:=ah aL;clear b9 aM u aD F8 aE aL;refine bj _ _ (ay (uh O _ U)) ?_;refine wo 10 fun bB aR=> ?_;go_simp;refine aR _ _ (ay (uh O _ U)) ?_;refine sH kr ?_ _;clear o;have a0:nI ⟨d,v,Q,Cv,Lv,R,Mv,b,zW (look file),dP file,D9 (look file),(look file).L,[m]⟩ N0 E:=
  ⟨by
   show aY (look file).L (dP file) N0 E;rw [D.L];exact D.bH,D.jw.symm,D.exact⟩
 have gq:=ah (Sz w9 p _ S1 N0 E P9 a0 (lX _) (by show (look file).L.length≤1000;rw [uh z];omega) sm);clear a0
 go_wp2_with fail
 refine gq.mono ?_;rintro e bo ⟨rfl,bp,m',a1,a2,S',a3,y,a4⟩;have bE:w.heap.size≤w6.heap.size:=B6.size;have bL:w6.heap.size≤w8.heap.size:=B.size;have bN:w6.heap.size≤w9.heap.size:=U.size;have u: ∀ k,S1 k→w.heap.size≤k:=fun k hk=>by
  rcases uh bl k hk with (x | x | x | x) | x
  ·have:=uh ao k x;omega
  ·omega
  ·have:=uh bd k x;omega
  ·have:=uh MI k x;omega
  ·omega
 have r:aC w w9:=B6.trans (U.mono B6.size);have ad:Xj w bo file p { (⟨d,v,Q,Cv,Lv,R,Mv,b,zW (look file),dP file,D9 (look file),(look file).L,[m]⟩:eP) with Mv:=bp,ms:=[m]++[m'] } S':=by
  refine ⟨a3,rfl,D.L,rfl,rfl,rfl,?_,?_,fun k hk=> ?_,?_⟩
  ·intro q hq;rcases fK.1 hq with x | x
   ·rw [iP.1 x];exact uh bm
   ·rw [iP.1 x];exact a1
  ·intro q hq;rcases fK.1 hq with x | x
   ·rw [iP.1 x];exact uh bn
   ·rw [iP.1 x];exact a2
  ·rcases a4 k hk with x | x
   ·exact u k x
   ·omega
  ·exact ⟨y.os.trans r.os,y.tape.trans r.tape,y.output.trans r.output,jL r.size y.size,fun j hj=>by
    rw [y.block j (iL hj r.size) (fun hx=>by have:=u j hx;omega)];exact r.block j hj⟩
 have CO:=ah ad;clear ad a3 y a4 u r a1 a2;go_wp2;refine iy (Ob rfl _ _ _) rfl ?_;exact ⟨p,_,_,rfl,uh CO⟩
section
attribute [local go_sem ↓] dw fP fV IZ
attribute [local go_sem] dM fO fU gW gB aV Jd jc jd
def Ku (p b d:Nat) (s:ByteArray) (a:World):Prop:=a.cell? ⟨p,0,none⟩=some (.pointer (some ⟨d,0,none⟩))∧a.cell? ⟨b,2,none⟩=some (.string s)
def avU (w:World) (p:Nat) (P:eP) (S:Nat→Prop) (N0:Nat) (E:List aW) (h:dL w p P S) (ad:nI P N0 E) (hL:P.V.L.length≤400000000) (o:lM) (hn:o.name.size≤maxLen) (av:o.kind=3):
  Calls Tryz.prog 63 #[.pointer (some ⟨p,0,none⟩),.agg (dI o).toArray] w fun e w'=>e= .returned (.bool true)∧ ∃ P' N1 E',nI P' N1 E'∧jo P.V P'.V P.D P'.D∧ ∃ S',wz w w' p P S P' S':=by
 have a:=ad.bH;obtain ⟨k1,m,I,k4,k5⟩:=a.look;have h7:=a.file.seven;have qm:=a.file.most;have o7:=a.file.lens;have aR:(⟨N0,0,[]⟩:bI) ∈ aH N0 E:=by simp [aH]
 have aw:=a.sound.KW aR;have aa:=a.amC o.name;have bd:(aH N0 E).length≤5:=by have:=a.file.iR.len;simp [aH];omega
 have Uy:gU P.V (num (cl P.V.C 0) 6):=by rw [a.Ac];exact a.sound.BF a.NK
 have bf:P.D.L.length≤4:=by rw [← ad.jw,Jw];exact a.file.iR.len
 have ai:aC w (w.alloc (.cells (dI o).toArray 80)):=fC;have ag:(w.alloc (.cells (dI o).toArray 80)).heap[w.heap.size]? = some (.cells (dI o).toArray 80 (0,0)):=aX _ _;have c0:=(h.below ai).c0;have H:=ah h;have HG:=ah a;have b:=ah ad;have B0:=ah ai;have X0:=ah ag;have X:=ah aa;have ax:=fun k hk=>H.lt k (H.Di k (ay hk));have Om:=ah ax;have Hk:=ah av;have Qp:=ah Uy;clear h a ai ag aa ax ad av Uy
 go_enter Tryz.func63,Tryz.ntmps63
 go_wp2_with fail
 generalize w.alloc (.cells (dI o).toArray 80)=w0 at*;refine (OD w0 _ _ _ _ _ (H.below B0).ig om om).mono ?_;rintro e Y ⟨fv,rfl,az,b1⟩;have Z:=ah (B0.trans (b1.mono B0.size));have X1:=ah ((b1.block _ (aK X0)).trans X0);have R1:Hid (kK Y fv P.V.C):=⟨Ba az (lX _),o7⟩;clear B0 X0 az b1 c0
 go_wp2_with fail
 refine (Pe Y fv P.V.C R1 om).mono ?_;rintro e r ⟨rfl,fl,fr,F⟩;have J:=ah (Z.trans (F.below.mono Z.size));have X2:=ah ((F.below.block _ (aK X1)).trans X1);have F2:=ah F.at';have aD: ∀ g,fl.ownBlock=some g→w.heap.size≤g:=fun g a=>jL Z.size (F.fresh g a);have MI:=ah aD;have a0:w.heap.size≤Y.heap.size:=Z.size;have c1:=(H.below J).c1;have bh:Y.heap.size<r.heap.size:=aK F.at'.aG;have al:w.heap.size≤r.heap.size:=J.size;clear F Z X1 R1 aD;generalize Y.heap.size=f at*
 go_wp2_with fail
 refine (XE r P.y P.Pv P.D (H.below J).ref om).mono ?_;rintro e n ⟨Qv,rfl,ae,an,b3⟩;have s:=ah (J.trans (b3.mono J.size));have X3:=ah ((b3.block _ (aK X2)).trans X2);have F3:=ah (F2.below b3);have D3:=ah ae;have a1:r.heap.size<n.heap.size:=ae.lt;have hQ: ∀ g,Qv.ownBlock=some g→w.heap.size≤g∧g<n.heap.size:=fun g a=>⟨by have:=an g a;omega,(ae.row.lt g a).2⟩;have a2:Hid (∀ g,fl.ownBlock=some g→g<r.heap.size):=fun g a=>(F2.fJ.lt g a).2;have a3:Hid (∀ g,fr.ownBlock=some g→g<r.heap.size):=fun g a=>(F2.pG.lt g a).2;have HQ:=ah hQ;have ao:=ah an;have ck:n.cell? ⟨w.heap.size,0,none⟩=some (.int .i64 3):=by rw [aF (uh X3) 0,bZ];show some (Value.int .i64 o.kind)=_;rw [uh Hk]
 clear ae an b3 hQ X2 F2 c1 J;generalize r.heap.size=z at*
 go_wp2_with fail
 have t:Ku p w.heap.size P.d o.name n.drew:=⟨(H.below s.drew).c0,(aF (w:=n) X3 2).trans rfl⟩;have Hw:=ah (aqh n.drew P.d P.v P.Cv P.Lv P.V (H.below s.drew).ig om qm om Qp o.name hn);have EL:Hid (jo P.V (vP P.V o.name).1 P.D (Ep P.D o.name).1):=by
  have ht:=b.bH.awO o.name;rw [b.jw] at ht;exact ht
 generalize hR:vP P.V o.name=R at*;have HR:=ah hR;clear hR;refine xZ (Ku p w.heap.size P.d o.name) 7 kr ?_;refine tk 0 t ?_;refine tk 1 t ?_;refine tk 2 t ?_;refine tk 3 t ?_;refine tk 4 t ?_;refine tk 5 t ?_;refine wo 6 fun K6 a4=> ?_;go_simp;go_at_call 17;refine Hw.mono ?_;rintro e K ⟨rfl,C4,L4,l⟩;have u:Hid (dF n K P.v P.Cv P.Lv C4 L4 R.1):=⟨l.at',⟨l.kept.os,l.kept.tape,l.kept.output,l.kept.size,l.kept.block⟩,l.new⟩;have G: ∀ k,w.heap.size≤k→ ¬ eX P.v P.Cv P.Lv k:=fun k hk hf=>by have:=uh Om k hf;omega
 have X4:=ah (u.kept.aG (G _ (aO _)) X3);have F4:=ah (F3.kept u.kept (G _ a0) (fun g a=>G g (uh MI g a)) (fun g a=>by obtain ⟨cs,bj,hb⟩:=LG F3.pG a;exact (H.below s).OG hb dc dc dc));have D4:=ah (D3.kept u.kept (G _ al) (fun g a=>G g (uh HQ g a).1));have bl:n.heap.size≤K.heap.size:=u.kept.size;have aE:=((H.below s).step u).c0;have aL:Ku p w.heap.size P.d o.name K:=⟨aE,(aF X4 2).trans rfl⟩;clear l G;refine a4 _ _ (ay aL) ?_;refine wo 7 fun K7 a5=> ?_;go_simp;refine a5 _ _ (aA rfl) ?_;refine sH kr ?_ _;clear t aL aE Hw X3 F3 D3 ck;have a6:K.cell? ⟨w.heap.size,2,none⟩=some (.string o.name):=(aF X4 2).trans rfl;have Hw:=ah (auV K z Qv P.D D4 om o.name hn);rw [b.jw] at X;generalize a7:Ep P.D o.name=R' at*;clear a7
 go_wp2_with fail
 refine Hw.mono ?_;rintro e w5 ⟨rfl,Q5,af⟩;have aq:Kept (fun x=>x=z∨Qv.ownBlock=some x) K w5:=af.kept;have D5:=ah af.at';have a8:Hid (∀ g,Q5.ownBlock=some g→w.heap.size≤g):=fun g a=>by
  rcases af.new g a with x | x
  ·exact (uh HQ g x).1
  ·have:=s.size;omega
 have M:=ah (F4.kept aq (fun x=>by
  rcases x with x | x
  ·omega
  ·have:=uh ao _ x;omega) (fun g a x=>by
  have:=uh a2 g a
  rcases x with x | x
  ·omega
  ·have:=uh ao _ x;omega) (fun g a x=>by
  have:=uh a3 g a
  rcases x with x | x
  ·omega
  ·have:=uh ao _ x;omega))
 have q:=ah (fun hl=>wz.other H s u aq ⟨al,a1⟩ HQ hl);have aM: ¬ (S z∨eX P.v C4 L4 z):=fun x=>by
  rcases (H.below s).SA u z x with y | y
  ·have:=H.lt z y;omega
  ·omega
 have a9:=ah aM;clear af aq aM;clear Hw X4 F4 D4 a6;have ba:=M.DX;rw [k1] at ba;rcases uh X with ⟨c,hc,N,A⟩ | ⟨A,Q,N⟩ | ⟨A,Q,N,hl,hm,E',ar⟩
 ·subst N;subst A;dsimp only at q D5 ⊢;have B:=ah (uh q om);have gq:Hid (nI { P with Cv:=C4,Lv:=L4,V:=P.V } N0 E):=⟨b.bH,b.jw,b.exact⟩;have d0:(((c:Nat):Int) == 0)=false:=by rw [lY];omega
  have ab:=ah (fun W=>Ei ((c:Nat):Int) W);clear q D5 M X
  go_wp2_with fail
  refine (uh ab _).mono ?_;rintro e w9 ⟨rfl,rfl⟩;go_wp2;go_ret;exact ⟨rfl,_,_,_,uh gq,b.still,_,uh B⟩
 ·subst N;dsimp only at q ⊢;rw [A];have B:=ah (uh q om);have gq:Hid (nI { P with Cv:=C4,Lv:=L4,V:=P.V } N0 E):=⟨b.bH,b.jw,b.exact⟩;have T:rootOf (look P.V.C) 0=⟨N0,0,[]⟩:=by unfold rootOf;rw [I];rfl
  have i:=ah (fun (W:World) (hB:aC w5 W)=>Zm W f fl fr (look P.V.C) (M.below hB) 0 (by rw [I];simp [aH]) (by rw [I];omega) (by rw [m];exact qm) (by rw [m];omega) (by rw [T,m];exact aw));rw [T,m] at i;dsimp only at i;rw [Q] at i;clear q D5 M X Q A
  go_wp2_with fail
  refine (uh i _ (bG _ _)).mono ?_;rintro e w6 ⟨rfl,O⟩;have U:=ah (B.below O);clear O B i;go_wp2;go_ret;exact ⟨rfl,_,_,_,uh gq,b.still,_,uh U⟩
 ·rw [A,N];have B:=ah (uh q hl);have bm:=b.jw;have T:rootOf (look P.V.C) 0=⟨N0,0,[]⟩:=by unfold rootOf;rw [I];rfl
  have i:=ah (fun (W:World) (hB:aC w5 W)=>Zm W f fl fr (look P.V.C) (M.below hB) 0 (by rw [I];simp [aH]) (by rw [I];omega) (by rw [m];exact qm) (by rw [m];omega) (by rw [T,m];exact aw));rw [T,m] at i;dsimp only at i;rw [Q] at i;have gq:Hid (nI { P with Cv:=C4,Lv:=L4,V:=R.1,y:=z,D:=R'.1,Pv:=Q5 } N0 E'):=⟨ar.bH,ar.holds,fun hx=>ar.exact (b.exact hx)⟩;have ab:=ah (fun W=>Ei 0 W);clear q M X Q A N
  go_wp2_with fail
  refine (uh i _ (bG _ _)).mono ?_;rintro e w6 ⟨rfl,O⟩;have U:=ah (B.below O);have bb:=ah (D5.below O);have HN:=ah (wz.YT H U bb al a9 a8);have f6:=fun j=>eY U.at'.aG j;have bn:=U.at'.c1;clear O B i
  go_wp2_with fail
  refine (uh ab _).mono ?_;rintro e w9 ⟨rfl,rfl⟩;go_wp2;go_ret;exact ⟨rfl,_,_,_,uh gq,uh EL,_,uh HN⟩
end
end Go.Proofs.YtknjjjenklfeoaaGreatDoor
