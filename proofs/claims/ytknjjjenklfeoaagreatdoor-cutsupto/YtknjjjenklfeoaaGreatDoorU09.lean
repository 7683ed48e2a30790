import Derived.Test.YtknjjjenklfeoaaGreatDoorU08
set_option maxHeartbeats 8000000
set_option maxRecDepth 100000
set_option linter.all false
namespace Go.Proofs.YtknjjjenklfeoaaGreatDoor
open Go.RowKit
section
attribute [local go_sem ↓] dw fP fV kU mZ nC jR kP kJ kF lG lI kR kQ kV ng nD l9 nJ jE
attribute [local go_sem] dM fO fU gW gB aV kY mP mW mQ mO gX jT kN kH lq kX iM kG lu lD lC kM jc jd nH nK kW kZ mX nT mV mM nN
def Lj (V:aB) (n:Nat):aB:=⟨V.C,V.L++[⟨n,cl V.C n⟩],true,V.short⟩
def iG (V:aB):aB:=if V.short then Lj ⟨V.C,V.L,V.loose,false⟩ (V.C.length - 1) else V
def FM (V:aB) (n:Nat) (data:aj):aB:=⟨(oW V.C (n+1)).set n data,(iG V).L++[⟨n,data⟩],true,false⟩
def bQ (V:aB) (n:Nat) (data:aj):aB:=
 if n<V.C.length∧cl V.C n=data then V else FM V n data
def D8 (V:aB):(iG V).C=V.C:=by unfold iG;split <;> rfl
def ab1 (V:aB):(iG V).short=false:=by
 unfold iG
 by_cases h:V.short=true
 ·rw [au h];rfl
 ·rw [ak h];simpa using h
def abZ {V:aB} (h:V.short=false):iG V=V:=by unfold iG;rw [ak (by rw [h];decide)]
def XC (V:aB):(iG V).L.length≤V.L.length+1:=by unfold iG;split <;> simp [Lj]
def aqX {l:List aj} (a: ∀ c ∈ l,c.length=64) (n:Nat): ∀ c ∈ oW l n,c.length=64:=by
 intro c hc;rcases fK.1 hc with h | h
 ·exact a c h
 ·rw [Mc h];exact aV
def Ec (l:List aj) (n:Nat):(oW l n).length=max l.length n:=by simp [oW];omega
def al3 {n:Int} {c:aj} (hc:c.length=64) (w:World):(bWr #[(0,.int .i64 n),(1,.agg (cv c).toArray)]).run Tryz.prog w= .ok (.agg (bT ⟨n,c⟩).toArray) w:=by
 have a:=(uZ (P:=Tryz.prog) (t:=104) (v:= .agg (bT ⟨0,zc⟩).toArray) (n:=65) kr).1;have b:Instr.fill (fun x=>(#[(0,1),(1,64)]:Array (Nat × Nat))[x]?) ([Value.int .i64 0]++cv zc).toArray [(0,Value.int .i64 n),(1,.agg (cv c).toArray)]=some (bT ⟨n,c⟩).toArray:=by
  rw [KO _ _ 0 0 1 (.int .i64 n) _ (by rfl) (by rfl) sm,show (Value.int .i64 n).cells.toList=[Value.int .i64 n] from rfl,PN [Value.int .i64 0] (cv zc) [Value.int .i64 n] rfl,
   KO _ _ 1 1 64 (.agg (cv c).toArray) _ (by rfl) (by simp [Value.cells,bC,hc]) (by simp [bC,aV]),Instr.fill,show (Value.agg (cv c).toArray).cells.toList=cv c from rfl]
  have:=ZE [Value.int .i64 n] (cv zc) (cv c) (by simp [bC,aV,hc])
  rw [show 1=[Value.int .i64 n].length from rfl,this];rfl
 exact LH w 104 _ (.agg (bT ⟨0,zc⟩).toArray) #[(0,1),(1,64)] #[(0,.int .i64 n),(1,.agg (cv c).toArray)] _ Tryz.underlying104 a (fun w=>kr) b
attribute [local go_sem] al3
def auw (w:World) (v:Nat) (Cv Lv:Value) (V:aB) (h:aP w v Cv Lv V) (n:Nat) (hn:n<V.C.length) (data:aj) (f:cl V.C n=data) (hL:V.C.length≤1000):
  Calls Tryz.prog 70 #[.pointer (some ⟨v,0,none⟩),.int .i64 (n:Nat),.agg (cv data).toArray] w fun e w'=>e= .returned (.tuple #[])∧ ∃ j k,dF w w' v Cv Lv j k V:=by
 obtain ⟨g,cap,rfl,_⟩:=gy h.jS om;have b:=je h.kT hn;rw [f] at b;have c:=dW.one w (.cells (cv data).toArray 38);have a:=h.below c.below;have c0:=a.c0;have p:=fun m=>oQ (a.drewN m).jS a.kT n hn;have l:=fun m=>oP (a.drewN m).jS a.kT n hn;have q:=fun m=>iD (c.drewN m).o0 b;have r:=fun m=>iC (c.drewN m).o0 b;have i:(n:Int)<(V.C.length:Int):=om;have s:decide ((n:Int)<(V.C.length:Int))=true:=by simpa using i
 have o:=ah ((dF.refl h).later c.below);have he:=wY b b;rw [dZ rfl] at he;rw [f] at l;clear c a
 go_enter Tryz.func70,Tryz.ntmps70
 go_wp2
 go_quiet (fail)
 go_wp2;refine iy (DF rfl _ _ _) rfl ?_;exact ⟨rfl,_,_,o.drewN _⟩
def aP.aqV {w a:World} {v:Nat} {Cv Lv v':Value} {V:aB} {C':List aj} (h:aP w v Cv Lv V) (b:w.grownBy a Cv.ownBlock) (m:a.ownsRow 0 38 64 v' C'.length (aS C')) (n: ∀ x ∈ C',x.length=64) (hlen:V.C.length≤C'.length) (j: ∀ g,v'.ownBlock=some g→Cv.ownBlock=some g∨w.heap.size≤g):
  dF w (a.setCell ⟨v,0,none⟩ v') v Cv Lv v' Lv ⟨C',V.L,V.loose,V.short⟩:=by
 have o:a.heap[v]? = some (.cells (P5 Cv Lv V).toArray 121 (0,0)):=qW b h.aG h.Rt;have p:=heap_setCell_same a v 0 v' _ _ _ o;have l:Kept (fun k=>Cv.ownBlock=some k) w a:=⟨b.os,b.tape,b.output,b.size,fun k hk hs=>b.block k hk (fun e=>hs e.symm)⟩;have i:=Kept.only a v 0 v';refine ⟨⟨?_,?_,?_,n,h.zZ,fun hs=>iL (h.sh hs) hlen⟩,?_,?_⟩
 ·rw [p];rfl
 ·exact bV i m (fun g f e=>by
   subst e;rcases j _ f with c | c
   ·exact h.Rt _ c rfl
   ·have:=h.lt;omega)
 ·refine bV i (bV l h.fJ (fun g f q=>h.adN g f q)) (fun g f=>h.GR g f)
 ·exact (l.mono (fun k hk=>ay (aA hk))).trans (i.mono (fun k hk=>aA hk))
 ·rintro k (rfl | hk | hk)
  ·exact aA (aA rfl)
  ·rcases j k hk with c | c
   ·exact aA (ay (aA c))
   ·exact ay c
  ·exact aA (ay (ay hk))
def aP.ZC {w:World} {v g cap:Nat} {Lv:Value} {V:aB} (h:aP w v (.slice (some ⟨g,0,none⟩) V.C.length cap) Lv V) (k:Nat) (hk:k<V.C.length) (c:aj) (hc:c.length=64):
  dF w (w.setCells g (k*64) (cv c)) v (.slice (some ⟨g,0,none⟩) V.C.length cap) Lv (.slice (some ⟨g,0,none⟩) V.C.length cap) Lv ⟨V.C.set k c,V.L,V.loose,V.short⟩:=by
 have a:=Kept.BL w g (k*64) (cv c);refine ⟨⟨?_,?_,?_,?_,h.zZ,fun hs=>by simpa using h.sh hs⟩,a.mono (fun x b=>ay (aA (by rw [b];rfl))),fun k hk=>aA hk⟩
 ·exact a.aG (fun e=>h.Rt g rfl e.symm) h.aG
 ·have:=Zq h.jS h.kT k hk c hc;exact this
 ·exact bV a h.fJ (fun i f e=>h.adN i f (by rw [e];rfl))
 ·intro x b;rcases Oc b with y | y
  ·exact h.kT x y
  ·rw [y];exact hc
def aP.avN {w:World} {v:Nat} {Cv Lv:Value} {V:aB} (h:aP w v Cv Lv V):dF w (w.setCell ⟨v,3,none⟩ (.bool false)) v Cv Lv Cv Lv ⟨V.C,V.L,V.loose,false⟩:=by
 have a:=Kept.only w v 3 (.bool false);have c:=heap_setCell_same w v 3 (.bool false) _ _ _ h.aG;refine ⟨⟨?_,bV a h.jS (fun g b e=>h.Rt g b e),bV a h.fJ (fun g b e=>h.GR g b e),h.kT,h.zZ,fun hs=>by cases hs⟩,a.mono (fun k hk=>aA hk),fun k hk=>aA hk⟩;rw [c];rfl
def aut {w U b:World} {v n g5 cap5:Nat} {Cv Lv c:Value} {C':List aj} {L:List fZ} {l s:Bool} {data:aj} (h:dF w U v Cv Lv c Lv ⟨C',L,l,s⟩) (k:data.length=64)
  (i:(U.alloc (.cells (bT ⟨n,data⟩).toArray 104)).drew.grownBy b Lv.ownBlock) (j:b.ownsRow 0 104 65 (.slice (some ⟨g5,0,none⟩) (L.length+1) cap5) (L.length+1) (jg L++bT ⟨n,data⟩))
  (m:Lv.ownBlock=some g5∨g5=U.heap.size+1):
  dF w ((b.setCell ⟨v,1,none⟩ (.slice (some ⟨g5,0,none⟩) (L.length+1) cap5)).setCell ⟨v,2,none⟩ (.bool true)) v Cv Lv c (.slice (some ⟨g5,0,none⟩) (L.length+1) cap5) ⟨C',L++[⟨n,data⟩],true,s⟩:=by
 refine ((h.alloc (.cells (bT ⟨n,data⟩).toArray 104)).drew).trans (aP.aiG (h.alloc (.cells (bT ⟨n,data⟩).toArray 104)).drew.at' i (L':=L++[⟨n,data⟩]) ?_ ?_ ?_)
 ·rw [XY,oL];exact j
 ·intro x a;rcases fK.1 a with a | a
  ·exact h.at'.zZ x a
  ·rw [iP.1 a];exact k
 ·intro g e;simp only [Value.ownBlock,jH] at e;subst e;rcases m with f | f
  ·exact aA f
  ·right
   show (U.alloc _).heap.size≤_
   simp;omega
def adP (w:World) (v:Nat) (Cv Lv:Value) (V:aB) (h:aP w v Cv Lv V) (n:Nat) (hn:n<V.C.length) (G:V.C.length≤2000) (hL:V.L.length≤1100000000):
  Calls Tryz.prog 133 #[.pointer (some ⟨v,0,none⟩),.int .i64 (n:Nat)] w fun e w'=>e= .returned (.tuple #[])∧ ∃ s u,dF w w' v Cv Lv s u (Lj V n):=by
 obtain ⟨x,l,m,p,q⟩:=qw Tryz.OZ;obtain ⟨I,A,y,_⟩:=gy h.jS om;subst y;have g:=je h.kT hn;have J:=h.drew.c0;have K:=h.drew.c1;have B: ∀ o,(w.alloc o).drew.cell? ⟨v,1,none⟩=some Lv:=fun o=>(h.alloc o).drew.c1;have M:=oQ h.drew.jS h.kT n hn;have N:=oP h.drew.jS h.kT n hn;have D:(n:Int)<(V.C.length:Int):=om;have z:Hid (Lj V n=⟨V.C,V.L++[⟨n,cl V.C n⟩],true,V.short⟩):=rfl;generalize cl V.C n=c at*;have H:=ah h;clear h
 go_enter Tryz.func133,Tryz.ntmps133
 go_wp2
 go_region_law (refine JZ _ (by rfl) _ _ _ (by rfl) 0 104 x _ 65 72 Tryz.underlying58 l m p q (by simp [Value.cells,bT,bC,aV]) om Lv V.L.length (jg V.L) (by rfl) (H.drew.alloc _).fJ ⟨w.heap.size,0,none⟩ 1 1 (bT ⟨n,c⟩) (by rfl) (by rw [tN g]) (pJ (cs:=(bT ⟨n,c⟩).toArray) (t:=104) (fr:=(0,0)) (aX w.drew _)) (NU _) om (by unfold maxLen;omega) om om (w.heap.size+1) sm ?_;intro g5 cap5 a k f r O;have b:=ah (qW f (H.drew.alloc _).aG H.GR);have E:a.cell? ⟨v,1,none⟩=some Lv:=(aF b 1).trans rfl;have F:a.cell? ⟨v,2,none⟩=some (.bool V.loose):=(aF b 2).trans rfl;have P: ∀ i,a.frozen? ⟨v,i,none⟩=false:=fun i=>eY b i)
 all_goals
  go_wp2
  go_end0
  have j:=aut (dF.refl H) g f k r;rw [← uh z] at j;exact ⟨rfl,_,_,j⟩
def ab2 (w:World) (v:Nat) (Cv Lv:Value) (V:aB) (h:aP w v Cv Lv V) (r:V.C.length≤1000) (hL:V.L.length≤1100000000):
  Calls Tryz.prog 113 #[.pointer (some ⟨v,0,none⟩)] w fun e w'=>e= .returned (.tuple #[])∧ ∃ i j,dF w w' v Cv Lv i j (iG V):=by
 have c3:=h.c3;cases hs:V.short with
 | false=>
  rw [hs] at c3;have k:=ah (dF.refl h);have c:Hid (iG V=V):=abZ hs;clear h
  go_enter Tryz.func113,Tryz.ntmps113
  go_wp2
  go_end0
  exact ⟨rfl,Cv,Lv,by rw [uh c];exact uh k⟩
 | true=>
  rw [hs] at c3;have q:=h.sh hs;have s:=h.fz 3;have a:=h.avN;have c:Hid (iG V=Lj ⟨V.C,V.L,V.loose,false⟩ (V.C.length - 1)):=ah (by unfold iG;rw [au hs]);have b:=adP _ _ _ _ _ a.at' (V.C.length - 1) (by show _<V.C.length;omega) (by show V.C.length≤2000;omega) hL;have g:((V.C.length - 1:Nat):Int)=(V.C.length:Int) - 1:=om;rw [g] at b;have b:=ah b;have c0:=a.at'.c0;obtain ⟨t,cap,l⟩:=gQ h.jS;subst l;have m:=ah a;clear a h g
  go_enter Tryz.func113,Tryz.ntmps113
  go_wp2_with fail
  refine b.mono ?_;rintro e u ⟨rfl,n,o,f⟩;have p:=ah (m.trans f);clear f;go_wp2
  go_end0
  refine ⟨rfl,n,o,?_⟩;rw [uh c];exact uh p
def ahn {C:List aj} {n:Nat} (h:n<C.length) (d:aj):cl (C.set n d) n=d:=by
 unfold cl;rw [aN,uI,au rfl,au h];rfl
def auu (w:World) (v:Nat) (Cv Lv:Value) (V:aB) (h:aP w v Cv Lv V) (n:Nat) (hn:n≤1000) (data:aj) (u:data.length=64) (hd:V.C.length≤n) (hC:V.C.length≤1000) (hL:V.L.length≤1000000000):
  Calls Tryz.prog 70 #[.pointer (some ⟨v,0,none⟩),.int .i64 (n:Nat),.agg (cv data).toArray] w fun e w'=>e= .returned (.tuple #[])∧ ∃ qP qQ,dF w w' v Cv Lv qP qQ (FM V n data):=by
 obtain ⟨i0,aa,ab,ad,ae⟩:=qw Tryz.KY;obtain ⟨i1,an,ao,aq,ar⟩:=qw Tryz.OZ;have j:=(Env.start h).lay (.cells (cv data).toArray 38);have c0:=j.at'.c0;obtain ⟨af,Y,OH⟩:=gQ h.jS;subst OH;have dn:decide (n<V.C.length)=false:=by simp;omega
 have j:=ah j;clear h
 go_enter Tryz.func70,Tryz.ntmps70
 go_wp2
 go_quiet (fail)
 have a:=ah (j.drewN nq);clear j c0;generalize (w.alloc (.cells (cv data).toArray 38)).drewN nq=W0 at*;generalize ag:Value.slice af V.C.length Y=Cv at*
 go_wp2_with fail
 refine (ab2 W0 v Cv Lv V a.at' hC om).mono ?_;rintro e W ⟨rfl,Ck,F,G⟩;have c:=ah (a.gG G);clear a G;have a:=c;clear c;have H:=D8 V;have I:=ab1 V;have yG:=XC V;have J:Hid (FM V n data=⟨(oW V.C (n+1)).set n data,(iG V).L++[⟨n,data⟩],true,false⟩):=rfl;generalize iG V=K at*;obtain ⟨KC,k,q,Ks⟩:=K;dsimp only at H I yG J a;subst H;subst I;go_wp2
 go_loopw [26] (fun _ w'=> ∃ (M:Value) (m:Nat),Env w w' v Cv Lv M F ⟨V.C++List.replicate m zc,k,q,false⟩ [(w.heap.size,.cells (cv data).toArray 38)]∧V.C.length+m≤max V.C.length (n+1)) (fun _ w'=>n+1 - VQ ((w'.cell? ⟨v,0,none⟩).getD undef))
 case atStart=>exact ⟨Ck,0,by simpa using uh a,om⟩
 case round=>
  obtain ⟨M,m,b,hm⟩:=hrel;clear a;have hv:=b.at';have f:(V.C++List.replicate m zc).length=V.C.length+m:=sm;have jS:=hv.jS;rw [f] at jS;obtain ⟨N,cap,rfl⟩:=gQ jS;have c0:=hv.c0
  by_cases av:V.C.length+m≤n
  ·have dl:decide (((V.C.length+m:Nat):Int)≤(n:Int))=true:=by simp;omega
   have aw: ∀ o,(wr.alloc o).cell? ⟨v,0,none⟩=some _:=fun o=>(hv.alloc o).c0;have HE:=ah b;have fA:=ah jS;have ai:=ah c0;have l:=ah hv;clear b hv jS
   go_wp2_with (at_builtin;refine yc _ rfl _ _ _ rfl 0 38 i0 _ 64 64 Tryz.underlying28 aa ab ad ae (by simp [Value.cells,bC,aV]) om (.slice N (V.C.length+m) cap) (V.C.length+m) (aS (V.C++List.replicate m zc)) rfl (fA.alloc _) ⟨wr.heap.size,0,none⟩ 1 1 (cv zc) rfl (by rw [bC,aV]) (pJ (cs:=(cv zc).toArray) (t:=38) (fr:=(0,0)) (aX wr _)) (Au zc) om (by unfold maxLen;omega) om om (wr.heap.size+1) sm ?_;intro g5 cap5 O X B al uP;have P:=ah (qW B (l.alloc _).aG l.Rt);have c5:O.cell? ⟨v,0,none⟩=some _:=(aF P 0).trans rfl;have z5: ∀ i,O.frozen? ⟨v,i,none⟩=false:=fun i=>eY P i)
   have Q:=ah (HE.gG ((dF.alloc (dF.refl l) _).trans (aP.aqV (l.alloc _) B (C':=V.C++List.replicate (m+1) zc) (v':= .slice (some ⟨g5,0,none⟩) (V.C.length+m+1) cap5) (by
    rw [LV,← tV,QN,oL,f];exact X) (by
    intro x p;rcases fK.1 p with p | p
    ·exact l.kT x (List.mem_append_left _ p)
    ·rw [Mc p];exact aV) sm (by
    intro g R;simp only [Value.ownBlock,jH] at R;subst R;rcases al with S | S
    ·exact aA S
    ·right;simp;omega))))
   go_roundw
   case rel=>exact ⟨_,m+1,uh Q,om⟩
   case measure=>
    rw [Q.at'.c0,uh ai];simp [VQ];omega
  ·have dl:decide (((V.C.length+m:Nat):Int)≤(n:Int))=false:=by simp;omega
   obtain ⟨g,Z,T,_⟩:=gy jS om;obtain ⟨rfl,rfl⟩:N=some ⟨g,0,none⟩∧cap=Z:=by injection T with x1 x2 x3;exact ⟨x1,x3⟩
   have D:V.C++List.replicate m zc=oW V.C (n+1):=by
    unfold oW
    congr 2
    omega
   have E:n<(V.C++List.replicate m zc).length:=by rw [f];omega
   have l1:=iD b.drew.o0 u;have l2:=iC b.drew.o0 u;have y:aP wr v (.slice (some ⟨g,0,none⟩) (V.C++List.replicate m zc).length cap) F ⟨V.C++List.replicate m zc,k,q,false⟩:=by rw [f];exact hv
   have th:wr.drew.there g (n*64) 64:=VL y.drew.jS n E;have r:=aP.ZC (V:=⟨V.C++List.replicate m zc,k,q,false⟩) y.drew n E data u;simp only at r;rw [f] at r;have c:=ah (b.drew.gG r);have ax:(n:Int)<((V.C.length+m:Nat):Int):=om;clear y hv jS T b r;go_wp2
   go_region
   generalize hU:World.setCells wr.drew g (n*64) (cv data)=U at*;rw [D] at c;clear hU l1 l2 th c0 D;have Nh:n<((oW V.C (n+1)).set n data).length:=by rw [rV,Ec];omega
   have A:=adP _ _ _ _ _ c.at' n Nh (by show ((oW V.C (n+1)).set n data).length≤2000;rw [rV,Ec];omega) (by show k.length≤_;omega);have HQ:Hid (Lj ⟨(oW V.C (n+1)).set n data,k,q,false⟩ n=FM V n data):=by
    rw [uh J];unfold Lj;rw [ahn (by rw [Ec];omega)];exact ah rfl
   have A:=ah A
   go_wp2_with fail
   refine A.mono ?_;rintro e W9 ⟨rfl,C9,L9,z⟩;rw [uh HQ] at z;have s:=c.step.trans z;rw [← ag] at s;have s:=ah s;clear z;go_wp2
   go_end0
   exact ⟨rfl,C9,L9,uh s⟩
def auv (w:World) (v:Nat) (Cv Lv:Value) (V:aB) (h:aP w v Cv Lv V) (n:Nat) (hn:n≤1000) (data:aj) (c:data.length=64) (l:n<V.C.length) (M:cl V.C n≠data) (R:V.C.length≤1000) (hL:V.L.length≤1000000000):
  Calls Tryz.prog 70 #[.pointer (some ⟨v,0,none⟩),.int .i64 (n:Nat),.agg (cv data).toArray] w fun e w'=>e= .returned (.tuple #[])∧ ∃ S T,dF w w' v Cv Lv S T (FM V n data):=by
 obtain ⟨i1,aa,ab,ad,ae⟩:=qw Tryz.OZ;have a:=(Env.start h).lay (.cells (cv data).toArray 38);have c0:=a.at'.c0;obtain ⟨X,I,Y,_⟩:=gy h.jS om;subst Y;have N:=je h.kT l;have t:=fun m=>oQ (a.at'.drewN m).jS a.at'.kT n l;have u:=fun m=>oP (a.at'.drewN m).jS a.at'.kT n l;have Z:=fun m=>iD (a.drewN m).o0 c;have l4:=fun m=>iC (a.drewN m).o0 c;have O:(n:Int)<(V.C.length:Int):=om;have dn:decide (n<V.C.length)=true:=by simpa using l
 have he:=wY N c;rw [gK M] at he;have a:=ah a;clear h
 go_enter Tryz.func70,Tryz.ntmps70
 go_wp2
 go_quiet (fail)
 have b:=ah (a.drewN nq);clear a c0 t u Z l4 he;generalize (w.alloc (.cells (cv data).toArray 38)).drewN nq=W0 at*;generalize P:Value.slice (some ⟨X,0,none⟩) V.C.length I=Cv at*
 go_wp2_with fail
 refine (ab2 W0 v Cv Lv V b.at' R om).mono ?_;rintro e W ⟨rfl,Ck,A,B⟩;have f:=ah (b.gG B);clear b B;have b:=f;clear f;have D:=D8 V;have E:=ab1 V;have yG:=XC V;have F:Hid (FM V n data=⟨(oW V.C (n+1)).set n data,(iG V).L++[⟨n,data⟩],true,false⟩):=rfl;generalize iG V=K at*;obtain ⟨KC,i,o,Ks⟩:=K;dsimp only at D E yG F b;subst D;subst E;go_wp2
 go_loopw [26] (fun _ w'=> ∃ (G:Value) (m:Nat),Env w w' v Cv Lv G A ⟨V.C++List.replicate m zc,i,o,false⟩ [(w.heap.size,.cells (cv data).toArray 38)]∧V.C.length+m≤max V.C.length (n+1)) (fun _ w'=>n+1 - VQ ((w'.cell? ⟨v,0,none⟩).getD undef))
 case atStart=>exact ⟨Ck,0,by simpa using uh b,om⟩
 case round=>
  obtain ⟨G,m,j,hm⟩:=hrel;clear b;have hv:=j.at';have k:(V.C++List.replicate m zc).length=V.C.length+m:=sm;have jS:=hv.jS;rw [k] at jS;obtain ⟨ca,cap,rfl⟩:=gQ jS;have c0:=hv.c0
  by_cases Q:V.C.length+m≤n
  ·exact absurd Q om
  ·have dl:decide (((V.C.length+m:Nat):Int)≤(n:Int))=false:=by simp;omega
   obtain ⟨g,J,H,_⟩:=gy jS om;obtain ⟨rfl,rfl⟩:ca=some ⟨g,0,none⟩∧cap=J:=by injection H with x1 x2 x3;exact ⟨x1,x3⟩
   have y:V.C++List.replicate m zc=oW V.C (n+1):=by
    unfold oW
    congr 2
    omega
   have z:n<(V.C++List.replicate m zc).length:=by rw [k];omega
   have t:=iD j.drew.o0 c;have u:=iC j.drew.o0 c;have r:aP wr v (.slice (some ⟨g,0,none⟩) (V.C++List.replicate m zc).length cap) A ⟨V.C++List.replicate m zc,i,o,false⟩:=by rw [k];exact hv
   have th:wr.drew.there g (n*64) 64:=VL r.drew.jS n z;have p:=aP.ZC (V:=⟨V.C++List.replicate m zc,i,o,false⟩) r.drew n z data c;simp only at p;rw [k] at p;have f:=ah (j.drew.gG p);have O:(n:Int)<((V.C.length+m:Nat):Int):=om;clear r hv jS H j p;go_wp2
   go_region
   generalize hU:World.setCells wr.drew g (n*64) (cv data)=U at*;rw [y] at f;clear hU t u th c0 y;have Nh:n<((oW V.C (n+1)).set n data).length:=by rw [rV,Ec];omega
   have x:=adP _ _ _ _ _ f.at' n Nh (by show ((oW V.C (n+1)).set n data).length≤2000;rw [rV,Ec];omega) (by show i.length≤_;omega);have HQ:Hid (Lj ⟨(oW V.C (n+1)).set n data,i,o,false⟩ n=FM V n data):=by
    rw [uh F];unfold Lj;rw [ahn (by rw [Ec];omega)];exact ah rfl
   have x:=ah x
   go_wp2_with fail
   refine x.mono ?_;rintro e W9 ⟨rfl,C9,L9,s⟩;rw [uh HQ] at s;have q:=f.step.trans s;rw [← P] at q;have q:=ah q;clear s;go_wp2
   go_end0
   exact ⟨rfl,C9,L9,uh q⟩
def GX (w:World) (v:Nat) (Cv Lv:Value) (V:aB) (h:aP w v Cv Lv V) (n:Nat) (hn:n≤1000) (data:aj) (f:data.length=64) (c:V.C.length≤1000) (hL:V.L.length≤1000000000):
  Calls Tryz.prog 70 #[.pointer (some ⟨v,0,none⟩),.int .i64 (n:Nat),.agg (cv data).toArray] w fun e w'=>e= .returned (.tuple #[])∧ ∃ g i,dF w w' v Cv Lv g i (bQ V n data):=by
 by_cases a:n<V.C.length
 ·by_cases b:cl V.C n=data
  ·rw [show bQ V n data=V from au ⟨a,b⟩];exact auw w v Cv Lv V h n a data b c
  ·rw [show bQ V n data=_ from ak (fun x=>b x.2)];exact auv w v Cv Lv V h n hn data f a b c hL
 ·rw [show bQ V n data=_ from ak (fun x=>a x.1)];exact auu w v Cv Lv V h n hn data f om c hL
end
section
attribute [local go_sem ↓] dw fP fV kU mZ nC jR kP kJ kF lG lI kR kQ kV ng nD l9 nJ jE
attribute [local go_sem] dM fO fU gW gB aV kY mP mW mQ mO gX jT kN kH lq kX iM kG lu lD lC kM jc jd nH nK kW kZ mX nT mV mM nN
def aqM (L:List fZ): ∀ v ∈ jg L,v.oneCell'=true:=by
 intro v hv;obtain ⟨x,_,a⟩:=zT.1 hv;exact NU x v a
def aeo (w:World) (base:Nat) (e:TypeId) (size:Nat) (a:base≤w.heap.size):(w.alloc (.cells #[] e)).ownsRow base e size (.slice (some ⟨w.heap.size,0,none⟩) 0 0) 0 []:=by
 refine ⟨sm,ay ⟨w.heap.size,0,#[],rfl,a,aX w _,om,?_⟩⟩;simp [maxLen]
def apG (w:World) (g cap:Nat) (C:List aj) (l: ∀ c ∈ C,c.length=64) (hr:w.ownsRow 0 38 64 (.slice (some ⟨g,0,none⟩) C.length cap) C.length (aS C)) (h0:0<C.length) (p:C.length≤1000):
  Calls Tryz.prog 135 #[.slice (some ⟨g,0,none⟩) C.length cap] w fun e w'=> ∃ v,e= .returned v∧w'.ownsRow w.heap.size 38 64 v C.length (aS C)∧aC w w':=by
 obtain ⟨m,f,h,i,j⟩:=qw Tryz.KY;have n:=ah hr;have q:=run_eql_slice_nil (P:=Tryz.prog) w 28 38 (some ⟨g,0,none⟩) C.length cap Tryz.underlying28;clear hr
 go_enter Tryz.func135,Tryz.ntmps135
 go_wp2_with (at_builtin;refine yc _ rfl _ _ _ rfl w.heap.size 38 m _ 64 64 Tryz.underlying28 f h i j (by simp [Value.cells,bC,aV]) om (.slice (some ⟨w.heap.size,0,none⟩) 0 0) 0 [] rfl (aeo w _ _ _ (aO _)) ⟨g,0,none⟩ C.length cap (aS C) rfl (zi C l) ((n.alloc _).cells (g:=g) rfl) (XV C) om (by unfold maxLen;omega) om sm (w.heap.size+1) sm ?_;intro g5 cap5 r a b o s)
 go_ret;refine ⟨_,rfl,by simpa using a,((bG _ w).alloc (aO _) _).grown b sm (fun k hk=> ?_)⟩;simp only [Value.ownBlock,jH] at hk;omega
def apI (w:World) (g cap:Nat) (L:List fZ) (hL: ∀ x ∈ L,x.data.length=64) (hr:w.ownsRow 0 104 65 (.slice (some ⟨g,0,none⟩) L.length cap) L.length (jg L)) (h0:0<L.length) (n:L.length≤1000000000):
  Calls Tryz.prog 159 #[.slice (some ⟨g,0,none⟩) L.length cap] w fun e w'=> ∃ v,e= .returned v∧w'.ownsRow w.heap.size 104 65 v L.length (jg L)∧aC w w':=by
 obtain ⟨j,c,f,h,i⟩:=qw Tryz.OZ;have l:=ah hr;have o:=run_eql_slice_nil (P:=Tryz.prog) w 58 104 (some ⟨g,0,none⟩) L.length cap Tryz.underlying58;clear hr
 go_enter Tryz.func159,Tryz.ntmps159
 go_wp2_with (at_builtin;refine yc _ rfl _ _ _ rfl w.heap.size 104 j _ 65 72 Tryz.underlying58 c f h i (by simp [Value.cells,bT,bC,aV]) om (.slice (some ⟨w.heap.size,0,none⟩) 0 0) 0 [] rfl (aeo w _ _ _ (aO _)) ⟨g,0,none⟩ L.length cap (jg L) rfl (Nb L hL) ((l.alloc _).cells (g:=g) rfl) (aqM L) om (by unfold maxLen;omega) om sm (w.heap.size+1) sm ?_;intro g5 cap5 p a b m q)
 go_ret;refine ⟨_,rfl,by simpa using a,((bG _ w).alloc (aO _) _).grown b sm (fun k hk=> ?_)⟩;simp only [Value.ownBlock,jH] at hk;omega
end
section
attribute [local go_sem ↓] dw fP fV Np PS Qa OB
attribute [local go_sem] dM fO fU gW gB aV NM PI PK RZ
def jY (n:Int):Bool:=decide (0≤n) && decide (n<64)
def Yw (n:Int) (w:World):Calls Tryz.prog 115 #[.int .i64 n] w fun e w'=>e= .returned (.bool (jY n))∧w'=w:=by
 have H:Hid (jY n=(decide (0≤n) && decide (n<64))):=rfl
 by_cases h0:0≤n
 ·have a:decide (0≤n)=true:=by simpa using h0
  rw [a,um] at H
  go_enter Tryz.func115,Tryz.ntmps115
  go_wp2;go_ret;exact ⟨by rw [uh H];rfl,rfl⟩
 ·have a:decide (0≤n)=false:=by simpa using h0
  rw [a,J3] at H
  go_enter Tryz.func115,Tryz.ntmps115
  go_wp2;go_ret;exact ⟨by rw [uh H];rfl,rfl⟩
def fB.agU {w:World} {d:Nat} {Pv:Value} {D:dR} (h:fB w d Pv D) (k:Nat) (hk:k<64):w.rangeAt d (k*64) (cv (cl D.C k)):=fun j v hv=>by
 have a:=je h.cont.all (k:=k) (by have:=h.cont.len;omega);have hj:=(Ia.1 hv).1;rw [bC,a] at hj;have b:=h.cont.flat
 have:=h.range (k*64+j) v (by rw [QM D.C h.cont.all k (by have:=h.cont.len;omega) j hj];exact hv)
 rw [rE] at this;exact this
def RV (D:dR) (n:Int):aj × Nat:=if jY n then (cl D.C n.toNat,0) else (zc,1)
def auS (w:World) (d:Nat) (Pv:Value) (D:dR) (h:fB w d Pv D) (n:Int):
  Calls Tryz.prog 126 #[.pointer (some ⟨d,0,none⟩),.int .i64 n] w fun e w'=>
   e= .returned (.tuple #[.agg (cv (RV D n).1).toArray,.int .i64 ((RV D n).2:Nat)])∧aC w w':=by
 have hB: ∀ c:List UInt8,aC w (w.alloc (.cells (cv c).toArray 38)):=fun c=>fC;have b:=ah (Yw n (w.alloc (.cells (cv zc).toArray 38)));have a:Hid (RV D n=if jY n then (cl D.C n.toNat,0) else (zc,1)):=rfl;cases hb:jY n with
 | false=>
  rw [hb] at b a;rw [ak dc] at a
  go_enter Tryz.func126,Tryz.ntmps126
  go_wp2_with fail
  refine b.mono ?_;rintro e i ⟨rfl,rfl⟩;go_wp2;rw [uh a];refine iy (v:= .tuple #[.agg (cv zc).toArray,.int .i64 1]) (by rw [FZ Tryz.results126];simp only [dw];simp [asAddr,gB aV]) rfl ⟨rfl,hB zc⟩
 | true=>
  rw [hb] at b a;rw [au rfl] at a;have hn:0≤n∧n<64:=by simpa [jY] using hb
  obtain ⟨k,rfl⟩:=Cj hn.1;rw [tZ] at a;have hk:k<64:=om;have j:(k:Int)<64:=om;have g:=h.below (hB zc);have f:=je h.cont.all (k:=k) (by have:=h.cont.len;omega);have l:=sU (n:=64) (g.agU k hk) (by rw [bC,f]);have m:=qU (n:=64) (g.agU k hk) (by rw [bC,f]);clear hb hn g;generalize cl D.C k=c at*
  go_enter Tryz.func126,Tryz.ntmps126
  go_wp2_with fail
  refine b.mono ?_;rintro e i ⟨rfl,rfl⟩;go_wp2;rw [uh a];refine iy (v:= .tuple #[.agg (cv c).toArray,.int .i64 0]) (by rw [FZ Tryz.results126];simp only [dw];simp [asAddr,gB f]) rfl ⟨rfl,hB c⟩
end
section
attribute [local go_sem ↓] dw fP fV kU mZ nC jR kP kJ kF lG lI kR kQ kV ng nD l9 nJ jE
attribute [local go_sem] dM fO fU gW gB aV kY mP mW mQ mO gX jT kN kH lq kX iM kG lu lD lC kM jc jd nH nK kW kZ mX nT mV mM nN
def awd (w:World) (v:Nat) (Cv Lv:Value) (V:aB) (h:aP w v Cv Lv V) (h0:0<V.C.length) (a:V.C.length≤1000):
  Calls Tryz.prog 73 #[.pointer (some ⟨v,0,none⟩)] w fun e w'=> ∃ x,e= .returned x∧w'.ownsRow w.heap.size 38 64 x V.C.length (aS V.C)∧aC w w':=by
 obtain ⟨g,cap,rfl,_⟩:=gy h.jS om;have c0:=h.c0;have b:=ah (apG w g cap V.C h.kT h.jS h0 a)
 go_enter Tryz.func73,Tryz.ntmps73
 go_wp2_with fail
 refine b.mono ?_;rintro e f ⟨x,rfl,hr,c⟩;go_wp2;go_ret;exact ⟨x,rfl,hr,c⟩
def axb (w:World) (v:Nat) (Cv Lv:Value) (V:aB) (h:aP w v Cv Lv V) (h0:0<V.C.length) (a:V.C.length≤1000):
  Calls Tryz.prog 38 #[.pointer (some ⟨v,0,none⟩)] w fun e w'=> ∃ x,e= .returned x∧w'.ownsRow w.heap.size 38 64 x V.C.length (aS V.C)∧aC w w':=by
 have b:=ah (awd w v Cv Lv V h h0 a)
 go_enter Tryz.func38,Tryz.ntmps38
 go_wp2_with fail
 refine b.mono ?_;rintro e f ⟨x,rfl,hr,c⟩;go_wp2;go_ret;exact ⟨x,rfl,hr,c⟩
structure pK (w:World) (d v:Nat) (Cv Lv:Value) (V:aB):Prop where
 aG:w.heap[d]? = some (.cells #[.pointer (some ⟨v,0,none⟩)] 85 (0,0))
 bH:aP w v Cv Lv V
def MW (d v:Nat) (Cv Lv:Value) (k:Nat):Prop:=k=d∨eX v Cv Lv k
section
variable {w w':World} {d v:Nat} {Cv Lv:Value} {V:aB}
def pK.c0 (h:pK w d v Cv Lv V):w.cell? ⟨d,0,none⟩=some (.pointer (some ⟨v,0,none⟩)):=by rw [aF h.aG];rfl
def pK.ata (h:pK w d v Cv Lv V): ¬ eX v Cv Lv d:=by
 rintro (rfl | hk | hk)
 ·have:=h.aG;rw [h.bH.aG] at this;cases this
 ·exact iF h.bH.jS h.aG dc d hk rfl
 ·exact iF h.bH.fJ h.aG dc d hk rfl
def pK.kept {S:Nat→Prop} (h:pK w d v Cv Lv V) (hk:Kept S w w') (hs: ∀ k,MW d v Cv Lv k→ ¬ S k):pK w' d v Cv Lv V:=
 ⟨hk.aG (hs d (aA rfl)) h.aG,h.bH.kept hk (fun k a=>hs k (ay a))⟩
def pK.below (h:pK w d v Cv Lv V) (a:aC w w'):pK w' d v Cv Lv V:=h.kept (S:=fun _=>False) (Kept.dQ a) (fun _ _=>id)
def pK.step {a b:Value} {c:aB} (h:pK w d v Cv Lv V) (hs:dF w w' v Cv Lv a b c):pK w' d v a b c:=⟨hs.kept.aG h.ata h.aG,hs.at'⟩
def pK.qV (h:pK w d v Cv Lv V): ∀ k,MW d v Cv Lv k→k<w.heap.size:=by
 rintro k (rfl | hk)
 ·exact aK h.aG
 ·exact h.bH.qV k hk
end
def I4 (w:World) (d v:Nat) (Cv Lv:Value) (V:aB) (h:pK w d v Cv Lv V):
  Calls Tryz.prog 37 #[.pointer (some ⟨d,0,none⟩)] w fun e w'=>e= .returned (.bool true)∧w'=w:=by
 have c0:=h.c0
 go_enter Tryz.func37,Tryz.ntmps37
 go_wp2;go_ret;exact ⟨rfl,rfl⟩
def OD (w:World) (d v:Nat) (Cv Lv:Value) (V:aB) (h:pK w d v Cv Lv V) (h0:0<V.C.length) (a:V.C.length≤1000):
  Calls Tryz.prog 12 #[.pointer (some ⟨d,0,none⟩)] w fun e w'=> ∃ x,e= .returned x∧w'.ownsRow w.heap.size 38 64 x V.C.length (aS V.C)∧aC w w':=by
 have c0:=h.c0;have b:=ah (I4 w d v Cv Lv V h);have c:=ah (axb w v Cv Lv V h.bH h0 a)
 go_enter Tryz.func12,Tryz.ntmps12
 go_wp2_with fail
 refine b.mono ?_;rintro e f ⟨rfl,rfl⟩
 go_wp2_with fail
 refine c.mono ?_;rintro e f ⟨x,rfl,hr,g⟩;go_wp2;go_ret;exact ⟨x,rfl,hr,g⟩
def am4 (n:Int) (w:World):Calls Tryz.prog 103 #[.int .i64 n] w fun e w'=>e= .returned (.bool (jY n))∧w'=w:=by
 have H:Hid (jY n=(decide (0≤n) && decide (n<64))):=rfl
 by_cases h0:0≤n
 ·have a:decide (0≤n)=true:=by simpa using h0
  rw [a,um] at H
  go_enter Tryz.func103,Tryz.ntmps103
  go_wp2;go_ret;exact ⟨by rw [uh H];rfl,rfl⟩
 ·have a:decide (0≤n)=false:=by simpa using h0
  rw [a,J3] at H
  go_enter Tryz.func103,Tryz.ntmps103
  go_wp2;go_ret;exact ⟨by rw [uh H];rfl,rfl⟩
def JD (w:World) (v:Nat) (Cv Lv:Value) (V:aB) (h:aP w v Cv Lv V) (h0:0<V.C.length):
  Calls Tryz.prog 87 #[.pointer (some ⟨v,0,none⟩)] w fun e w'=>e= .returned (.agg (hv (num (cl V.C 0) 4) (num (cl V.C 0) 6)).toArray)∧aC w w':=by
 have b:=dW.one w (.cells (hv 0 0).toArray 128);have i:=ah (Oy _ v Cv Lv V (h.below b.below) 0 h0);have j:Hid (∀ W,_):=fun W=>OU W (cl V.C 0) (je h.kT h0);have b:=ah b;clear h
 go_enter Tryz.func87,Tryz.ntmps87
 go_wp2_with fail
 refine i.mono ?_;rintro e l ⟨rfl,f⟩;have k:=ah (b.later f);clear i b f
 go_wp2_with fail
 refine (uh j l).mono ?_;rintro e q ⟨rfl,g⟩;have c:=k.later g;have r:=iW c.o0 0 2 (by simp [sV]);have a:=c.setCells 0 rfl 0 (hv (num (cl V.C 0) 4) (num (cl V.C 0) 6));rw [jW] at a;rw [qL _ _ (by simp [sV])] at a;have m:=fH a.o0 (n:=2) (sV _ _);have o:=fM a.o0 (n:=2) (sV _ _);have p:=ah a.below;clear a c k g j;go_wp2;refine iy (qZ Tryz.results87 ⟨w.heap.size,0,none⟩ rfl ?_) rfl ⟨rfl,uh p⟩;rw [kF,kG m,o]
def VZ (w:World) (v:Nat) (Cv Lv:Value) (V:aB) (h:aP w v Cv Lv V) (n:Nat) (hn:n<V.C.length):
  Calls Tryz.prog 160 #[.pointer (some ⟨v,0,none⟩),.int .i64 (n:Nat)] w fun e w'=>e= .returned (.agg (tv (numsOf (cl V.C n))).toArray)∧aC w w':=by
 have b:=dW.one w (.cells (tv zt).toArray 169);have k:=ah (Oy _ v Cv Lv V (h.below b.below) n hn);have l:Hid (∀ W,_):=fun W=>awn W (cl V.C n) (je h.kT hn);have f:=numsOf_length (cl V.C n);have b:=ah b;clear h;generalize s:cl V.C n=c at*
 go_enter Tryz.func160,Tryz.ntmps160
 go_wp2_with fail
 refine k.mono ?_;rintro e o ⟨rfl,i⟩;have m:=ah (b.later i);clear k b i
 go_wp2_with fail
 refine (uh l o).mono ?_;rintro e t ⟨rfl,j⟩;have g:=m.later j;have u:=iW g.o0 0 32 (by simp [ql,gX]);have a:=g.setCells 0 rfl 0 (tv (numsOf c));rw [jW] at a;rw [qL _ _ (by simp [ql,gX,f])] at a;have p:=fH a.o0 (n:=32) (by rw [ql,f]);have q:=fM a.o0 (n:=32) (by rw [ql,f]);have r:=ah a.below;clear a g m j l;go_wp2;refine iy (qZ Tryz.results160 ⟨w.heap.size,0,none⟩ rfl ?_) rfl ⟨rfl,uh r⟩;rw [kU,kY p,q]
def KI (C:List aj):Nat→List UInt8
 | 0=>zk
 | k+1=>PO (KI C k) k (cl C (1+k))
def aJ (C:List aj):List UInt8:=KI C 4
def XB (C:List aj) (a: ∀ c ∈ C,c.length=64) (b:5≤C.length): ∀ k,k≤4→(KI C k).length=256
 | 0,_=>iM
 | k+1,hk=>avM _ _ _ (XB C a b k om) (je a om) om
def CY (C:List aj) (a: ∀ c ∈ C,c.length=64) (b:5≤C.length):(aJ C).length=256:=XB C a b 4 om
def MS (w:World) (v:Nat) (Cv Lv:Value) (V:aB) (h:aP w v Cv Lv V) (x:5≤V.C.length):
  Calls Tryz.prog 101 #[.pointer (some ⟨v,0,none⟩)] w fun e w'=>e= .returned (.agg (cv (aJ V.C)).toArray)∧aC w w':=by
 have o:=ah (dW.two w (.cells (cv zk).toArray 123) (.cells (cv zk).toArray 123))
 go_enter Tryz.func101,Tryz.ntmps101
 go_wp2
 go_loopw [4,5] (fun _ i w'=> ∃ k:Nat,k≤4∧i= .int .i64 k∧dW w w' [.cells (cv zk).toArray 123,.cells (cv (KI V.C k)).toArray 123]) (fun _ i _=>4 - (intOf i).toNat)
 case atStart=>exact ⟨0,om,rfl,uh o⟩
 case round=>
  obtain ⟨k,hk,rfl,hL⟩:=hrel;clear o;have a:=XB V.C h.kT x k hk
  by_cases s:k<4
  ·have E:(k:Int)<4:=om;have g:=ah (Oy _ v Cv Lv V (h.below hL.below) (1+k) om);have r:=je h.kT (k:=1+k) om;have p:=ah hL;rw [show ((1+k:Nat):Int)=1+(k:Int) by omega] at g;clear hL
   go_wp2_with fail
   refine g.mono ?_;rintro e y ⟨rfl,j⟩;have f:=p.later j;have q:=ah (avJ y _ (KI V.C k) a f.o1 k s _ r);have f:=ah f;clear g p j;generalize t:cl V.C (1+k)=c at*
   go_wp2_with fail
   refine q.mono ?_;rintro e F ⟨rfl,l,m⟩;have z:=ah (f.put 1 _ m l);clear q f l m;go_wp2;go_roundw
   case rel=>
    refine ⟨k+1,om,gn,?_⟩;rw [KI,t];exact uh z
   case measure=>exact bW
  ·have u:k=4:=om;subst u;have G:=fH hL.o1 (n:=256) (by rw [bC,a]);have H:=fM hL.o1 (n:=256) (by rw [bC,a]);have I:=iW hL.o0 0 256 (by simp only [jm,bC,iM];omega);have b:=hL.setCells 0 rfl 0 (cv (KI V.C 4));rw [jW] at b;rw [qL _ _ (by rw [jm,bC,bC,iM,a])] at b;have o1:=b.o0;have A:=fH o1 (n:=256) (by rw [bC,a]);have B:=fM o1 (n:=256) (by rw [bC,a]);have D:=ah b.below;clear hL b o1;go_wp2;refine iy (qZ Tryz.results101 ⟨w.heap.size,0,none⟩ rfl ?_) rfl ⟨rfl,uh D⟩;rw [jR,jT A,B];rfl
def cZ (C:List aj) (first b:Nat):sO:=
 { first:=first,BH:=b / 32,oJ:=b%32,second:=num (cl C first) (2*(b / 32)),block:=if num (cl C first) (2*(b / 32))=0 then 0 else num (cl C (num (cl C first) (2*(b / 32))%32768)) (2*(b%32)),tab:=if num (cl C first) (2*(b / 32))=0 then zt else numsOf (cl C (num (cl C first) (2*(b / 32))%32768)) }
def acB (C:List aj) (first b:Nat):(cZ C first b).tab.length=32:=by unfold cZ;dsimp only;split;exact gX;exact numsOf_length _
end
end Go.Proofs.YtknjjjenklfeoaaGreatDoor
