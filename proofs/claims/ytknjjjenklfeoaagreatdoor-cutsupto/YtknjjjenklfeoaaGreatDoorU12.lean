import Derived.Test.YtknjjjenklfeoaaGreatDoorU11
set_option maxHeartbeats 8000000
set_option maxRecDepth 100000
set_option linter.all false
namespace Go.Proofs.YtknjjjenklfeoaaGreatDoor
open Go.RowKit Go.Shelf
attribute [local go_sem ↓] dw fP fV kU mZ nC jR kP kJ kF lG lI kR kQ kV ng nD l9 nJ jE pW qM qO qA
attribute [local go_sem] dM fO fU gW gB aV kY mP mW mQ mO gX jT kN kH lq kX iM kG lu lD lC kM jc jd nH nK kW kZ mX nT mV mM nN qc qI qK qJ qH
attribute [local go_sem] pU pR Oper.semAt_some
def ML {α:Type} (n gf:Nat) (lb:Array Value) (d:α→Array Value) (f:World→World→Prop) (S:List α→Prop) (N B:Nat) (w:World):Prop:=
 ∀ (l:Nat) (J:List α→World→Prop) (W:World),aC w W→B≤W.heap.size→OwnFrom W.heap.size J→
  (∀ pre x c,J pre c→pre.length<N→YieldAt Fence.wide (n - 1) Tryz.prog l (d x) c fun e b=>e= .returned (.bool true)∧J (pre++[x]) b∧f c b)→
  J [] W→CallsIn Fence.wide n Tryz.prog gf (#[.func (.yield l) #[] #[]]++lb) W fun e b=>(∃ v,e= .returned v)∧ ∃ xs,S xs∧J xs b
def Y8 {β:Type} {B C:Nat} {I:β→World→Prop} (h:OwnFrom B I) (hc:B≤C):OwnFrom C I:=fun s W b row hs c hr=>h s W b row hs c (fun r e=>⟨jL hc (hr r e).1,(hr r e).2⟩)
def sQ {W b:World} {row:Option Nat} {B k:Nat} {o:Obj} (c:W.grownBy b row) (hr: ∀ r,row=some r→B≤r∧ ∃ o:Obj,W.heap[r]? = some o∧o.isCells=false) (hk:W.heap[k]? = some o) (d:k<B):b.heap[k]? = some o:=by
 rw [c.block k (aK hk) (fun e=>by have:=(hr k e.symm).1;omega)];exact hk
section
variable {α:Type} {g:Operand} {ps:Array Tmp} {assign body:Code} {Q:Exit→Act→World→Prop} {a:Act} {w:World} {n:Nat}
def Eo (fn:FuncId) (a:Act) (ps:Array Tmp) (assign body:Code) (d:Nat) (st:LoopState):Loop:={ state:=st,pending:=none,fn:=fn,tmps:=a.tmps,params:=ps,assign:=assign,body:=body,defers:=d }
structure Bj (fn:FuncId) (a:Act) (ps:Array Tmp) (assign body:Code) (d:Nat) (st:LoopState) (W:World):Prop where
 pY:W.heap[d+1]? = some (.loop (Eo fn a ps assign body d st))
 Jv:W.heap[d]? = some (.deferred (some []))
def Bj.xI {fn:FuncId} {d:Nat} {st:LoopState} {W b:World} (h:Bj fn a ps assign body d st W) (hk:KeepsFrom d W b):Bj fn a ps assign body d st b:=
 ⟨hk.same _ _ om h.pY rfl,hk.same _ _ (aO _) h.Jv rfl⟩
def Bj.turn {fn:FuncId} {d:Nat} {st b:LoopState} {W:World} (h:Bj fn a ps assign body d st W):Bj fn a ps assign body d b (W.putObj (d+1) (.loop (Eo fn a ps assign body d b))):=
 ⟨World.putObj_heap_same (aK h.pY),(World.putObj_heap_other om).trans h.Jv⟩
def RU (h1:1≤n) {gf:Nat} {lb:Array Value} (hg:a.eval g= .func (.func gf) #[] lb) (eg: ∀ args w,(callFunc gf args).run Tryz.prog w= .ok (.enter gf args) w)
  {q:α→Array Value} {h:World→World→Prop} {S:List α→Prop} {N:Nat} {z:World} (T:ML (n - 1) gf lb q h S N (w.heap.size+2) z)
  (u: ∀ A B C:World,h A B→h B C→h A C) (G: ∀ (W:World) (o o':Obj),W.heap[w.heap.size+1]? = some o→o.isCells=false→h W (W.putObj (w.heap.size+1) o')) (H:aC z w) (V: ∀ x,(q x).size=ps.size)
  (I:List α→World→Prop) (i:OwnFrom w.heap.size I) (h0:I [] w) (E:α→Act→World→Prop) (Z: ∀ x b,OwnFrom w.heap.size (fun (_:Unit) W=>E x b W))
  (L: ∀ (l:Nat) (pre:List α) (x:α) (W:World) (K:Act→World→Prop),I pre W→(∀ b f,KeepsFrom w.heap.size W f→h W f→I pre f→E x b f→K b f)→
   assign.wpIn (Fence.wide.inRound l) (n - 1 - 1) Tryz.prog (Exit.then K (fun _ _ _=>False)) { tmps:=(ps.zip (q x)).foldl (fun t (p,v)=>t.setIfInBounds p v) a.tmps,defers:=[] } W)
  (M: ∀ (l:Nat) (pre:List α) (x:α) (b:Act) (W:World),w.heap.size≤l→(∃ r,W.heap[l]? = some (.loop r))→I pre W→E x b W→pre.length<N→body.wpIn (Fence.wide.inRound l) (n - 1 - 1) Tryz.prog (fun e _ f=>e= .normal∧KeepsFrom w.heap.size W f∧h W f∧I (pre++[x]) f) b W)
  (O: ∀ (D:Nat) (xs:List α) (W:World),w.heap.size≤D→S xs→I xs W→W.heap[D]? = some (.deferred (some []))→Q .normal { a with defers:={ target:= .collected D,args:= #[] } :: a.defers } W):
  (Code.rangeFunc g ps assign body).wpIn Fence.wide n Tryz.prog Q a w:=by
 refine wpIn_rangeFunc fun fn aa=> ?_
 let d:=w.heap.size
 let c:=(w.alloc (.deferred (some []))).alloc (.loop (Eo fn a ps assign body d .ready))
 have ab:Bj fn a ps assign body d .ready c:=
  ⟨by have:=aX (w.alloc (.deferred (some []))) (.loop (Eo fn a ps assign body d .ready));rwa [jV] at this,(jX _ _ _ (by simp [d])).trans (aX w _)⟩
 have ad:I [] c:=i.alloc _ (i.alloc _ h0);have aq:c.heap.size=d+2:=by simp [c,d]
 have ae:aC z c:=H.trans ((((bG _ w).alloc (aO _) _).alloc sm _).mono H.size);refine ⟨d+1,[{ target:= .collected d,args:= #[] }],c,{ target:= .fn (.func gf) lb,args:= #[.func (.yield (d+1)) #[] #[]] },c,gf,#[.func (.yield (d+1)) #[] #[]]++lb,c,
  run_enterLoop_outer _ _ _ _ _,?_,fun _ _=>trivial,?_,fun _=>h1,?_⟩
 ·simp only [resolve,hg];simp [go_sem]
 ·simp [invoke,go_sem,eg]
 have hJ:OwnFrom c.heap.size (fun (pre:List α) W=>I pre W∧Bj fn a ps assign body d .ready W):=fun s A B row hs y hr=>
  ⟨i s A B row hs.1 y (fun r e=>⟨by have:=(hr r e).1;omega,(hr r e).2⟩),sQ y hr hs.2.pY om,sQ y hr hs.2.Jv om⟩
 refine (T (d+1) (fun pre W=>I pre W∧Bj fn a ps assign body d .ready W) c ae om hJ ?_ ⟨ad,ab⟩).mono ?_
 ·rintro pre x W ⟨hi,j⟩ hlen;refine ⟨fn,_,assign,body,run_yield j.pY (V x),roundIn_of_wpIn aa (L (d+1) pre x W _ hi fun b F GH af ag ai=> ?_)⟩;have k:=j.xI GH;refine ⟨_,run_beginRound k.pY rfl,?_⟩;have J:Bj fn a ps assign body d .busy (F.putObj (d+1) (.loop (Eo fn a ps assign body d .busy))):=k.turn;have al:h F (F.putObj (d+1) (.loop (Eo fn a ps assign body d .busy))):=G _ _ _ k.pY rfl;refine Wv (M (d+1) pre x b _ om ⟨_,J.pY⟩ (i.putObj _ ag om k.pY rfl) ((Z x b).putObj (s:=()) _ ai om k.pY rfl) hlen) ?_;rintro e a3 W3 ⟨rfl,Dh,U,an⟩;have m:=J.xI Dh;have ao:Bj fn a ps assign body d .ready (W3.putObj (d+1) (.loop (Eo fn a ps assign body d .ready))):=m.turn;exact ⟨_,_,run_endRound none m.pY,rfl,⟨i.putObj _ an om m.pY rfl,ao⟩,u _ _ _ af (u _ _ _ al (u _ _ _ U (G _ _ _ m.pY rfl)))⟩
 ·rintro e W2 ⟨⟨v,rfl⟩,xs,hS,hi,j⟩;exact ⟨none,_,run_endLoop j.pY (by simp [Eo]),O d xs _ (aO _) hS (i.putObj _ hi om j.pY rfl) ((World.putObj_heap_other om).trans j.Jv)⟩
end
structure bK (V1 V2:aB):Prop where
 len:V2.C.length=V1.C.length
 low: ∀ t,t<6→cl V2.C t=cl V1.C t
 zero: ∀ t i,i<32→(num (cl V2.C t) (2*i)=0↔num (cl V1.C t) (2*i)=0)
 same: ∀ t i,i<32→num (cl V2.C t) (2*i)%32768=num (cl V1.C t) (2*i)%32768
def bK.refl (V:aB):bK V V:=⟨rfl,fun _ _=>rfl,fun _ _ _=>Iff.rfl,fun _ _ _=>rfl⟩
def bK.trans {A B C:aB} (h:bK A B) (k:bK B C):bK A C:=
 ⟨k.len.trans h.len,fun t b=>(k.low t b).trans (h.low t b),fun t i hi=>(k.zero t i hi).trans (h.zero t i hi),fun t i hi=>(k.same t i hi).trans (h.same t i hi)⟩
def amI (n:Nat) (b:List Nat):dJ (n :: b)=(if n=0 then [] else [n%32768])++dJ b:=by
 unfold dJ
 by_cases h:n=0
 ·simp [h]
 ·simp [h]
def amH: ∀ {A B:List Nat},A.length=B.length→(∀ i,i<A.length→(A.getD i 0=0↔B.getD i 0=0)∧A.getD i 0%32768=B.getD i 0%32768)→dJ A=dJ B
 | [],[],_,_=>rfl
 | [],_ :: _,h,_=>by simp at h
 | _ :: _,[],h,_=>by simp at h
 | a :: r,b :: q,h,hs=>by
  rw [amI,amI];have c:=hs 0 sm;simp only [EG] at c;have d:=amH (A:=r) (B:=q) (by simpa using h) (fun i hi=>by have:=hs (i+1) (by simp;omega);simpa using this);rw [d]
  congr 1
  by_cases h0:a=0
  ·rw [au h0,au (c.1.1 h0)]
  ·rw [ak h0,ak (fun e=>h0 (c.1.2 e)),c.2]
def bK.told {A B:aB} (h:bK A B) (t:Nat):dJ (numsOf (cl B.C t))=dJ (numsOf (cl A.C t)):=by
 refine amH (by rw [numsOf_length,numsOf_length]) (fun i hi=> ?_);rw [numsOf_length] at hi;rw [vJ _ _ hi,vJ _ _ hi];exact ⟨h.zero t i hi,h.same t i hi⟩
def bK.ok {A B:aB} (h:bK A B) {Pc:Nat→Prop} {t:Nat} (c:Bo Pc A.C t):Bo Pc B.C t:=by
 intro i
 by_cases hi:i<32
 ·have b:=(c i).2;rw [vJ _ _ hi] at b ⊢;exact ⟨iK _ _,fun h0=>by rw [h.same t i hi];exact b (fun e=>h0 ((h.zero t i hi).2 e))⟩
 ·rw [aN,eG (by rw [numsOf_length];omega)];exact ⟨dc,fun e=>absurd rfl e⟩
def aeM {Pc:Nat→Prop} (t:Nat) (T:List Nat) (b: ∀ i,EP Pc (T.getD i 0)) (d:T.length=32): ∀ k hk,(tu t T b k hk).map (fun s=>s.number%32768)=dJ (T.take k)
 | 0,_=>rfl
 | k+1,hk=>by
  have ih:=aeM t T b d k om;have c:k<T.length:=om;have e:T.getD k 0=T[k]:=by rw [aN,bJ c];rfl
  have f:dJ (T.take (k+1))=dJ (T.take k)++(if T.getD k 0=0 then [] else [T.getD k 0%32768]):=by
   rw [x9 c,e];unfold dJ;rw [Qe,rQ]
   congr 1
   by_cases h:T[k]=0
   ·simp [h]
   ·simp [h]
  rw [f]
  by_cases h0:T.getD k 0=0
  ·rw [VU t T b k hk h0,ih,au h0,sN]
  ·rw [VT t T b k hk h0,rQ,ih,ak h0];rfl
def tH (V:aB) (first:Nat):List Nat:=first :: dJ (numsOf (cl V.C first))
structure lZ (X:Nat→Prop) (v:Nat) (bs:List (Nat × Obj)) (P:aB→Prop) (W:World):Prop where
 bH: ∃ C1 L1 V1,aP W v C1 L1 V1∧P V1∧ ∀ x ∈ bs,¬ eX v C1 L1 x.1
 box: ∀ x ∈ bs,W.heap[x.1]? = some x.2
 cells: ∀ x ∈ bs,x.2.isCells=true
 free: ∀ x ∈ bs,¬ X x.1
section
variable {X Y:Nat→Prop} {v:Nat} {R:aB→aB→Prop} {bs:List (Nat × Obj)} {P:aB→Prop}
def lZ.xI (i: ∀ a b,P a→R a b→P b) {A B:World} (h:lZ X v bs P A) (k:aT X Y v R A B):lZ X v bs P B:=by
 obtain ⟨j,l,m,o,p,d⟩:=h.bH;obtain ⟨q,s,t,e,r,o2,u⟩:=k.2.2 j l m o;exact ⟨⟨q,s,t,e,i _ _ p r,fun x c f=>d x c (u x.1 (aK (h.box x c)) f)⟩,fun x c=>o2 x.1 x.2 (h.box x c) (h.cells x c) (h.free x c) (d x c),h.cells,h.free⟩
def lZ.below {A B:World} (h:lZ X v bs P A) (k:aC A B):lZ X v bs P B:=by
 obtain ⟨c,d,e,f,i,j⟩:=h.bH;exact ⟨⟨c,d,e,f.below k,i,j⟩,fun x b=>(k.block x.1 (aK (h.box x b))).trans (h.box x b),h.cells,h.free⟩
def lZ.lay {A:World} (h:lZ X v bs P A) (o:Obj) (e:o.isCells=true) (b: ¬ X A.heap.size):lZ X v ((A.heap.size,o) :: bs) P (A.alloc o):=by
 have f:=h.below ((bG _ A).alloc (aO _) o);obtain ⟨i,j,k,c,l,m⟩:=h.bH;refine ⟨⟨i,j,k,c.alloc o,l,fun x b=> ?_⟩,fun x b=> ?_,fun x b=> ?_,fun x b=> ?_⟩
 ·rcases cO.1 b with rfl | b
  ·intro d;have:=c.qV _ d;simp at this
  ·exact m x b
 ·rcases cO.1 b with rfl | b
  ·exact aX A o
  ·exact f.box x b
 ·rcases cO.1 b with rfl | b
  ·exact e
  ·exact h.cells x b
 ·rcases cO.1 b with rfl | b
  ·assumption
  ·exact h.free x b
def lZ.sub {cs:List (Nat × Obj)} {W:World} (h:lZ X v bs P W) (hs: ∀ x ∈ cs,x ∈ bs):lZ X v cs P W:=by
 obtain ⟨c,d,e,f,i,j⟩:=h.bH;exact ⟨⟨c,d,e,f,i,fun x b=>j x (hs x b)⟩,fun x b=>h.box x (hs x b),fun x b=>h.cells x (hs x b),fun x b=>h.free x (hs x b)⟩
def lZ.b0 {W:World} {b:Nat} {o:Obj} (h:lZ X v ((b,o) :: bs) P W):W.heap[b]? = some o:=h.box (b,o) sm
def lZ.b1 {W:World} {a b:Nat} {p o:Obj} (h:lZ X v ((a,p) :: (b,o) :: bs) P W):W.heap[b]? = some o:=h.box (b,o) sm
def lZ.b2 {W:World} {a b c:Nat} {p q o:Obj} (h:lZ X v ((a,p) :: (c,q) :: (b,o) :: bs) P W):W.heap[b]? = some o:=h.box (b,o) sm
def lZ.qj {W d:World} {row:Option Nat} (h:lZ X v bs P W) (b:W.grownBy d row) (hr: ∀ r,row=some r→ ∃ o:Obj,W.heap[r]? = some o∧o.isCells=false):lZ X v bs P d:=by
 obtain ⟨s,t,u,l,y,z⟩:=h.bH;have hk:Kept (fun k=>row=some k) W d:=⟨b.os,b.tape,b.output,b.size,fun k hk hs=>b.block k hk (fun e=>hs e.symm)⟩;have hn: ∀ k q,W.heap[k]? = some q→q.isCells=true→ ¬ (row=some k):=by
  intro k q f hc e;obtain ⟨A,c,j⟩:=hr k e;rw [f] at c;injection c with c;subst c;rw [hc] at j;cases j
 refine ⟨⟨s,t,u,l.kept hk (fun k m=> ?_),y,z⟩,fun x i=>hk.aG (hn _ _ (h.box x i) (h.cells x i)) (h.box x i),h.cells,h.free⟩;obtain ⟨q,f,p⟩:=l.cells m;exact hn k q f p
end
abbrev UM (Pc:Nat→Prop):={ m:Nat // Pc m }
def ava {F:Fence} (b:F.depth=none) (k:Nat):F.room k:=fun d h=>by rw [b] at h;cases h
def SK {m m':Nat} {l:Nat} {args:Array Value} {W:World} {R:Ending→World→Prop} (h:YieldAt Fence.wide m Tryz.prog l args W R):YieldAt Fence.wide m' Tryz.prog l args W R:=by
 obtain ⟨fn,tmps,assign,body,b,d,hR⟩:=h;exact ⟨fn,tmps,assign,body,b,d,fun c cs _=>hR c cs (ava rfl _)⟩
def awo {Pc:Nat→Prop} (n:Nat) (hn:10≤n) (X:Nat→Prop) (v bv j first B:Nat) (V:aB) (Cv Lv:Value) (w:World) (hV:aP w v Cv Lv V)
  (O:w.heap[bv]? = some (.cells #[.pointer (some ⟨v,0,none⟩)] 82 (0,0))) (S:w.heap[j]? = some (.cells #[.int .i64 (first:Nat)] 3 (0,0))) (OM: ¬ X j) (IJ: ¬ X bv) (ar: ¬ eX v Cv Lv j) (av: ¬ eX v Cv Lv bv)
  (Fq: ∀ k,X k→k<w.heap.size) (aw:first<V.C.length) (p:Pc first) (hT:Bo Pc V.C first):
  ML n 181 #[.pointer (some ⟨j,0,none⟩),.pointer (some ⟨bv,0,none⟩)] (fun x:UM Pc=> #[Value.int .i64 ((x.1:Nat):Int)]) (aT X (fun k=>B≤k) v bK) (fun ys=>ys.map (·.1)=tH V first) 33 B w:=by
 intro l J W E a2 q hY h0;have qE: ¬ X W.heap.size:=fun f=>by have:=Fq _ f;have:=E.size;omega
 have B0:lZ X v [(j,.cells #[.int .i64 (first:Nat)] 3 (0,0)),(bv,.cells #[.pointer (some ⟨v,0,none⟩)] 82 (0,0))] (bK V) W:=by
  refine ⟨⟨Cv,Lv,V,hV.below E,bK.refl V,?_⟩,?_,?_,?_⟩
  ·intro x f;simp only [cO,jM,jO] at f;rcases f with rfl | rfl
   ·exact ar
   ·exact av
  ·intro x f;simp only [cO,jM,jO] at f;rcases f with rfl | rfl
   ·exact (E.block _ (aK S)).trans S
   ·exact (E.block _ (aK O)).trans O
  ·intro x f;simp only [cO,jM,jO] at f;rcases f with rfl | rfl <;> rfl
  ·intro x f;simp only [cO,jM,jO] at f;rcases f with rfl | rfl
   ·exact OM
   ·exact IJ
 have F:=B0.lay (.cells #[.func (.yield l) #[] #[]] 165) rfl qE;have ad:J [] (W.alloc (.cells #[.func (.yield l) #[] #[]] 165)):=q.alloc _ h0;have c1:(W.alloc (.cells #[.func (.yield l) #[] #[]] 165)).cell? ⟨j,0,none⟩=some (.int .i64 (first:Nat)):=(aF F.b1 0).trans rfl;obtain ⟨fn,tmps,assign,body,hy,hR⟩:=hY [] ⟨first,p⟩ _ ad sm;have a3: ∀ V1,bK V V1→V1.C.length=V.C.length:=fun _ h=>h.len;refine callsIn_of_wp_marks Tryz.func181 rfl trivial ?_ rfl;simp only [Tryz.ntmps181,jm,iO,vV,Nat.reduceAdd,Nat.reduceSub,BX,BZ,Cb,Cc,qy,rU];have F:=ah F;clear B0 S O h0
 gi_wp2_with fail
 refine ⟨fun _=>om,hR.mono ?_⟩;rintro e i ⟨rfl,ae,af⟩;have u:=F.xI (fun _ _ a b=>bK.trans a b) af;obtain ⟨C3,L3,L,ag,z,ax⟩:=u.bH;have c3:i.cell? ⟨j,0,none⟩=some (.int .i64 (first:Nat)):=(aF u.b1 0).trans rfl;have d3:i.cell? ⟨bv,0,none⟩=some (.pointer (some ⟨v,0,none⟩)):=(aF u.b2 0).trans rfl;have a4:W.heap.size+1≤i.heap.size:=by have:=af.1;simp at this;omega
 have T: ∀ k,i.heap.size≤k→ ¬ X k:=fun k hk f=>by have:=Fq _ f;have:=E.size;omega
 have Hn:=ah (RF i v first);have H:=(u.lay (.cells #[.pointer (some ⟨v,0,none⟩)] 82) rfl (T _ (aO _))).lay (.cells #[.int .i64 (first:Nat)] 3) rfl (T _ sm);simp only [jV] at H;have U:=ah H;have B4:=ah (H.sub (cs:=[(W.heap.size,.cells #[.func (.yield l) #[] #[]] 165 (0,0))]) sm);have az:=ah ((Y8 q (C:=W.heap.size) (aO _)).alloc (.cells #[.int .i64 (first:Nat)] 3) (q.alloc (.cells #[.pointer (some ⟨v,0,none⟩)] 82) ae));have Z:=ah ag;have aD:=ah u;clear H u ag ae ad F hR hy
 gi_wp2_with fail
 refine ⟨trivial,fun _=>om,(fE.2 Hn).mono ?_⟩;rintro e G ⟨rfl,rfl⟩
 gi_wp2_with fail
 generalize aa:(i.alloc (.cells #[.pointer (some ⟨v,0,none⟩)] 82)).alloc (.cells #[.int .i64 (first:Nat)] 3)=G at*;have ai:aP G v C3 L3 L:=by rw [← aa];exact (Z.alloc _).alloc _
 have a5:G.heap.size=i.heap.size+2:=by rw [← aa];simp
 have al: ¬ eX v C3 L3 (i.heap.size+1):=fun p=>by have:=Z.qV _ p;omega
 have II:=RG (Pc:=Pc) (n - 1) om X (fun _=>False) bK v i.heap.size (i.heap.size+1) first L C3 L3 G ai U.b1 U.b0 (T _ om) al (by rw [z.len];exact aw) (z.ok hT);have ab:(vO L first (z.ok (Pc:=Pc) hT)).map (fun s=>s.number%32768)=dJ (numsOf (cl V.C first)):=by
  rw [← z.told first]
  have:=aeM first (numsOf (cl L.C first)) (z.ok (Pc:=Pc) hT) (numsOf_length _) 32 (aO _)
  rw [J4 (by rw [numsOf_length];exact aO _)] at this;exact this
 clear U aa Z aD ax c3 d3 c1 ai al;refine wpIn_rangeFunc_ownH rfl om (gf:=182) (lb:= #[.pointer (some ⟨i.heap.size,0,none⟩),.pointer (some ⟨i.heap.size+1,0,none⟩)]) rfl trivial (enters_of Tryz.func182 kr rfl) II (fun h k=>aT.trans (R:=bK) (fun _ _ _ a b=>a.trans b) h k) (fun W l o o' _ hl hc _=>aT.turn bK.refl W l o o' hl hc id) (bG _ _) (fun _=>rfl)
  (fun pre d=>J (⟨first,p⟩ :: pre.map (fun s=>⟨s.number%32768,s.hc⟩)) d∧lZ X v [(W.heap.size,.cells #[.func (.yield l) #[] #[]] 165 (0,0))] (bK V) d)
  (fun _ _ _=>False)
  (fun _ _ _ _ hs M hr=>⟨q _ _ _ _ hs.1 M (fun r e=>⟨by have:=(hr r e).1;omega,(hr r e).2⟩),hs.2.qj M (fun r e=>(hr r e).2)⟩)
  (fun _ _ _ _ _ hs _ _=>hs)
  ⟨uh az,uh B4⟩
  (fun x a' d=> ∃ m,d.heap[m]? = some (.cells #[.int .i64 ((x.table:Nat):Int),.int .i64 ((x.index:Nat):Int),.int .u16 ((x.number:Nat):Int)] 219 (0,0))∧a'={ tmps:= #[.func (.yield l) #[] #[],.pointer (some ⟨j,0,none⟩),.pointer (some ⟨bv,0,none⟩),.pointer (some ⟨W.heap.size,0,none⟩),.pointer (some ⟨m,0,none⟩),.func (.yield l) #[] #[],.int .i64 (first:Nat),.bool true,.bool false,.pointer (some ⟨v,0,none⟩),.int .i64 (first:Nat),.func (.func 182) #[] #[.pointer (some ⟨i.heap.size,0,none⟩),.pointer (some ⟨i.heap.size+1,0,none⟩)],oK x,undef,undef,undef,undef,undef,undef],defers:=[] })
  (fun x a' _ A' B' row hs M hr=>by
   obtain ⟨m,h2,h3⟩:=hs;refine ⟨m,?_,h3⟩;rw [M.block m (aK h2) (fun e=>by
    obtain ⟨_,o,y,hc⟩:=hr m e.symm;rw [h2] at y;injection y with y;subst y;cases hc)]
   exact h2)
  ?assign ?body ?done ?stop
 case assign=>
  rintro l2 pre x d K ⟨t,A⟩ N;unfold oK
  gi_wp2
  exact N _ _ ((KeepsOthers.alloc _ _).from _) (aT.below bK.refl (fC)) ⟨q.alloc _ t,A.below (fC)⟩ ⟨_,aX _ _,rfl⟩
 case body=>
  rintro l2 pre x a' d a6 ⟨r,hr⟩ ⟨t,A⟩ ⟨m,an,rfl⟩ hlen;have c1:d.cell? ⟨W.heap.size,0,none⟩=some (.func (.yield l) #[] #[]):=(aF A.b0 0).trans rfl;have c2:d.cell? ⟨m,2,none⟩=some (.int .u16 ((x.number:Nat):Int)):=(aF an 2).trans rfl;have Hc:Hid (∀ W,_):=fun W=>CW x.number x.hn W;have ao:J (⟨first,p⟩ :: pre.map (fun s=>⟨s.number%32768,s.hc⟩)) d.drew:=q _ d d.drew none t ⟨rfl,rfl,rfl,aO _,fun _ _ _=>rfl⟩ (fun r e=>by cases e);have aq:(⟨first,p⟩ :: pre.map (fun s:nS Pc=>(⟨s.number%32768,s.hc⟩:UM Pc)))++[⟨x.number%32768,x.hc⟩]=⟨first,p⟩ :: (pre++[x]).map (fun s=>⟨s.number%32768,s.hc⟩):=sm;have OO:=hY _ ⟨x.number%32768,x.hc⟩ d.drew ao (by simp;omega);rw [aq] at OO;obtain ⟨a7,PV,assign2,body2,aE,aL⟩:=SK (m':=n - 1 - 1 - 1) OO;have Hx:=x.hn;have aM:=ah (A.below (B:=d.drew) ⟨rfl,rfl,rfl,aO _,fun _ _=>rfl⟩);dsimp only at aE;clear ao OO t A aq an
  generalize x.number%32768=cc at*;generalize x.number=nn at*;generalize oK x=sv at*
  gi_wp2
  gi_region_with (first
   | (
    refine ⟨trivial,fun _=>om,(CallsIn.inRound l2 (fE.2 (uh Hc _))).mono ?_⟩;rintro e w3 ⟨rfl,rfl⟩)
   | (
    refine ⟨fun _=>om,SX aL ?_⟩;rintro e w3 ⟨rfl,aR,I⟩))
  all_goals
   have B5:=aM.xI (fun _ _ a b=>bK.trans a b) I;have a0:KeepsFrom G.heap.size d w3:=⟨I.1,fun k o hB hk y=>I.2.1 k o hk y om⟩;have a1:aT X (fun _=>False) v bK d w3:=aT.trans (R:=bK) (fun _ _ _ a b=>bK.trans a b) (aT.below bK.refl (B:=d.drew) ⟨rfl,rfl,rfl,aO _,fun _ _=>rfl⟩) (I.P6 (Y':=fun _=>False) (fun _ h=>False.elim h))
   gi_wp2
   exact ⟨a0,a1,aR,B5⟩
 case done=>
  rintro D ys d hD hS ⟨t,_⟩ N
  gi_wp2
  refine ⟨sm,.inl ⟨_,_,rfl,run_takeDeferred N,?_⟩⟩;refine ⟨_,DF rfl _ _ _,⟨_,rfl⟩,_,?_,q.putObj _ t om N rfl⟩;rw [jU,Qd,hS,tH,← ab];rfl
 case stop=>
  rintro D c pre d _ _ h _;exact h.elim
def Bz (c:List UInt8) (i:Nat) (b:UInt8) (j:Nat) (hi:i<c.length):aI (c.set i b) j=if i=j then b.toNat else aI c j:=by
 unfold aI;rw [aN,uI]
 by_cases h:i=j
 ·rw [au h,au h,au hi];rfl
 ·rw [ak h,ak h,aN]
def toNat_ofNat (n:Nat) (h:n<256):(UInt8.ofNat n).toNat=n:=by rw [NZ];omega
def ati (c:aj) (k n:Nat) (hk:k+1<c.length) (hn:n<65536):num (vK c k n) k=n:=by
 unfold num vK;have b:k+1<(c.set k (UInt8.ofNat (n / 256))).length:=by rw [rV];exact hk
 have d:k<c.length:=om;rw [Bz _ _ _ _ b,Bz _ _ _ _ b,Bz _ _ _ _ d,ak om,au rfl,au rfl,toNat_ofNat _ om,toNat_ofNat _ om];omega
def ath (c:aj) (k n j:Nat) (hk:k+1<c.length) (hj:j+1<k∨k+1<j):num (vK c k n) j=num c j:=by
 unfold num vK;have b:k+1<(c.set k (UInt8.ofNat (n / 256))).length:=by rw [rV];exact hk
 have d:k<c.length:=om;rw [Bz _ _ _ _ b,Bz _ _ _ _ b,Bz _ _ _ _ d,Bz _ _ _ _ d,ak om,ak om,ak om,ak om]
def akS (T:List Nat) (b: ∀ i,T.getD i 0<65536): ∀ k,k≤32→ ∀ i,i<k→num (KE T k) (2*i)=T.getD i 0
 | 0,_,i,hi=>om
 | k+1,hk,i,hi=>by
  rw [KE]
  by_cases h:i=k
  ·subst h;exact ati _ _ _ (by rw [Uc];omega) (b i)
  ·rw [ath _ _ _ _ (by rw [Uc];omega) om];exact akS T b k om i om
def YZ (T:List Nat) (b: ∀ i,T.getD i 0<65536) (i:Nat) (hi:i<32):num (bytesOf T) (2*i)=T.getD i 0:=akS T b 32 (aO _) i hi
def wO (b:Nat→Nat) (T:List Nat):List Nat:=T.map fun n=>if n=0 then 0 else b n
def Uf (b:Nat→Nat) (T:List Nat):(wO b T).length=T.length:=by simp [wO]
def KF (b:Nat→Nat) (T:List Nat) (i:Nat):(wO b T).getD i 0=if T.getD i 0=0 then 0 else b (T.getD i 0):=by
 unfold wO;rw [aN,aN,jK];cases h:T[i]? with
 | none=>simp
 | some x=>simp
def Ae (b:Nat→Nat) (V:aB) (t:Nat):aB:=bQ V t (bytesOf (wO b (numsOf (cl V.C t))))
def rM (b:Nat→Nat) (V:aB) (c:List Nat):aB:=c.foldl (Ae b) V
def au0 (b:Nat→Nat) (V:aB) (c:List Nat) (t:Nat):rM b V (c++[t])=Ae b (rM b V c) t:=by simp [rM]
def Marks (b:Nat→Nat):Prop:= ∀ n,n<65536→n≠0→6≤n%32768→b n<65536∧b n%32768=n%32768
def apF (C:List aj) (k:Nat) (c:aj) (hk:k<C.length) (t:Nat):cl (C.set k c) t=if k=t then c else cl C t:=by
 unfold cl;rw [aN,uI]
 by_cases h:k=t
 ·rw [au h,au h,au hk];rfl
 ·rw [ak h,ak h,aN]
def ad9 (V:aB) (n:Nat) (d:aj) (hn:n<V.C.length) (t:Nat):cl (bQ V n d).C t=if n=t then d else cl V.C t:=by
 unfold bQ;split
 ·rename_i h
  by_cases e:n=t
  ·subst e;rw [au rfl];exact h.2
  ·rw [ak e]
 ·have:oW V.C (n+1)=V.C:=by unfold oW;rw [show n+1 - V.C.length=0 by omega];simp
  show cl ((oW V.C (n+1)).set n d) t=_;rw [this];exact apF V.C n d hn t
def ahi {b:Nat→Nat} (e:Marks b) {Pc:Nat→Prop} (f: ∀ c,Pc c→6≤c) {T:List Nat} (d: ∀ i,EP Pc (T.getD i 0)): ∀ i,(wO b T).getD i 0<65536:=by
 intro i;rw [KF];split
 ·decide
 ·rename_i h;exact (e _ (d i).1 h (f _ ((d i).2 h))).1
def alN {o:Nat→Nat} (f:Marks o) {V:aB} {t:Nat} (q:6≤t) (j:t<V.C.length) {Pc:Nat→Prop} (d: ∀ c,Pc c→6≤c) (l:Bo Pc V.C t):bK V (Ae o V t):=by
 have m:=ahi f d l;refine ⟨by unfold Ae;rw [zL];omega,fun k hk=> ?_,fun k i hi=> ?_,fun k i hi=> ?_⟩
 ·unfold Ae;rw [ad9 V t _ j,ak om]
 ·unfold Ae;rw [ad9 V t _ j]
  by_cases e:t=k
  ·subst e;rw [au rfl,YZ _ m i hi,KF,vJ _ _ hi];split
   ·rename_i h;simp [h]
   ·rename_i h;have b:=l i;rw [vJ _ _ hi] at b;have p:=f _ b.1 h (d _ (b.2 h));refine ⟨fun e=> ?_,fun e=>absurd e h⟩;rw [e] at p
    have:=d _ (b.2 h)
    omega
  ·rw [ak e]
 ·unfold Ae;rw [ad9 V t _ j]
  by_cases e:t=k
  ·subst e;rw [au rfl,YZ _ m i hi,KF,vJ _ _ hi];split
   ·rename_i h;rw [h]
   ·rename_i h;have b:=l i;rw [vJ _ _ hi] at b;exact (f _ b.1 h (d _ (b.2 h))).2
  ·rw [ak e]
def auY (b:Nat→Nat) (V:aB) (t:Nat):(Ae b V t).L.length≤V.L.length+2:=uH _ _ _
def Gq {Pc:Nat→Prop} (b:Nat→Nat) (T:List Nat) (c:List (nS Pc)):List Nat:=c.foldl (fun T s=>T.set s.index (b s.number)) T
def agK {Pc:Nat→Prop} (b:Nat→Nat) (T:List Nat) (c:List (nS Pc)) (s:nS Pc):Gq b T (c++[s])=(Gq b T c).set s.index (b s.number):=by simp [Gq]
def Xo {Pc:Nat→Prop} (c:Nat→Nat) (T:List Nat) (b:List (nS Pc)):(Gq c T b).length=T.length:=by
 unfold Gq
 induction b generalizing T with
 | nil=>rfl
 | cons a r ih=>simp only [WL];rw [ih];simp
def aqS (T:List Nat) (k n i:Nat) (hk:k<T.length):(T.set k n).getD i 0=if k=i then n else T.getD i 0:=by
 rw [aN,uI]
 by_cases h:k=i
 ·rw [au h,au h,au hk];rfl
 ·rw [ak h,ak h,aN]
def agJ {Pc:Nat→Prop} (c:Nat→Nat) (t:Nat) (T:List Nat) (b: ∀ i,EP Pc (T.getD i 0)) (d:T.length=32): ∀ k hk i,(Gq c T (tu t T b k hk)).getD i 0=if i<k then (wO c T).getD i 0 else T.getD i 0
 | 0,_,i=>by simp [tu,Gq]
 | k+1,hk,i=>by
  have ih:=agJ c t T b d k om
  by_cases h0:T.getD k 0=0
  ·rw [VU t T b k hk h0,ih i]
   by_cases e:i=k
   ·subst e;rw [ak om,au om,KF,au h0,h0]
   ·by_cases h:i<k
    ·rw [au h,au om]
    ·rw [ak h,ak om]
  ·rw [VT t T b k hk h0,agK,aqS _ _ _ _ (by rw [Xo];dsimp only;omega),ih i];dsimp only
   by_cases e:k=i
   ·subst e;rw [au rfl,au om,KF,ak h0]
   ·rw [ak e]
    by_cases h:i<k
    ·rw [au h,au om]
    ·rw [ak h,ak om]
def ajX {A B:List Nat} (h:A.length=B.length) (c: ∀ i,i<A.length→A.getD i 0=B.getD i 0):A=B:=by
 refine Wx h fun i b d=> ?_
 have:=c i b
 rwa [aN,aN,bJ b,bJ d] at this
def aow {Pc:Nat→Prop} (b:Nat→Nat) (t:Nat) (T:List Nat) (c: ∀ i,EP Pc (T.getD i 0)) (d:T.length=32):Gq b T (tu t T c 32 (aO _))=wO b T:=by
 refine ajX (by rw [Xo,Uf]) fun i hi=> ?_;rw [Xo,d] at hi;rw [agJ b t T c d,au hi]
end Go.Proofs.YtknjjjenklfeoaaGreatDoor
