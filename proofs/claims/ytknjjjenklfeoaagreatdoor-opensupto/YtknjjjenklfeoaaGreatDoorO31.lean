import Derived.Test.YtknjjjenklfeoaaGreatDoorO21
import Derived.Sort.CutIn
set_option maxHeartbeats 8000000
set_option maxRecDepth 100000
set_option linter.all false
namespace Go.Proofs.YtknjjjenklfeoaaGreatDoor
section
open Go.RowKit Go.Shelf
def Px {α:Type} (n gf:Nat) (lb:Array Value) (encs:α→Array Value) (Kp:World→World→Prop) (S Sp:List α→Prop) (N B:Nat) (w:World):Prop:=
 ∀ (l:Nat) (J Jx:List α→World→Prop) (W:World),aC w W→B≤W.heap.size→OwnFrom W.heap.size J→OwnFrom W.heap.size Jx→
  (∀ pre x W1,J pre W1→pre.length<N→YieldAt Fence.wide (n - 1) Tryz.prog l (encs x) W1 fun e W'=>Kp W1 W'∧((e= .returned (.bool true)∧J (pre++[x]) W')∨(e= .returned (.bool false)∧Jx (pre++[x]) W')))→
  J [] W→CallsIn Fence.wide n Tryz.prog gf (#[.func (.yield l) #[] #[]]++lb) W fun e W'=>(∃ v,e= .returned v)∧((∃ xs,S xs∧J xs W')∨ ∃ pre,Sp pre∧Jx pre W')
theorem Px.all {α:Type} {n gf:Nat} {lb:Array Value} {encs:α→Array Value} {Kp:World→World→Prop} {S Sp:List α→Prop} {N B:Nat} {w:World} (h:Px n gf lb encs Kp S Sp N B w):Lh n gf lb encs Kp S N B w:=
 fun l J W hW hB hJ hY h0=>(h l J (fun _ _=>False) W hW hB hJ (fun _ _ _ _ hs _ _=>hs)
  (fun pre x W1 hJ1 hl=>YZ (hY pre x W1 hJ1 hl) (fun e W' hx=>⟨hx.2.2,aA ⟨hx.1,hx.2.1⟩⟩)) h0).mono (by
  rintro e W' ⟨h1,h2 | ⟨pre,_,h3⟩⟩
  ·exact ⟨h1,h2⟩
  ·exact h3.elim)
def aac {α:Type} (B:Nat) (Kp:World→World→Prop) (I Ix:List α→World→Prop) (xs:List α) (W:World):Exit→Act→World→Prop
 | .normal,_,W'=>KeepsFrom B W W'∧Kp W W'∧I xs W'
 | .ret,_,W'=>KeepsFrom B W W'∧Kp W W'∧Ix xs W'
 | .exit _,_,_=>False
 | .goto _,_,_=>False
 | .panic _,_,_=>False
 | .outgrown,_,_=>False
section
variable {α:Type} {g:Operand} {ps:Array Tmp} {assign body:Code} {Q:Exit→Act→World→Prop} {a:Act} {w:World} {n:Nat}
def acK (fn:FuncId) (a:Act) (ps:Array Tmp) (assign body:Code) (d:Nat):Loop:={ state:= .done,pending:=some .ret,fn:=fn,tmps:=a.tmps,params:=ps,assign:=assign,body:=body,defers:=d }
structure Zr (fn:FuncId) (a:Act) (ps:Array Tmp) (assign body:Code) (d:Nat) (W:World):Prop where
 pJ:W.heap[d+1]? = some (.loop (acK fn a ps assign body d))
 IC:W.heap[d]? = some (.deferred (some []))
theorem acI (h1:1≤n) {gf:Nat} {lb:Array Value} (hg:a.eval g= .func (.func gf) #[] lb) (eg: ∀ args w,(callFunc gf args).run Tryz.prog w= .ok (.enter gf args) w)
  {encs:α→Array Value} {Kp:World→World→Prop} {S Sp:List α→Prop} {N:Nat} {w0:World} (hseq:Px (n - 1) gf lb encs Kp S Sp N (w.heap.size+2) w0)
  (hKt: ∀ A B C:World,Kp A B→Kp B C→Kp A C) (hKb: ∀ (W:World) (o o':Obj),W.heap[w.heap.size+1]? = some o→o.isCells=false→Kp W (W.putObj (w.heap.size+1) o')) (hb0:aC w0 w) (hps: ∀ x,(encs x).size=ps.size)
  (I Ix:List α→World→Prop) (hI:OwnFrom w.heap.size I) (hIx:OwnFrom w.heap.size Ix) (h0:I [] w) (Ax:α→Act→World→Prop) (hAx: ∀ x a',OwnFrom w.heap.size (fun (_:Unit) W=>Ax x a' W))
  (hassign: ∀ (l:Nat) (pre:List α) (x:α) (W:World) (K:Act→World→Prop),I pre W→(∀ a' W',KeepsFrom w.heap.size W W'→Kp W W'→I pre W'→Ax x a' W'→K a' W')→
   assign.wpIn (Fence.wide.inRound l) (n - 1 - 1) Tryz.prog (Exit.then K (fun _ _ _=>False)) { tmps:=(ps.zip (encs x)).foldl (fun t (p,v)=>t.setIfInBounds p v) a.tmps,defers:=[] } W)
  (hbody: ∀ (l:Nat) (pre:List α) (x:α) (a':Act) (W:World),w.heap.size≤l→(∃ r,W.heap[l]? = some (.loop r))→I pre W→Ax x a' W→pre.length<N→body.wpIn (Fence.wide.inRound l) (n - 1 - 1) Tryz.prog (aac w.heap.size Kp I Ix (pre++[x]) W) a' W)
  (hdone: ∀ (D:Nat) (xs:List α) (W:World),w.heap.size≤D→S xs→I xs W→W.heap[D]? = some (.deferred (some []))→Q .normal { a with defers:={ target:= .collected D,args:= #[] } :: a.defers } W)
  (hstop: ∀ (D:Nat) (pre:List α) (W:World),w.heap.size≤D→Sp pre→Ix pre W→W.heap[D]? = some (.deferred (some []))→Code.ret.wpIn Fence.wide n Tryz.prog Q { a with defers:={ target:= .collected D,args:= #[] } :: a.defers } W):
  (Code.rangeFunc g ps assign body).wpIn Fence.wide n Tryz.prog Q a w:=by
 refine wpIn_rangeFunc fun fn hfn=> ?_
 let d:=w.heap.size
 let W1:=(w.alloc (.deferred (some []))).alloc (.loop (Dw fn a ps assign body d .ready))
 have hB1:Ag fn a ps assign body d .ready W1:=
  ⟨by have:=aW (w.alloc (.deferred (some []))) (.loop (Dw fn a ps assign body d .ready));rwa [jB] at this,(jE _ _ _ (by simp [d])).trans (aW w _)⟩
 have hI1:I [] W1:=hI.alloc _ (hI.alloc _ h0);have hsz:W1.heap.size=d+2:=by simp [W1,d]
 have hw1:aC w0 W1:=hb0.trans ((((bG _ w).alloc (aP _) _).alloc sm _).mono hb0.size);refine ⟨d+1,[{ target:= .collected d,args:= #[] }],W1,{ target:= .fn (.func gf) lb,args:= #[.func (.yield (d+1)) #[] #[]] },W1,gf,#[.func (.yield (d+1)) #[] #[]]++lb,W1,
  run_enterLoop_outer _ _ _ _ _,?_,fun _ _=>trivial,?_,fun _=>h1,?_⟩
 ·simp only [resolve,hg];simp [go_sem]
 ·simp [invoke,go_sem,eg]
 have hJ:OwnFrom W1.heap.size (fun (pre:List α) W=>I pre W∧Ag fn a ps assign body d .ready W):=fun s A B row hs hg' hr=>
  ⟨hI s A B row hs.1 hg' (fun r e=>⟨by have:=(hr r e).1;omega,(hr r e).2⟩),rX hg' hr hs.2.pJ om,rX hg' hr hs.2.IC om⟩
 have hJx:OwnFrom W1.heap.size (fun (pre:List α) W=>Ix pre W∧Zr fn a ps assign body d W):=fun s A B row hs hg' hr=>
  ⟨hIx s A B row hs.1 hg' (fun r e=>⟨by have:=(hr r e).1;omega,(hr r e).2⟩),rX hg' hr hs.2.pJ om,rX hg' hr hs.2.IC om⟩
 refine (hseq (d+1) (fun pre W=>I pre W∧Ag fn a ps assign body d .ready W) (fun pre W=>Ix pre W∧Zr fn a ps assign body d W) W1 hw1 om hJ hJx ?_ ⟨hI1,hB1⟩).mono ?_
 ·rintro pre x W ⟨hi,hb⟩ hlen;refine ⟨fn,_,assign,body,run_yield hb.pJ (hps x),roundIn_of_wpIn hfn (hassign (d+1) pre x W _ hi fun a' Wa Fq hkp hia hax=> ?_)⟩;have hba:=hb.wU Fq;refine ⟨_,run_beginRound hba.pJ rfl,?_⟩;have hbb:Ag fn a ps assign body d .busy (Wa.putObj (d+1) (.loop (Dw fn a ps assign body d .busy))):=hba.turn;have hkb:Kp Wa (Wa.putObj (d+1) (.loop (Dw fn a ps assign body d .busy))):=hKb _ _ _ hba.pJ rfl;refine UW (hbody (d+1) pre x a' _ om ⟨_,hbb.pJ⟩ (hI.putObj _ hia om hba.pJ rfl) ((hAx x a').putObj (s:=()) _ hax om hba.pJ rfl) hlen) ?_;rintro e a3 W3 hp;cases e with
  | normal=>
   obtain ⟨BM,hkp3,hi3⟩:=hp;have hb3:=hbb.wU BM;have hb4:Ag fn a ps assign body d .ready (W3.putObj (d+1) (.loop (Dw fn a ps assign body d .ready))):=hb3.turn;exact ⟨_,_,run_endRound none hb3.pJ,hKt _ _ _ hkp (hKt _ _ _ hkb (hKt _ _ _ hkp3 (hKb _ _ _ hb3.pJ rfl))),.inl ⟨rfl,hI.putObj _ hi3 om hb3.pJ rfl,hb4⟩⟩
  | ret=>
   obtain ⟨BM,hkp3,hi3⟩:=hp;have hb3:=hbb.wU BM;have hb4:Zr fn a ps assign body d (W3.putObj (d+1) (.loop (acK fn a ps assign body d))):=⟨World.putObj_heap_same (aO hb3.pJ),(World.putObj_heap_other om).trans hb3.IC⟩;exact ⟨_,_,run_endRound (some .ret) hb3.pJ,hKt _ _ _ hkp (hKt _ _ _ hkb (hKt _ _ _ hkp3 (hKb _ _ _ hb3.pJ rfl))),.inr ⟨rfl,hIx.putObj _ hi3 om hb3.pJ rfl,hb4⟩⟩
  | exit id=>exact hp.elim
  | goto t=>exact hp.elim
  | panic ch=>exact hp.elim
  | outgrown=>exact hp.elim
 ·rintro e W2 ⟨⟨v,rfl⟩,(⟨xs,hS,hi,hb⟩ | ⟨pre,hSp,hi,hb⟩)⟩
  ·exact ⟨none,_,run_endLoop hb.pJ (by simp [Dw]),hdone d xs _ (aP _) hS (hI.putObj _ hi om hb.pJ rfl) ((World.putObj_heap_other om).trans hb.IC)⟩
  ·exact ⟨some .ret,_,run_endLoop hb.pJ (by simp [acK]),hstop d pre _ (aP _) hSp (hIx.putObj _ hi om hb.pJ rfl) ((World.putObj_heap_other om).trans hb.IC)⟩
end
end
section
open Go.RowKit Go.Shelf
attribute [local go_sem ↓] dw fP fZ kS mP mV jJ kJ jY jU lD lH kQ ku kT mQ mW lZ ny jG qc qP qQ qF
attribute [local go_sem] dK fO fV gK gy aV kX mG mM mJ mF gI jK kH jX kZ kW iJ jW lq lC lu kF jc jd lY l7 kG kY mO nI lT mD nH qh qM qO qN qL
attribute [local go_sem] pW pV Oper.semAt_some
theorem UL (w:World) (v table:Nat):Calls Tryz.prog 152 #[.pointer (some ⟨v,0,none⟩),.int .i64 (table:Nat)] w fun e w'=>
  e= .returned (.func (.func 174) #[] #[.pointer (some ⟨w.heap.size,0,none⟩),.pointer (some ⟨w.heap.size+1,0,none⟩)])∧w'=(w.alloc (.cells #[.pointer (some ⟨v,0,none⟩)] 82)).alloc (.cells #[.int .i64 (table:Nat)] 3):=by
 go_enter Tryz.func152,Tryz.ntmps152
 go_wp2;refine gV (Zh rfl _ _ _) rfl ?_;exact ⟨rfl,rfl⟩
theorem abp (w:World) (v table:Nat):Calls Tryz.prog 111 #[.pointer (some ⟨v,0,none⟩),.int .i64 (table:Nat)] w fun e w'=>
  e= .returned (.func (.func 166) #[] #[.pointer (some ⟨w.heap.size+1,0,none⟩),.pointer (some ⟨w.heap.size,0,none⟩)])∧w'=(w.alloc (.cells #[.pointer (some ⟨v,0,none⟩)] 82)).alloc (.cells #[.int .i64 (table:Nat)] 3):=by
 go_enter Tryz.func111,Tryz.ntmps111
 go_wp2;refine gV (Zh rfl _ _ _) rfl ?_;exact ⟨rfl,rfl⟩
section
variable {X Y:Nat→Prop} {v:Nat} {R:aB→aB→Prop} {bs cs:List (Nat × Obj)} {P:aB→Prop}
theorem lJ.join {W:World} (h:lJ X v bs P W) (k:lJ X v cs P W):lJ X v (bs++cs) P W:=by
 obtain ⟨C1,L1,V1,hV,hp,hf⟩:=h.bP;obtain ⟨C2,L2,V2,hV2,_,hf2⟩:=k.bP;obtain ⟨e1,e2,_⟩:=hV.unique hV2;subst e1 e2;refine ⟨⟨C1,L1,V1,hV,hp,fun x hx=> ?_⟩,fun x hx=> ?_,fun x hx=> ?_,fun x hx=> ?_⟩
 all_goals rcases gq.1 hx with y | y
 ·exact hf x y
 ·exact hf2 x y
 ·exact h.box x y
 ·exact k.box x y
 ·exact h.cells x y
 ·exact k.cells x y
 ·exact h.free x y
 ·exact k.free x y
theorem aT.pO (hR: ∀ a,R a a) {A B:World} {row:Option Nat} (hg:A.grownBy B row) (hr: ∀ r,row=some r→ ∃ o:Obj,A.heap[r]? = some o∧o.isCells=false):aT X (fun _=>False) v R A B:=by
 have hk:Kept (fun k=>row=some k) A B:=⟨hg.os,hg.tape,hg.output,hg.size,fun k hk hs=>hg.block k hk (fun e=>hs e.symm)⟩;have hn: ∀ k q,A.heap[k]? = some q→q.isCells=true→ ¬ (row=some k):=by
  intro k q hq hc e;obtain ⟨q',hq',hc'⟩:=hr k e;rw [hq] at hq';injection hq' with hq';subst hq';rw [hc] at hc';cases hc'
 refine ⟨hg.size,fun _ _ _ _ h=>h.elim,fun C1 L1 V1 hV=>⟨C1,L1,V1,hV.kept hk (fun k hf'=> ?_),hR V1,fun k o ho hc _ _=>hk.aF (hn k o ho hc) ho,fun k _ h=>h⟩⟩;obtain ⟨q,hq,hqc⟩:=hV.cells hf';exact hn k q hq hqc
theorem ajh (hR: ∀ a,R a a) (PX: ∀ a b c,R a b→R b c→R a c) {β:Type} {W0:World} {B':Nat}:OwnFrom B' (fun (_:β) W=>aT X (fun _=>False) v R W0 W):=
 fun _ _ _ _ hs hg hr=>hs.trans PX (aT.pO hR hg (fun r e=>(hr r e).2))
end
def Am {V:aB} (s:mY (qW V)):mY (tK V):=⟨s.table,s.index,s.number,s.hi,s.hn,s.h0,s.hc.1⟩
theorem aog {V:aB} (s:mY (qW V)):oh (Am s)=oh s:=rfl
def pG {V:aB} (ss:List (mY (qW V))):List (mY (tK V)):=ss.flatMap fun s=>Am s :: uY V (s.number%32768) s.hc.2
def FQ (V:aB) (first:Nat) (h:gJ V first):List (mY (tK V)):=pG (uY V first h.2)
theorem aa6 {V:aB} (ss:List (mY (qW V))) (s:mY (qW V)):pG (ss++[s])=pG ss++(Am s :: uY V (s.number%32768) s.hc.2):=by simp [pG]
theorem aoE {V:aB} {a b:List (mY (qW V))} (h:a <+: b):pG a <+: pG b:=by
 obtain ⟨r,rfl⟩:=h;exact ⟨pG r,by simp [pG]⟩
theorem Yv {Pc:Nat→Prop} (V:aB) (t:Nat) (hT:Ai Pc V.C t):(uY V t hT).length≤32:=ac7 _ _ _ _ _
theorem WB {V:aB}: ∀ ss:List (mY (qW V)),(pG ss).length≤33*ss.length
 | []=>by simp [pG]
 | s :: ss=>by
  have h1:=WB ss;have h2:=Yv V (s.number%32768) s.hc.2
  have:pG (s :: ss)=(Am s :: uY V (s.number%32768) s.hc.2)++pG ss:=by simp [pG]
  rw [this,oO,iQ,iQ];omega
theorem YN (n:Nat) (hn:10≤n) (X:Nat→Prop) (v bv bt first B:Nat) (V:aB) (Cv Lv:Value) (w:World) (hV:aN w v Cv Lv V)
  (hbv:w.heap[bv]? = some (.cells #[.pointer (some ⟨v,0,none⟩)] 82 (0,0))) (hbt:w.heap[bt]? = some (.cells #[.int .i64 (first:Nat)] 3 (0,0))) (NH: ¬ X bt) (GN: ¬ X bv) (hft: ¬ eX v Cv Lv bt) (hfv: ¬ eX v Cv Lv bv)
  (Eh: ∀ k,X k→k<B) (hF:gJ V first):
  Px n 174 #[.pointer (some ⟨bv,0,none⟩),.pointer (some ⟨bt,0,none⟩)] (fun x:mY (tK V)=> #[oh x]) (aT X (fun k=>B≤k) v dF) (fun ys=>ys=FQ V first hF) (fun pre=>pre <+: FQ V first hF) 1056 B w:=by
 intro l J Jx W hW hBW hJ hJx hY h0;have qp: ∀ k,W.heap.size≤k→ ¬ X k:=fun k hk hx=>by have:=Eh _ hx;omega
 have B0:lJ X v [(bv,.cells #[.pointer (some ⟨v,0,none⟩)] 82 (0,0)),(bt,.cells #[.int .i64 (first:Nat)] 3 (0,0))] (dF V) W:=by
  refine ⟨⟨Cv,Lv,V,hV.below hW,rfl,?_⟩,?_,?_,?_⟩
  ·intro x hx;simp only [dD,jM,jO] at hx;rcases hx with rfl | rfl
   ·exact hfv
   ·exact hft
  ·intro x hx;simp only [dD,jM,jO] at hx;rcases hx with rfl | rfl
   ·exact (hW.block _ (aO hbv)).trans hbv
   ·exact (hW.block _ (aO hbt)).trans hbt
  ·intro x hx;simp only [dD,jM,jO] at hx;rcases hx with rfl | rfl <;> rfl
  ·intro x hx;simp only [dD,jM,jO] at hx;rcases hx with rfl | rfl
   ·exact GN
   ·exact NH
 have B1:=B0.lay (.cells #[.func (.yield l) #[] #[]] 244) rfl (qp _ (aP _));have hJ1:J [] (W.alloc (.cells #[.func (.yield l) #[] #[]] 244)):=hJ.alloc _ h0;have c1:(W.alloc (.cells #[.func (.yield l) #[] #[]] 244)).cell? ⟨bv,0,none⟩=some (.pointer (some ⟨v,0,none⟩)):=(aG B1.b1 0).trans rfl;have c2:(W.alloc (.cells #[.func (.yield l) #[] #[]] 244)).cell? ⟨bt,0,none⟩=some (.int .i64 (first:Nat)):=(aG B1.b2 0).trans rfl;have hs1:(W.alloc (.cells #[.func (.yield l) #[] #[]] 244)).heap.size=W.heap.size+1:=sm;have hV1:aN (W.alloc (.cells #[.func (.yield l) #[] #[]] 244)) v Cv Lv V:=(hV.below hW).alloc _;refine callsIn_of_wp_marks Tryz.func174 rfl trivial ?_ rfl;simp only [Tryz.ntmps174,iR,iQ,vk,Nat.reduceAdd,Nat.reduceSub,A8,Ba,Bc,Bd,ql,sO];have Hn:=ah (Qw (W.alloc (.cells #[.func (.yield l) #[] #[]] 244)) v first)
 have hn4:=(B1.lay (.cells #[.pointer (some ⟨v,0,none⟩)] 82) rfl (qp _ om)).lay (.cells #[.int .i64 (first:Nat)] 3) rfl (qp _ (by simp;omega));simp only [jB] at hn4 Hn;have hb4:=ah hn4;have B4:=ah (hn4.sub (cs:=[(W.heap.size,.cells #[.func (.yield l) #[] #[]] 244 (0,0)),(bv,.cells #[.pointer (some ⟨v,0,none⟩)] 82 (0,0))]) sm);have hJ4:=ah ((XJ hJ (C:=W.heap.size) (aP _)).alloc (.cells #[.int .i64 (first:Nat)] 3) (hJ.alloc (.cells #[.pointer (some ⟨v,0,none⟩)] 82) hJ1));have HV1:=ah hV1;have P8:=fun hf=>hV1.qG (W.heap.size+1+1) hf;clear B0 B1 hbt hbv h0 hn4 hJ1 hV1
 gi_wp2_with fail
 refine ⟨trivial,fun _=>om,(eY.2 Hn).mono ?_⟩;rintro e W4 ⟨rfl,rfl⟩
 gi_wp2_with fail
 generalize hW4:((W.alloc (.cells #[.func (.yield l) #[] #[]] 244)).alloc (.cells #[.pointer (some ⟨v,0,none⟩)] 82)).alloc (.cells #[.int .i64 (first:Nat)] 3)=W4 at*;have hV4:aN W4 v Cv Lv V:=by rw [← hW4];exact (HV1.alloc _).alloc _
 have hs4:W4.heap.size=W.heap.size+3:=by rw [← hW4];simp
 have GI:=Qx (Pc:=qW V) (n - 1) om X (fun _=>False) dF v (W.heap.size+1) (W.heap.size+1+1) first V Cv Lv W4 hV4 hb4.b1 hb4.b0 (qp _ om) (fun hf=>by have:=P8 hf;rw [hs1] at this;omega) hF.1.1.2 hF.2;clear hb4 hW4 HV1 c1 c2 hV4 Hn;refine wpIn_rangeFunc_ownH rfl om (gf:=182) (lb:= #[.pointer (some ⟨W.heap.size+1,0,none⟩),.pointer (some ⟨W.heap.size+1+1,0,none⟩)]) rfl trivial (enters_of Tryz.func182 kr rfl) GI (fun h k=>aT.trans (R:=dF) (fun _ _ _ a b=>sQ a b) h k) (fun W l o o' _ hl hc _=>aT.turn (R:=dF) (fun _=>rfl) W l o o' hl hc id) (bG _ _) (fun _=>rfl)
  (fun pre W'=>J (pG pre) W'∧lJ X v [(W.heap.size,.cells #[.func (.yield l) #[] #[]] 244 (0,0)),(bv,.cells #[.pointer (some ⟨v,0,none⟩)] 82 (0,0))] (dF V) W')
  (fun c pre W'=>c= .ret∧ ∃ tot,tot <+: pG pre∧Jx tot W')
  (fun _ _ _ _ hs hg hr=>⟨hJ _ _ _ _ hs.1 hg (fun r e=>⟨by have:=(hr r e).1;omega,(hr r e).2⟩),hs.2.pO hg (fun r e=>(hr r e).2)⟩)
  (fun _ _ _ _ _ hs hg hr=>by obtain ⟨e,tot,h1,h2⟩:=hs;exact ⟨e,tot,h1,hJx _ _ _ _ h2 hg (fun r e=>⟨by have:=(hr r e).1;omega,(hr r e).2⟩)⟩)
  ⟨uh hJ4,uh B4⟩
  (fun x a' W'=> ∃ bx,lJ X v [(bx,.cells #[.int .i64 ((x.table:Nat):Int),.int .i64 ((x.index:Nat):Int),.int .u16 ((x.number:Nat):Int)] 219 (0,0))] (dF V) W'∧a'={ tmps:= #[.func (.yield l) #[] #[],.pointer (some ⟨bv,0,none⟩),.pointer (some ⟨bt,0,none⟩),.pointer (some ⟨W.heap.size,0,none⟩),.pointer (some ⟨bx,0,none⟩),undef,.pointer (some ⟨v,0,none⟩),.int .i64 (first:Nat),.func (.func 182) #[] #[.pointer (some ⟨W.heap.size+1,0,none⟩),.pointer (some ⟨W.heap.size+1+1,0,none⟩)],oh x,undef,undef,undef,undef,undef,undef,undef,undef,undef,undef,undef,undef,undef,undef],defers:=[] })
  (fun x a' _ A' B' row hs hg hr=>by
   obtain ⟨bx,h2,h3⟩:=hs;exact ⟨bx,h2.pO hg (fun r e=>(hr r e).2),h3⟩)
  ?assign ?body ?done ?stop
 case assign=>
  rintro l2 pre x W' K ⟨Ed,hBx⟩ hK;have hsz:W.heap.size<W'.heap.size:=aO hBx.b0;unfold oh
  gi_wp2
  exact hK _ _ ((KeepsOthers.alloc _ _).from _) (aT.below (R:=dF) (fun _=>rfl) (fC)) ⟨hJ.alloc _ Ed,hBx.below (fC)⟩ ⟨_,(hBx.lay _ rfl (qp _ om)).sub sm,rfl⟩
 case body=>
  rintro l2 pre x a' W' hl2 ⟨r,hr⟩ ⟨Ed,hBx⟩ ⟨bx,hAx,rfl⟩ hlen;have BB:=hAx.join hBx;have hfl:=WB pre;have c0:W'.cell? ⟨W.heap.size,0,none⟩=some (.func (.yield l) #[] #[]):=(aG BB.b1 0).trans rfl;have c1:W'.cell? ⟨bx,0,none⟩=some (.int .i64 ((x.table:Nat):Int)):=(aG BB.b0 0).trans rfl;have c2:W'.cell? ⟨bx,1,none⟩=some (.int .i64 ((x.index:Nat):Int)):=(aG BB.b0 1).trans rfl;have c3:W'.cell? ⟨bx,2,none⟩=some (.int .u16 ((x.number:Nat):Int)):=(aG BB.b0 2).trans rfl;obtain ⟨fn2,Ox,assign2,body2,hy2,hR2⟩:=QX (m':=n - 1 - 1 - 1) (hY (pG pre) (Am x) W' Ed om);rw [aog] at hy2;have hy2':(Instr.yield l #[.agg #[.int .i64 ((x.table:Nat):Int),.int .i64 ((x.index:Nat):Int),.int .u16 ((x.number:Nat):Int)]]).run Tryz.prog W'= .ok (.round l fn2 Ox assign2 body2) W':=hy2;have BB:=ah BB;have Hr:=ah hr;clear hBx hAx Ed hy2
  gi_wp2_with fail
  refine ⟨fun _=>om,Ri hR2 ?_⟩;rintro e W5 ⟨hK5,(⟨rfl,hJ5⟩ | ⟨rfl,abg⟩)⟩
  rotate_left
  ·have hKF:KeepsFrom W4.heap.size W' W5:=⟨hK5.1,fun k o hB hk ho=>hK5.2.1 k o hk ho om⟩
   gi_wp2
   exact ⟨hKF,rfl,pG pre++[Am x],⟨uY V (x.number%32768) x.hc.2,by rw [aa6];simp⟩,abg⟩
  have hKF:KeepsFrom W4.heap.size W' W5:=⟨hK5.1,fun k o hB hk ho=>hK5.2.1 k o hk ho om⟩;have B5:=BB.wU (fun _ _ a b=>sQ a b) hK5;have d0:W5.cell? ⟨bv,0,none⟩=some (.pointer (some ⟨v,0,none⟩)):=(aG B5.b2 0).trans rfl;have d1:W5.cell? ⟨bx,2,none⟩=some (.int .u16 ((x.number:Nat):Int)):=(aG B5.b0 2).trans rfl;have hK5':aT X (fun _=>False) v dF W' W5:=hK5.OC (Y':=fun _=>False) (fun _ h=>False.elim h);have Hc:Hid (∀ W,_):=fun W=>BH x.number x.hn W;have Hm:Hid (∀ W,_):=fun W=>Qw W v (x.number%32768);have hs5:W.heap.size<W5.heap.size:=aO B5.b1;have B5:=ah B5;have hKF:=ah hKF;have hK5':=ah hK5';clear hK5 BB c0 c1 c2 c3 hR2
  gi_wp2
  gi_cut [18] from 14 (fun s18 wc=>s18= .func (.func 182) #[] #[.pointer (some ⟨W5.heap.size,0,none⟩),.pointer (some ⟨W5.heap.size+1,0,none⟩)]∧wc=(W5.drew.alloc (.cells #[.pointer (some ⟨v,0,none⟩)] 82)).alloc (.cells #[.int .i64 ((x.number%32768:Nat):Int)] 3))
  case first=>
   gi_region_with (first
    | (
     refine ⟨trivial,fun _=>om,(CallsIn.inRound l2 (eY.2 (uh Hc _))).mono ?_⟩;rintro e w3 ⟨rfl,rfl⟩)
    | (
     refine ⟨trivial,fun _=>om,(CallsIn.inRound l2 (eY.2 (uh Hm _))).mono ?_⟩;rintro e w3 ⟨rfl,rfl⟩))
   all_goals
    gi_wp2
    gi_meet
    exact ⟨rfl,rfl⟩
  case rest=>
   obtain ⟨rfl,hwc⟩:=hcut;have B6:=((B5.below (B:=W5.drew) ⟨rfl,rfl,rfl,aP _,fun _ _=>rfl⟩).lay (.cells #[.pointer (some ⟨v,0,none⟩)] 82) rfl (qp _ (by show W.heap.size≤W5.heap.size;omega))).lay (.cells #[.int .i64 ((x.number%32768:Nat):Int)] 3) rfl (qp _ (by rw [jB];show W.heap.size≤W5.heap.size+1;omega));have hJ6:J (pG pre++[Am x]) wc:=by
    rw [hwc];exact hJ.alloc _ (hJ.alloc _ (hJ _ W5 W5.drew none hJ5 ⟨rfl,rfl,rfl,aP _,fun _ _ _=>rfl⟩ (fun r e=>by cases e)))
   have hbl:aC W5 wc:=by
    rw [hwc];exact ((bG _ W5).drew.alloc (aP _) _).alloc (by rw [jB];show W5.heap.size≤W5.heap.size+1;omega) _
   have hs6:wc.heap.size=W5.heap.size+2:=by rw [hwc];simp
   rw [← hwc] at B6;simp only [jB] at B6;change lJ X v ((W5.heap.size+1,_) :: (W5.heap.size,_) :: _) (dF V) wc at B6;have Fh:KeepsFrom W4.heap.size W' wc:=hKF.trans ⟨hbl.size,fun k o _ hk _=>(hbl.block k (aO hk)).trans hk⟩;have hK6:aT X (fun _=>False) v dF W' wc:=aT.trans (R:=dF) (fun _ _ _ a b=>sQ a b) hK5' (aT.below (R:=dF) (fun _=>rfl) hbl);have hr6:wc.heap[l2]? = some (.loop r):=Fh.same l2 _ hl2 Hr rfl;have hWc:W'.heap.size≤wc.heap.size:=Fh.size;obtain ⟨C6,L6,V6,hV6,hE6,hf6⟩:=B6.bP;obtain rfl:V=V6:=hE6;have Tj:=Qx (Pc:=tK V) (n - 1 - 1 - 1) om X (fun _=>False) dF v W5.heap.size (W5.heap.size+1) (x.number%32768) V C6 L6 wc hV6 B6.b1 B6.b0 (qp _ om) (hf6 _ (List.Mem.head _)) x.hc.1.2 x.hc.2;have B7:=ah (B6.sub (cs:=[(W.heap.size,.cells #[.func (.yield l) #[] #[]] 244 (0,0)),(bv,.cells #[.pointer (some ⟨v,0,none⟩)] 82 (0,0))]) sm);have hlx:(pG pre).length≤33*31:=om
   clear B6 B5 hwc Hc Hm d0 d1 hJ5 hV6 hf6 GI hKF hK5' Hr hbl
   gi_wp2
   refine wpIn_rangeFunc_ownN (l₀:=l2) (r₀:=r) rfl hr6 om (gf:=182) (lb:= #[.pointer (some ⟨W5.heap.size,0,none⟩),.pointer (some ⟨W5.heap.size+1,0,none⟩)]) rfl trivial (enters_of Tryz.func182 kr rfl)
    (Tj.inRound l2) (fun h k=>aT.trans (R:=dF) (fun _ _ _ a b=>sQ a b) h k) (fun W l o o' _ hl hc _=>aT.turn (R:=dF) (fun _=>rfl) W l o o' hl hc id) (bG _ _) (fun _=>rfl)
    (fun ip W7=>J (pG pre++Am x :: ip) W7∧lJ X v [(W.heap.size,.cells #[.func (.yield l) #[] #[]] 244 (0,0)),(bv,.cells #[.pointer (some ⟨v,0,none⟩)] 82 (0,0))] (dF V) W7∧KeepsFrom W4.heap.size W' W7∧aT X (fun _=>False) v dF W' W7)
    (fun c ip W7=>c= .ret∧Jx (pG pre++Am x :: ip) W7∧KeepsFrom W4.heap.size W' W7)
    (fun s A B row hs hg hr=>⟨hJ _ _ _ _ hs.1 hg (fun r e=>⟨by have:=(hr r e).1;omega,(hr r e).2⟩),hs.2.1.pO hg (fun r e=>(hr r e).2),ownFrom_keepsFrom (β:=Unit) hWc () A B row hs.2.2.1 hg hr,ajh (R:=dF) (fun _=>rfl) (fun _ _ _ a b=>sQ a b) (β:=Unit) () A B row hs.2.2.2 hg hr⟩)
    (fun c s A B row hs hg hr=>⟨hs.1,hJx _ _ _ _ hs.2.1 hg (fun r e=>⟨by have:=(hr r e).1;omega,(hr r e).2⟩),ownFrom_keepsFrom (β:=Unit) hWc () A B row hs.2.2 hg hr⟩)
    ⟨hJ6,uh B7,Fh,hK6⟩
    (fun y a'' W7=> ∃ bx2,W7.heap[bx2]? = some (.cells #[.int .i64 ((y.table:Nat):Int),.int .i64 ((y.index:Nat):Int),.int .u16 ((y.number:Nat):Int)] 219 (0,0))∧a''={ tmps:= #[.func (.yield l) #[] #[],.pointer (some ⟨bv,0,none⟩),.pointer (some ⟨bt,0,none⟩),.pointer (some ⟨W.heap.size,0,none⟩),.pointer (some ⟨bx,0,none⟩),.pointer (some ⟨bx2,0,none⟩),.pointer (some ⟨v,0,none⟩),.int .i64 (first:Nat),.func (.func 182) #[] #[.pointer (some ⟨W.heap.size+1,0,none⟩),.pointer (some ⟨W.heap.size+1+1,0,none⟩)],oh x,.func (.yield l) #[] #[],.agg #[.int .i64 ((x.table:Nat):Int),.int .i64 ((x.index:Nat):Int),.int .u16 ((x.number:Nat):Int)],.bool true,.bool false,u14,u15,u16,u17,.func (.func 182) #[] #[.pointer (some ⟨W5.heap.size,0,none⟩),.pointer (some ⟨W5.heap.size+1,0,none⟩)],oh y,u20,u21,u22,u23],defers:=[] })
    (fun y a'' _ A' B' row hs hg hr=>by
     obtain ⟨bx2,h2,h3⟩:=hs;refine ⟨bx2,?_,h3⟩;rw [hg.block bx2 (aO h2) (fun e=>by
      obtain ⟨_,o,ho,hc⟩:=hr bx2 e.symm;rw [h2] at ho;injection ho with ho;subst ho;cases hc)]
     exact h2)
    ?assign2 ?body2 ?done2 ?stop2
   case assign2=>
    rintro l3 ip y W7 K ⟨g1,g2,g3,g4⟩ hK;unfold oh
    gi_wp2
    have hb:aC W7 (W7.alloc (.cells #[.int .i64 ((y.table:Nat):Int),.int .i64 ((y.index:Nat):Int),.int .u16 ((y.number:Nat):Int)] 219)):=fC;exact hK _ _ ((KeepsOthers.alloc _ _).from _) (aT.below (R:=dF) (fun _=>rfl) hb) ⟨hJ.alloc _ g1,g2.below hb,g3.trans ((KeepsOthers.alloc _ _).from _),aT.trans (R:=dF) (fun _ _ _ a b=>sQ a b) g4 (aT.below (R:=dF) (fun _=>rfl) hb)⟩ ⟨_,aW _ _,rfl⟩
   case stop2=>
    rintro c ip W7 hSp ⟨rfl,g1,g2⟩
    gi_wp2
    exact ⟨g2,rfl,pG pre++Am x :: ip,by
     rw [aa6];obtain ⟨rr,hrr⟩:=hSp;exact ⟨rr,by rw [← hrr];simp⟩,g1⟩
   case done2=>
    rintro ip W7 hS ⟨g1,g2,g3,g4⟩
    gi_wp2
    refine ⟨g3,g4,?_,g2⟩;rw [aa6,← hS];exact g1
   case body2=>
    rintro l3 ip y a'' W7 hl3 _ ⟨g1,g2,g3,g4⟩ ⟨bx2,hbx2,rfl⟩ hlen2;have e0:W7.cell? ⟨W.heap.size,0,none⟩=some (.func (.yield l) #[] #[]):=(aG g2.b0 0).trans rfl;have e1:W7.cell? ⟨bx2,0,none⟩=some (.int .i64 ((y.table:Nat):Int)):=(aG hbx2 0).trans rfl;have e2:W7.cell? ⟨bx2,1,none⟩=some (.int .i64 ((y.index:Nat):Int)):=(aG hbx2 1).trans rfl;have e3:W7.cell? ⟨bx2,2,none⟩=some (.int .u16 ((y.number:Nat):Int)):=(aG hbx2 2).trans rfl;have hap:pG pre++Am x :: (ip++[y])=(pG pre++Am x :: ip)++[y]:=sm;obtain ⟨fn3,adu,aad,body3,hy3,hR3⟩:=QX (m':=n - 1 - 1 - 1 - 1 - 1) (hY (pG pre++Am x :: ip) y W7 g1 (by rw [oO,iQ];omega));have hy3':(Instr.yield l #[.agg #[.int .i64 ((y.table:Nat):Int),.int .i64 ((y.index:Nat):Int),.int .u16 ((y.number:Nat):Int)]]).run Tryz.prog W7= .ok (.round l fn3 adu aad body3) W7:=hy3;have G2:=ah g2;have G3:=ah g3;have G4:=ah g4;clear hy3 g1 g2 g3 g4 hbx2 Tj B7 hJ6 Fh hK6 hr6
    gi_wp2_with fail
    refine ⟨fun _=>om,Ri hR3 ?_⟩;rintro e W8 ⟨hK8,(⟨rfl,hJ8⟩ | ⟨rfl,S9⟩)⟩
    ·have GH: ∀ b,B≤b→KeepsFrom b W7 W8:=fun b hb=>⟨hK8.1,fun k o hB hk ho=>hK8.2.1 k o hk ho om⟩;have hK8':aT X (fun _=>False) v dF W7 W8:=hK8.OC (Y':=fun _=>False) (fun _ h=>False.elim h);have f1:=GH wc.heap.size om;have f2:=G2.wU (fun _ _ a b=>sQ a b) hK8;have f3:=G3.trans (GH W4.heap.size om);have f4:=aT.trans (R:=dF) (fun _ _ _ a b=>sQ a b) G4 hK8';rw [← hap] at hJ8
     gi_wp2
     exact ⟨f1,hK8',hJ8,f2,f3,f4⟩
    ·have GH: ∀ b,B≤b→KeepsFrom b W7 W8:=fun b hb=>⟨hK8.1,fun k o hB hk ho=>hK8.2.1 k o hk ho om⟩;have f1:=GH wc.heap.size om;have f3:=G3.trans (GH W4.heap.size om);rw [← hap] at S9
     gi_wp2
     exact ⟨f1,rfl,S9,f3⟩
 case done=>
  rintro D ys W' hD hS ⟨Ed,_⟩ hK
  gi_wp2
  refine ⟨sm,.inl ⟨_,_,rfl,run_takeDeferred hK,?_⟩⟩;refine ⟨_,CJ rfl _ _ _,⟨_,rfl⟩,.inl ⟨_,?_,hJ.putObj _ Ed om hK rfl⟩⟩;rw [hS];rfl
 case stop=>
  rintro D c pre W' hD hSp ⟨rfl,tot,h1,h2⟩ hK
  gi_wp2
  refine ⟨sm,.inl ⟨_,_,rfl,run_takeDeferred hK,?_⟩⟩;exact ⟨_,CJ rfl _ _ _,⟨_,rfl⟩,.inr ⟨tot,h1.trans (aoE hSp),hJx.putObj _ h2 om hK rfl⟩⟩
def wB {V:aB} (ss:List (mY (tK V))):List Nat:=ss.map fun s=>s.number%32768
theorem ai3 {V:aB} (ss:List (mY (tK V))) (s:mY (tK V)):wB (ss++[s])=wB ss++[s.number%32768]:=by simp [wB]
theorem akn {Pc:Nat→Prop} (V:aB) (t:Nat) (hT:Ai Pc V.C t):(uY V t hT).map (fun s=>s.number%32768)=dL (numsOf (cl V.C t)):=by
 have:=ac8 t (numsOf (cl V.C t)) hT (numsOf_length _) 32 (aP _)
 rw [Js (by rw [numsOf_length];exact aP _)] at this;exact this
theorem agL {V:aB}: ∀ ss:List (mY (qW V)),wB (pG ss)=(ss.map fun s=>s.number%32768).flatMap fun s=>s :: dL (numsOf (cl V.C s))
 | []=>rfl
 | s :: ss=>by
  have h1:pG (s :: ss)=(Am s :: uY V (s.number%32768) s.hc.2)++pG ss:=by simp [pG]
  have h2:=agL ss;have h3:=akn V (s.number%32768) s.hc.2;unfold wB at h2 ⊢;rw [h1,rE,h2,jC,jC,qA,h3];rfl
theorem YP (V:aB) (first:Nat) (h:gJ V first):wB (FQ V first h)=jf V.C first:=by
 unfold FQ jf;rw [agL,akn]
def Gt {V:aB} (hC:V.C.length≤256) (ss:List (mY (tK V))):List U256:=ss.map fun s=>⟨s.number%32768,by have:=s.hc.2;omega⟩
theorem anI {V:aB} (hC:V.C.length≤256) (ss:List (mY (tK V))):(Gt hC ss).map (·.1)=wB ss:=by simp [Gt,wB]
theorem anH {V:aB} (hC:V.C.length≤256) (ss:List (mY (tK V))) (s:mY (tK V)):Gt hC (ss++[s])=Gt hC ss++[⟨s.number%32768,by have:=s.hc.2;omega⟩]:=by simp [Gt]
theorem anG {V:aB} (hC:V.C.length≤256) (ss:List (mY (tK V))):(Gt hC ss).length=ss.length:=by simp [Gt]
theorem ahq (n:Nat) (hn:20≤n) (X:Nat→Prop) (v bv bt first B:Nat) (V:aB) (Cv Lv:Value) (w:World) (hV:aN w v Cv Lv V) (hC:V.C.length≤256)
  (hbv:w.heap[bv]? = some (.cells #[.pointer (some ⟨v,0,none⟩)] 82 (0,0))) (hbt:w.heap[bt]? = some (.cells #[.int .i64 (first:Nat)] 3 (0,0))) (NH: ¬ X bt) (GN: ¬ X bv) (hft: ¬ eX v Cv Lv bt) (hfv: ¬ eX v Cv Lv bv)
  (Eh: ∀ k,X k→k<B) (hF:gJ V first):
  Lh n 166 #[.pointer (some ⟨bt,0,none⟩),.pointer (some ⟨bv,0,none⟩)] (fun u:U256=> #[Value.int .i64 ((u.1:Nat):Int)]) (aT X (fun k=>B≤k) v dF) (fun ys=>ys.map (·.1)=mZ V.C first) 1057 B w:=by
 intro l J W hW hBW hJ hY h0;have qp: ∀ k,W.heap.size≤k→ ¬ X k:=fun k hk hx=>by have:=Eh _ hx;omega
 have hf256:first<256:=by have:=hF.1.1.2;omega
 have B0:lJ X v [(bv,.cells #[.pointer (some ⟨v,0,none⟩)] 82 (0,0)),(bt,.cells #[.int .i64 (first:Nat)] 3 (0,0))] (dF V) W:=by
  refine ⟨⟨Cv,Lv,V,hV.below hW,rfl,?_⟩,?_,?_,?_⟩
  ·intro x hx;simp only [dD,jM,jO] at hx;rcases hx with rfl | rfl
   ·exact hfv
   ·exact hft
  ·intro x hx;simp only [dD,jM,jO] at hx;rcases hx with rfl | rfl
   ·exact (hW.block _ (aO hbv)).trans hbv
   ·exact (hW.block _ (aO hbt)).trans hbt
  ·intro x hx;simp only [dD,jM,jO] at hx;rcases hx with rfl | rfl <;> rfl
  ·intro x hx;simp only [dD,jM,jO] at hx;rcases hx with rfl | rfl
   ·exact GN
   ·exact NH
 have B1:=B0.lay (.cells #[.func (.yield l) #[] #[]] 165) rfl (qp _ (aP _));have hJ1:J [] (W.alloc (.cells #[.func (.yield l) #[] #[]] 165)):=hJ.alloc _ h0;have c2:(W.alloc (.cells #[.func (.yield l) #[] #[]] 165)).cell? ⟨bt,0,none⟩=some (.int .i64 (first:Nat)):=(aG B1.b2 0).trans rfl;obtain ⟨fn,tmps,assign,body,hy,hR⟩:=hY [] ⟨first,hf256⟩ _ hJ1 sm;refine callsIn_of_wp_marks Tryz.func166 rfl trivial ?_ rfl;simp only [Tryz.ntmps166,iR,iQ,vk,Nat.reduceAdd,Nat.reduceSub,A8,Ba,Bc,Bd,ql,sO];have B1:=ah B1;clear B0 hbt hbv h0
 gi_wp2_with fail
 refine ⟨fun _=>om,hR.mono ?_⟩;rintro e W3 ⟨rfl,hJ3,hK3⟩;have B3:=B1.wU (fun _ _ a b=>sQ a b) hK3;obtain ⟨C3,L3,V3,hV3,hS3,hf3⟩:=B3.bP;obtain rfl:V=V3:=hS3;have c3:W3.cell? ⟨bt,0,none⟩=some (.int .i64 (first:Nat)):=(aG B3.b2 0).trans rfl;have d3:W3.cell? ⟨bv,0,none⟩=some (.pointer (some ⟨v,0,none⟩)):=(aG B3.b1 0).trans rfl;have hs3:W.heap.size+1≤W3.heap.size:=by have:=hK3.1;simp at this;omega
 have Hn:=ah (UL W3 v first);have hn4:=(B3.lay (.cells #[.pointer (some ⟨v,0,none⟩)] 82) rfl (qp _ om)).lay (.cells #[.int .i64 (first:Nat)] 3) rfl (qp _ (by simp;omega));simp only [jB] at hn4;have hb4:=ah hn4;have B4:=ah (hn4.sub (cs:=[(W.heap.size,.cells #[.func (.yield l) #[] #[]] 165 (0,0))]) sm);have hJ4:=ah ((XJ hJ (C:=W.heap.size) (aP _)).alloc (.cells #[.int .i64 (first:Nat)] 3) (hJ.alloc (.cells #[.pointer (some ⟨v,0,none⟩)] 82) hJ3));have HV3:=ah hV3;have P8:=fun hf=>hV3.qG W3.heap.size hf;have ahw:=fun hf=>hV3.qG (W3.heap.size+1) hf;clear hn4 B3 hV3 hJ3 hJ1 B1 hR hy hf3
 gi_wp2_with fail
 refine ⟨trivial,fun _=>om,(eY.2 Hn).mono ?_⟩;rintro e W4 ⟨rfl,rfl⟩
 gi_wp2_with fail
 generalize hW4:(W3.alloc (.cells #[.pointer (some ⟨v,0,none⟩)] 82)).alloc (.cells #[.int .i64 (first:Nat)] 3)=W4 at*;have hV4:aN W4 v C3 L3 V:=by rw [← hW4];exact (HV3.alloc _).alloc _
 have hs4:W4.heap.size=W3.heap.size+2:=by rw [← hW4];simp
 have hTA:=(YN (n - 1) om X v W3.heap.size (W3.heap.size+1) first (W4.heap.size+2) V C3 L3 W4 hV4 hb4.b1 hb4.b0 (qp _ om) (qp _ om) (fun hf=>by have:=ahw hf;omega) (fun hf=>by have:=P8 hf;omega) (fun k hx=>by have:=Eh k hx;omega) hF).all;clear hb4 hW4 HV3 c3 d3 c2 hV4 Hn P8 ahw;refine QF om (gf:=174) (lb:= #[.pointer (some ⟨W3.heap.size,0,none⟩),.pointer (some ⟨W3.heap.size+1,0,none⟩)]) rfl (enters_of Tryz.func174 kr rfl) hTA
  (fun A B C h k=>aT.trans (R:=dF) (fun _ _ _ a b=>sQ a b) h k) (fun W o o' hl hc=>aT.turn (R:=dF) (fun _=>rfl) W _ o o' hl hc om) (bG _ _) (fun _=>rfl)
  (fun pre W'=>J (⟨first,hf256⟩ :: Gt hC pre) W'∧lJ X v [(W.heap.size,.cells #[.func (.yield l) #[] #[]] 165 (0,0))] (dF V) W')
  (fun _ _ _ _ hs hg hr=>⟨hJ _ _ _ _ hs.1 hg (fun r e=>⟨by have:=(hr r e).1;omega,(hr r e).2⟩),hs.2.pO hg (fun r e=>(hr r e).2)⟩)
  ⟨uh hJ4,uh B4⟩
  (fun x a' W'=> ∃ bx,W'.heap[bx]? = some (.cells #[.int .i64 ((x.table:Nat):Int),.int .i64 ((x.index:Nat):Int),.int .u16 ((x.number:Nat):Int)] 219 (0,0))∧a'={ tmps:= #[.func (.yield l) #[] #[],.pointer (some ⟨bt,0,none⟩),.pointer (some ⟨bv,0,none⟩),.pointer (some ⟨W.heap.size,0,none⟩),.pointer (some ⟨bx,0,none⟩),.func (.yield l) #[] #[],.int .i64 (first:Nat),.bool true,.bool false,.pointer (some ⟨v,0,none⟩),.int .i64 (first:Nat),.func (.func 174) #[] #[.pointer (some ⟨W3.heap.size,0,none⟩),.pointer (some ⟨W3.heap.size+1,0,none⟩)],oh x,undef,undef,undef,undef,undef,undef],defers:=[] })
  (fun x a' _ A' B' row hs hg hr=>by
   obtain ⟨bx,h2,h3⟩:=hs;refine ⟨bx,?_,h3⟩;rw [hg.block bx (aO h2) (fun e=>by
    obtain ⟨_,o,ho,hc⟩:=hr bx e.symm;rw [h2] at ho;injection ho with ho;subst ho;cases hc)]
   exact h2)
  ?assign ?body ?done
 case assign=>
  rintro l2 pre x W' K ⟨hJx,hBx⟩ hK;unfold oh
  gi_wp2
  exact hK _ _ ((KeepsOthers.alloc _ _).from _) (aT.below (R:=dF) (fun _=>rfl) (fC)) ⟨hJ.alloc _ hJx,hBx.below (fC)⟩ ⟨_,aW _ _,rfl⟩
 case body=>
  rintro l2 pre x a' W' hl2 ⟨r,hr⟩ ⟨hJx,hBx⟩ ⟨bx,hbx,rfl⟩ hlen;have c1:W'.cell? ⟨W.heap.size,0,none⟩=some (.func (.yield l) #[] #[]):=(aG hBx.b0 0).trans rfl;have c2:W'.cell? ⟨bx,2,none⟩=some (.int .u16 ((x.number:Nat):Int)):=(aG hbx 2).trans rfl;have Hc:Hid (∀ W,_):=fun W=>BH x.number x.hn W;have hJd:J (⟨first,hf256⟩ :: Gt hC pre) W'.drew:=hJ _ W' W'.drew none hJx ⟨rfl,rfl,rfl,aP _,fun _ _ _=>rfl⟩ (fun r e=>by cases e);have hx256:x.number%32768<256:=by have:=x.hc.2;omega
  have hap:(⟨first,hf256⟩ :: Gt hC pre)++[⟨x.number%32768,hx256⟩]=⟨first,hf256⟩ :: Gt hC (pre++[x]):=by rw [anH];rfl
  have NI:=hY _ ⟨x.number%32768,hx256⟩ W'.drew hJd (by simp [anG];omega);rw [hap] at NI;obtain ⟨fn2,Ox,assign2,body2,hy2,hR2⟩:=QX (m':=n - 1 - 1 - 1) NI;have Hx:=x.hn;have hB2:=ah (hBx.below (B:=W'.drew) ⟨rfl,rfl,rfl,aP _,fun _ _=>rfl⟩);dsimp only at hy2;clear hJd NI hJx hBx hap hbx;generalize x.number%32768=cc at*;generalize x.number=nn at*;generalize oh x=sv at*
  gi_wp2
  gi_region_with (first
   | (
    refine ⟨trivial,fun _=>om,(CallsIn.inRound l2 (eY.2 (uh Hc _))).mono ?_⟩;rintro e w3 ⟨rfl,rfl⟩)
   | (
    refine ⟨fun _=>om,Ri hR2 ?_⟩;rintro e w3 ⟨rfl,hJ5,hK5⟩))
  all_goals
   have B5:=hB2.wU (fun _ _ a b=>sQ a b) hK5;have hKF:KeepsFrom W4.heap.size W' w3:=⟨hK5.1,fun k o hB hk ho=>hK5.2.1 k o hk ho om⟩;have hK6:aT X (fun k=>W4.heap.size+2≤k) v dF W' w3:=aT.trans (R:=dF) (fun _ _ _ a b=>sQ a b) (aT.below (R:=dF) (fun _=>rfl) (B:=W'.drew) ⟨rfl,rfl,rfl,aP _,fun _ _=>rfl⟩) (hK5.OC (Y':=fun k=>W4.heap.size+2≤k) (fun k h=>om));simp only [hs4] at hKF hK6
   gi_wp2
   first
    | exact ⟨hKF,hK6,hJ5,B5⟩
    | exact ⟨hJ5,B5⟩
 case done=>
  rintro D ys W' hD hS ⟨hJx,_⟩ hK
  gi_wp2
  refine ⟨sm,.inl ⟨_,_,rfl,run_takeDeferred hK,?_⟩⟩;refine ⟨_,CJ rfl _ _ _,⟨_,rfl⟩,_,?_,hJ.putObj _ hJx om hK rfl⟩;rw [jC,anI,hS,YP];rfl
end
end Go.Proofs.YtknjjjenklfeoaaGreatDoor
