import Derived.Test.YtknjjjenklfeoaaGreatDoorO47
set_option maxHeartbeats 8000000
set_option maxRecDepth 100000
set_option linter.all false
namespace Go.Proofs.YtknjjjenklfeoaaGreatDoor
section
open Go.RowKit Go.Shelf
def aeW {α:Type} (G:α→Prop) (n gf:Nat) (lb:Array Value) (encs:α→Array Value) (Kp:World→World→Prop) (S Sp:List α→Prop) (N B:Nat) (w:World):Prop:=
 ∀ (l:Nat) (J Jx:List α→World→Prop) (W:World),aC w W→B≤W.heap.size→OwnFrom W.heap.size J→OwnFrom W.heap.size Jx→(∀ pre x W',J (pre++[x]) W'→G x)→
  (∀ pre x W1,J pre W1→pre.length<N→YieldAt Fence.wide (n - 1) Tryz.prog l (encs x) W1 fun e W'=>Kp W1 W'∧((e= .returned (.bool true)∧J (pre++[x]) W')∨(e= .returned (.bool false)∧Jx (pre++[x]) W')))→
  J [] W→CallsIn Fence.wide n Tryz.prog gf (#[.func (.yield l) #[] #[]]++lb) W fun e W'=>(∃ v,e= .returned v)∧((∃ xs,S xs∧J xs W')∨ ∃ pre,Sp pre∧Jx pre W')
section
variable {α:Type} {g:Operand} {ps:Array Tmp} {assign body:Code} {Q:Exit→Act→World→Prop} {a:Act} {w:World} {n:Nat}
theorem asc {G:α→Prop} {l₀:Nat} {r₀:Loop} (hl₀:w.heap[l₀]? = some (.loop r₀)) (h1:1≤n) {gf:Nat} {lb:Array Value} (hg:a.eval g= .func (.func gf) #[] lb) (eg: ∀ args w,(callFunc gf args).run Tryz.prog w= .ok (.enter gf args) w)
  {encs:α→Array Value} {Kp:World→World→Prop} {S Sp:List α→Prop} {N:Nat} {w0:World} (hseq:aeW G (n - 1) gf lb encs Kp S Sp N (w.heap.size+1) w0)
  (hKt: ∀ A B C:World,Kp A B→Kp B C→Kp A C) (hKb: ∀ (W:World) (o o':Obj),W.heap[w.heap.size]? = some o→o.isCells=false→Kp W (W.putObj w.heap.size o')) (hb0:aC w0 w) (hps: ∀ x,(encs x).size=ps.size)
  (I Ix:List α→World→Prop) (hIG: ∀ pre x W,I (pre++[x]) W→G x) (hI:OwnFrom w.heap.size I) (hIx:OwnFrom w.heap.size Ix) (h0:I [] w) (Ax:α→Act→World→Prop) (hAx: ∀ x a',OwnFrom w.heap.size (fun (_:Unit) W=>Ax x a' W))
  (hassign: ∀ (l:Nat) (pre:List α) (x:α) (W:World) (K:Act→World→Prop),I pre W→(∀ a' W',KeepsFrom w.heap.size W W'→Kp W W'→I pre W'→Ax x a' W'→K a' W')→
   assign.wpIn (Fence.wide.inRound l) (n - 1 - 1) Tryz.prog (Exit.then K (fun _ _ _=>False)) { tmps:=(ps.zip (encs x)).foldl (fun t (p,v)=>t.setIfInBounds p v) a.tmps,defers:=[] } W)
  (hbody: ∀ (l:Nat) (pre:List α) (x:α) (a':Act) (W:World),w.heap.size≤l→(∃ r,W.heap[l]? = some (.loop r))→I pre W→Ax x a' W→pre.length<N→body.wpIn (Fence.wide.inRound l) (n - 1 - 1) Tryz.prog (aac w.heap.size Kp I Ix (pre++[x]) W) a' W)
  (hdone: ∀ (xs:List α) (W:World),S xs→I xs W→Q .normal a W)
  (hstop: ∀ (pre:List α) (W:World),Sp pre→Ix pre W→Code.ret.wpIn (Fence.wide.inRound l₀) n Tryz.prog Q a W):
  (Code.rangeFunc g ps assign body).wpIn (Fence.wide.inRound l₀) n Tryz.prog Q a w:=by
 refine wpIn_rangeFunc fun fn hfn=> ?_;obtain ⟨rec,hrec⟩: ∃ rec:LoopState→Option Code→Loop,rec=fun st pe=>{ state:=st,pending:=pe,fn,tmps:=a.tmps,params:=ps,assign,body,defers:=r₀.defers }:=⟨_,rfl⟩
 let d:=w.heap.size
 let W1:=w.alloc (.loop (rec .ready none))
 have hL1:W1.heap[d]? = some (.loop (rec .ready none)):=aW w _;have hI1:I [] W1:=hI.alloc _ h0;have hsz:W1.heap.size=d+1:=by simp [W1,d]
 have hw1:aC w0 W1:=hb0.trans (((bG _ w).alloc (aP _) _).mono hb0.size);refine ⟨d,[],W1,{ target:= .fn (.func gf) lb,args:= #[.func (.yield d) #[] #[]] },W1,gf,#[.func (.yield d) #[] #[]]++lb,W1,?_,?_,fun _ _=>trivial,?_,fun _=>h1,?_⟩
 ·show (Instr.enterLoop fn a.tmps ps assign body (some l₀)).run Tryz.prog w=_;rw [run_enterLoop_inner hl₀];simp only [W1,hrec,d]
 ·simp only [resolve,hg];simp [go_sem]
 ·simp [invoke,go_sem,eg]
 have hJ:OwnFrom W1.heap.size (fun (pre:List α) W=>I pre W∧W.heap[d]? = some (.loop (rec .ready none))):=fun s A B row hs hg' hr=>
  ⟨hI s A B row hs.1 hg' (fun r e=>⟨by have:=(hr r e).1;omega,(hr r e).2⟩),rX hg' hr hs.2 om⟩
 have hJx:OwnFrom W1.heap.size (fun (pre:List α) W=>Ix pre W∧W.heap[d]? = some (.loop (rec .done (some .ret)))):=fun s A B row hs hg' hr=>
  ⟨hIx s A B row hs.1 hg' (fun r e=>⟨by have:=(hr r e).1;omega,(hr r e).2⟩),rX hg' hr hs.2 om⟩
 refine (CallsIn.inRound l₀ (hseq d (fun pre W=>I pre W∧W.heap[d]? = some (.loop (rec .ready none))) (fun pre W=>Ix pre W∧W.heap[d]? = some (.loop (rec .done (some .ret)))) W1 hw1 om hJ hJx (fun pre x W h=>hIG pre x W h.1) ?_ ⟨hI1,hL1⟩)).mono ?_
 ·rintro pre x W ⟨hi,hb⟩ hlen;have hy:=run_yield (P:=Tryz.prog) (args:=encs x) hb (by rw [hrec];exact hps x);rw [hrec] at hy;refine ⟨fn,_,assign,body,hy,roundIn_of_wpIn hfn (hassign d pre x W _ hi fun a' Wa Fq hkp hia hax=> ?_)⟩;have hba:=Fq.same _ _ (aP _) hb rfl;refine ⟨_,run_beginRound hba (by rw [hrec]),?_⟩;have hbb:(Wa.putObj d (.loop { rec .ready none with state:= .busy })).heap[d]? = some (.loop { rec .ready none with state:= .busy }):=World.putObj_heap_same (aO hba);have hkb:Kp Wa (Wa.putObj d (.loop { rec .ready none with state:= .busy })):=hKb _ _ _ hba rfl;refine UW (hbody d pre x a' _ (aP _) ⟨_,hbb⟩ (hI.putObj _ hia (aP _) hba rfl) ((hAx x a').putObj (s:=()) _ hax (aP _) hba rfl) hlen) ?_;have fin: ∀ (jump:Option Code) (W3:World),KeepsFrom d (Wa.putObj d (.loop { rec .ready none with state:= .busy })) W3→
    (Instr.endRound d jump).run Tryz.prog W3= .ok (.bool jump.isNone) (W3.putObj d (.loop (rec (if jump.isNone then .ready else .done) jump)))∧
    W3.heap[d]? = some (.loop { rec .ready none with state:= .busy })∧
    (W3.putObj d (.loop (rec (if jump.isNone then .ready else .done) jump))).heap[d]? = some (.loop (rec (if jump.isNone then .ready else .done) jump)):=fun jump W3 hk3=>by
   have hl3:=hk3.same _ _ (aP _) hbb rfl
   have:=run_endRound (P:=Tryz.prog) jump hl3
   rw [hrec] at this ⊢;exact ⟨this,by rw [hrec] at hl3;exact hl3,World.putObj_heap_same (aO hl3)⟩
  rintro e a3 W3 hp;cases e with
  | normal=>
   obtain ⟨BM,hkp3,hi3⟩:=hp;obtain ⟨hr,hl3,hl4⟩:=fin none W3 BM;exact ⟨_,_,hr,hKt _ _ _ hkp (hKt _ _ _ hkb (hKt _ _ _ hkp3 (hKb _ _ _ hl3 rfl))),.inl ⟨rfl,hI.putObj _ hi3 (aP _) hl3 rfl,hl4⟩⟩
  | ret=>
   obtain ⟨BM,hkp3,hi3⟩:=hp;obtain ⟨hr,hl3,hl4⟩:=fin (some .ret) W3 BM;exact ⟨_,_,hr,hKt _ _ _ hkp (hKt _ _ _ hkb (hKt _ _ _ hkp3 (hKb _ _ _ hl3 rfl))),.inr ⟨rfl,hIx.putObj _ hi3 (aP _) hl3 rfl,hl4⟩⟩
  | exit id=>exact hp.elim
  | goto t=>exact hp.elim
  | panic ch=>exact hp.elim
  | outgrown=>exact hp.elim
 ·rintro e W2 ⟨⟨v,rfl⟩,(⟨xs,hS,hi,hb⟩ | ⟨pre,hSp,hi,hb⟩)⟩
  ·have hh:(rec .ready none).state≠ .busy:=by rw [hrec];simp
   have hp:(rec .ready none).pending=none:=by rw [hrec]
   refine ⟨_,_,run_endLoop hb hh,?_⟩;rw [hp];exact hdone xs _ hS (hI.putObj _ hi (aP _) hb rfl)
  ·have hh:(rec .done (some .ret)).state≠ .busy:=by rw [hrec];simp
   have hp:(rec .done (some .ret)).pending=some .ret:=by rw [hrec]
   refine ⟨_,_,run_endLoop hb hh,?_⟩;rw [hp];exact hstop pre _ hSp (hIx.putObj _ hi (aP _) hb rfl)
end
attribute [local go_sem ↓] dw fP fZ kS mP mV jJ kJ jY jU lD lH kQ ku kT mQ mW lZ ny jG qc qP qQ qF
attribute [local go_sem] dK fO fV gK gy aV kX mG mM mJ mF gI jK kH jX kZ kW iJ jW lq lC lu kF jc jd lY l7 kG kY mO nI lT mD nH qh qM qO qN qL
attribute [local go_sem] pW pV Oper.semAt_some
def Vo (_:Nat):Prop:=True
abbrev Gl:=mY Vo
theorem Gx (C:List aj) (t:Nat):Ai Vo C t:=fun _=>⟨N8 _ _,fun _=>trivial⟩
def tX (V:aB) (ss:List Gl):List Gl:=ss.flatMap fun s=>s :: uY V (s.number%32768) (Gx V.C (s.number%32768))
def YM (V:aB) (first:Nat):List Gl:=tX V (uY V first (Gx V.C first))
theorem aa5 {V:aB} (ss:List Gl) (s:Gl):tX V (ss++[s])=tX V ss++(s :: uY V (s.number%32768) (Gx V.C (s.number%32768))):=by simp [tX]
theorem aoD {V:aB} {a b:List Gl} (h:a <+: b):tX V a <+: tX V b:=by
 obtain ⟨r,rfl⟩:=h;exact ⟨tX V r,by simp [tX]⟩
theorem agK (V:aB): ∀ ss:List Gl,(tX V ss).length≤33*ss.length
 | []=>by simp [tX]
 | s :: ss=>by
  have h1:=agK V ss;have h2:=Yv V (s.number%32768) (Gx V.C (s.number%32768))
  have:tX V (s :: ss)=(s :: uY V (s.number%32768) (Gx V.C (s.number%32768)))++tX V ss:=by simp [tX]
  rw [this,oO,iQ,iQ];omega
theorem aut (n:Nat) (hn:10≤n) (X:Nat→Prop) (v bv bt first B:Nat) (V:aB) (Cv Lv:Value) (w:World) (hV:aN w v Cv Lv V)
  (hbv:w.heap[bv]? = some (.cells #[.pointer (some ⟨v,0,none⟩)] 82 (0,0))) (hbt:w.heap[bt]? = some (.cells #[.int .i64 (first:Nat)] 3 (0,0))) (NH: ¬ X bt) (GN: ¬ X bv) (hft: ¬ eX v Cv Lv bt) (hfv: ¬ eX v Cv Lv bv)
  (Eh: ∀ k,X k→k<B) (hF:first<V.C.length):
  aeW (fun s:Gl=>s.number%32768<V.C.length) n 174 #[.pointer (some ⟨bv,0,none⟩),.pointer (some ⟨bt,0,none⟩)] (fun x:Gl=> #[oh x]) (aT X (fun k=>B≤k) v dF) (fun ys=>ys=YM V first) (fun pre=>pre <+: YM V first) 1056 B w:=by
 intro l J Jx W hW hBW hJ hJx hG hY h0;have qp: ∀ k,W.heap.size≤k→ ¬ X k:=fun k hk hx=>by have:=Eh _ hx;omega
 have B0:lJ X v [(bv,.cells #[.pointer (some ⟨v,0,none⟩)] 82 (0,0)),(bt,.cells #[.int .i64 (first:Nat)] 3 (0,0))] (dF V) W:=by
  refine ⟨⟨Cv,Lv,V,hV.below hW,rfl,?_⟩,?_,?_,?_⟩
  ·intro x hx;simp only [dD,jM,jO] at hx;rcases hx with rfl | rfl
   ·exact hfv
   ·exact hft
  ·intro x hx;simp only [dD,jM,jO] at hx;rcases hx with rfl | rfl
   ·exact (hW.block _ (aO hbv)).trans hbv
   ·exact (hW.block _ (aO hbt)).trans hbt
  ·intro x hx;simp only [dD,jM,jO] at hx;rcases hx with rfl | rfl <;> rfl
  ·intro x hx;simp only [dD,jM,jO] at hx;rcases hx with rfl | rfl
   ·exact GN
   ·exact NH
 have B1:=B0.lay (.cells #[.func (.yield l) #[] #[]] 244) rfl (qp _ (aP _));have hJ1:J [] (W.alloc (.cells #[.func (.yield l) #[] #[]] 244)):=hJ.alloc _ h0;have c1:(W.alloc (.cells #[.func (.yield l) #[] #[]] 244)).cell? ⟨bv,0,none⟩=some (.pointer (some ⟨v,0,none⟩)):=(aG B1.b1 0).trans rfl;have c2:(W.alloc (.cells #[.func (.yield l) #[] #[]] 244)).cell? ⟨bt,0,none⟩=some (.int .i64 (first:Nat)):=(aG B1.b2 0).trans rfl;have hs1:(W.alloc (.cells #[.func (.yield l) #[] #[]] 244)).heap.size=W.heap.size+1:=sm;have hV1:aN (W.alloc (.cells #[.func (.yield l) #[] #[]] 244)) v Cv Lv V:=(hV.below hW).alloc _;refine callsIn_of_wp_marks Tryz.func174 rfl trivial ?_ rfl;simp only [Tryz.ntmps174,iR,iQ,vk,Nat.reduceAdd,Nat.reduceSub,A8,Ba,Bc,Bd,ql,sO];have Hn:=ah (Qw (W.alloc (.cells #[.func (.yield l) #[] #[]] 244)) v first)
 have hn4:=(B1.lay (.cells #[.pointer (some ⟨v,0,none⟩)] 82) rfl (qp _ om)).lay (.cells #[.int .i64 (first:Nat)] 3) rfl (qp _ (by simp;omega));simp only [jB] at hn4 Hn;have hb4:=ah hn4;have B4:=ah (hn4.sub (cs:=[(W.heap.size,.cells #[.func (.yield l) #[] #[]] 244 (0,0)),(bv,.cells #[.pointer (some ⟨v,0,none⟩)] 82 (0,0))]) sm);have hJ4:=ah ((XJ hJ (C:=W.heap.size) (aP _)).alloc (.cells #[.int .i64 (first:Nat)] 3) (hJ.alloc (.cells #[.pointer (some ⟨v,0,none⟩)] 82) hJ1));have HV1:=ah hV1;have P8:=fun hf=>hV1.qG (W.heap.size+1+1) hf;clear B0 B1 hbt hbv h0 hn4 hJ1 hV1
 gi_wp2_with fail
 refine ⟨trivial,fun _=>om,(eY.2 Hn).mono ?_⟩;rintro e W4 ⟨rfl,rfl⟩
 gi_wp2_with fail
 generalize hW4:((W.alloc (.cells #[.func (.yield l) #[] #[]] 244)).alloc (.cells #[.pointer (some ⟨v,0,none⟩)] 82)).alloc (.cells #[.int .i64 (first:Nat)] 3)=W4 at*;have hV4:aN W4 v Cv Lv V:=by rw [← hW4];exact (HV1.alloc _).alloc _
 have hs4:W4.heap.size=W.heap.size+3:=by rw [← hW4];simp
 have GI:=Qx (Pc:=Vo) (n - 1) om X (fun _=>False) dF v (W.heap.size+1) (W.heap.size+1+1) first V Cv Lv W4 hV4 hb4.b1 hb4.b0 (qp _ om) (fun hf=>by have:=P8 hf;rw [hs1] at this;omega) hF (Gx V.C first);clear hb4 hW4 HV1 c1 c2 hV4 Hn;refine wpIn_rangeFunc_ownH rfl om (gf:=182) (lb:= #[.pointer (some ⟨W.heap.size+1,0,none⟩),.pointer (some ⟨W.heap.size+1+1,0,none⟩)]) rfl trivial (enters_of Tryz.func182 kr rfl) GI (fun h k=>aT.trans (R:=dF) (fun _ _ _ a b=>sQ a b) h k) (fun W l o o' _ hl hc _=>aT.turn (R:=dF) (fun _=>rfl) W l o o' hl hc id) (bG _ _) (fun _=>rfl)
  (fun pre W'=>J (tX V pre) W'∧lJ X v [(W.heap.size,.cells #[.func (.yield l) #[] #[]] 244 (0,0)),(bv,.cells #[.pointer (some ⟨v,0,none⟩)] 82 (0,0))] (dF V) W')
  (fun c pre W'=>c= .ret∧ ∃ tot,tot <+: tX V pre∧Jx tot W')
  (fun _ _ _ _ hs hg hr=>⟨hJ _ _ _ _ hs.1 hg (fun r e=>⟨by have:=(hr r e).1;omega,(hr r e).2⟩),hs.2.pO hg (fun r e=>(hr r e).2)⟩)
  (fun _ _ _ _ _ hs hg hr=>by obtain ⟨e,tot,h1,h2⟩:=hs;exact ⟨e,tot,h1,hJx _ _ _ _ h2 hg (fun r e=>⟨by have:=(hr r e).1;omega,(hr r e).2⟩)⟩)
  ⟨uh hJ4,uh B4⟩
  (fun x a' W'=> ∃ bx,lJ X v [(bx,.cells #[.int .i64 ((x.table:Nat):Int),.int .i64 ((x.index:Nat):Int),.int .u16 ((x.number:Nat):Int)] 219 (0,0))] (dF V) W'∧a'={ tmps:= #[.func (.yield l) #[] #[],.pointer (some ⟨bv,0,none⟩),.pointer (some ⟨bt,0,none⟩),.pointer (some ⟨W.heap.size,0,none⟩),.pointer (some ⟨bx,0,none⟩),undef,.pointer (some ⟨v,0,none⟩),.int .i64 (first:Nat),.func (.func 182) #[] #[.pointer (some ⟨W.heap.size+1,0,none⟩),.pointer (some ⟨W.heap.size+1+1,0,none⟩)],oh x,undef,undef,undef,undef,undef,undef,undef,undef,undef,undef,undef,undef,undef,undef],defers:=[] })
  (fun x a' _ A' B' row hs hg hr=>by
   obtain ⟨bx,h2,h3⟩:=hs;exact ⟨bx,h2.pO hg (fun r e=>(hr r e).2),h3⟩)
  ?assign ?body ?done ?stop
 case assign=>
  rintro l2 pre x W' K ⟨Ed,hBx⟩ hK;have hsz:W.heap.size<W'.heap.size:=aO hBx.b0;unfold oh
  gi_wp2
  exact hK _ _ ((KeepsOthers.alloc _ _).from _) (aT.below (R:=dF) (fun _=>rfl) (fC)) ⟨hJ.alloc _ Ed,hBx.below (fC)⟩ ⟨_,(hBx.lay _ rfl (qp _ om)).sub sm,rfl⟩
 case body=>
  rintro l2 pre x a' W' hl2 ⟨r,hr⟩ ⟨Ed,hBx⟩ ⟨bx,hAx,rfl⟩ hlen;have BB:=hAx.join hBx;have hfl:=agK V pre;have c0:W'.cell? ⟨W.heap.size,0,none⟩=some (.func (.yield l) #[] #[]):=(aG BB.b1 0).trans rfl;have c1:W'.cell? ⟨bx,0,none⟩=some (.int .i64 ((x.table:Nat):Int)):=(aG BB.b0 0).trans rfl;have c2:W'.cell? ⟨bx,1,none⟩=some (.int .i64 ((x.index:Nat):Int)):=(aG BB.b0 1).trans rfl;have c3:W'.cell? ⟨bx,2,none⟩=some (.int .u16 ((x.number:Nat):Int)):=(aG BB.b0 2).trans rfl;obtain ⟨fn2,Ox,assign2,body2,hy2,hR2⟩:=QX (m':=n - 1 - 1 - 1) (hY (tX V pre) (x) W' Ed om);have hy2':(Instr.yield l #[.agg #[.int .i64 ((x.table:Nat):Int),.int .i64 ((x.index:Nat):Int),.int .u16 ((x.number:Nat):Int)]]).run Tryz.prog W'= .ok (.round l fn2 Ox assign2 body2) W':=hy2;have BB:=ah BB;have Hr:=ah hr;clear hBx hAx Ed hy2
  gi_wp2_with fail
  refine ⟨fun _=>om,Ri hR2 ?_⟩;rintro e W5 ⟨hK5,(⟨rfl,hJ5⟩ | ⟨rfl,abg⟩)⟩
  rotate_left
  ·have hKF:KeepsFrom W4.heap.size W' W5:=⟨hK5.1,fun k o hB hk ho=>hK5.2.1 k o hk ho om⟩
   gi_wp2
   exact ⟨hKF,rfl,tX V pre++[x],⟨uY V (x.number%32768) (Gx V.C (x.number%32768)),by rw [aa5];simp⟩,abg⟩
  have hKF:KeepsFrom W4.heap.size W' W5:=⟨hK5.1,fun k o hB hk ho=>hK5.2.1 k o hk ho om⟩;have hgx:=hG _ _ _ hJ5;have B5:=BB.wU (fun _ _ a b=>sQ a b) hK5;have d0:W5.cell? ⟨bv,0,none⟩=some (.pointer (some ⟨v,0,none⟩)):=(aG B5.b2 0).trans rfl;have d1:W5.cell? ⟨bx,2,none⟩=some (.int .u16 ((x.number:Nat):Int)):=(aG B5.b0 2).trans rfl;have hK5':aT X (fun _=>False) v dF W' W5:=hK5.OC (Y':=fun _=>False) (fun _ h=>False.elim h);have Hc:Hid (∀ W,_):=fun W=>BH x.number x.hn W;have Hm:Hid (∀ W,_):=fun W=>Qw W v (x.number%32768);have hs5:W.heap.size<W5.heap.size:=aO B5.b1;have B5:=ah B5;have hKF:=ah hKF;have hK5':=ah hK5';clear hK5 BB c0 c1 c2 c3 hR2
  gi_wp2
  gi_cut [18] from 14 (fun s18 wc=>s18= .func (.func 182) #[] #[.pointer (some ⟨W5.heap.size,0,none⟩),.pointer (some ⟨W5.heap.size+1,0,none⟩)]∧wc=(W5.drew.alloc (.cells #[.pointer (some ⟨v,0,none⟩)] 82)).alloc (.cells #[.int .i64 ((x.number%32768:Nat):Int)] 3))
  case first=>
   gi_region_with (first
    | (
     refine ⟨trivial,fun _=>om,(CallsIn.inRound l2 (eY.2 (uh Hc _))).mono ?_⟩;rintro e w3 ⟨rfl,rfl⟩)
    | (
     refine ⟨trivial,fun _=>om,(CallsIn.inRound l2 (eY.2 (uh Hm _))).mono ?_⟩;rintro e w3 ⟨rfl,rfl⟩))
   all_goals
    gi_wp2
    gi_meet
    exact ⟨rfl,rfl⟩
  case rest=>
   obtain ⟨rfl,hwc⟩:=hcut;have B6:=((B5.below (B:=W5.drew) ⟨rfl,rfl,rfl,aP _,fun _ _=>rfl⟩).lay (.cells #[.pointer (some ⟨v,0,none⟩)] 82) rfl (qp _ (by show W.heap.size≤W5.heap.size;omega))).lay (.cells #[.int .i64 ((x.number%32768:Nat):Int)] 3) rfl (qp _ (by rw [jB];show W.heap.size≤W5.heap.size+1;omega));have hJ6:J (tX V pre++[x]) wc:=by
    rw [hwc];exact hJ.alloc _ (hJ.alloc _ (hJ _ W5 W5.drew none hJ5 ⟨rfl,rfl,rfl,aP _,fun _ _ _=>rfl⟩ (fun r e=>by cases e)))
   have hbl:aC W5 wc:=by
    rw [hwc];exact ((bG _ W5).drew.alloc (aP _) _).alloc (by rw [jB];show W5.heap.size≤W5.heap.size+1;omega) _
   have hs6:wc.heap.size=W5.heap.size+2:=by rw [hwc];simp
   rw [← hwc] at B6;simp only [jB] at B6;change lJ X v ((W5.heap.size+1,_) :: (W5.heap.size,_) :: _) (dF V) wc at B6;have Fh:KeepsFrom W4.heap.size W' wc:=hKF.trans ⟨hbl.size,fun k o _ hk _=>(hbl.block k (aO hk)).trans hk⟩;have hK6:aT X (fun _=>False) v dF W' wc:=aT.trans (R:=dF) (fun _ _ _ a b=>sQ a b) hK5' (aT.below (R:=dF) (fun _=>rfl) hbl);have hr6:wc.heap[l2]? = some (.loop r):=Fh.same l2 _ hl2 Hr rfl;have hWc:W'.heap.size≤wc.heap.size:=Fh.size;obtain ⟨C6,L6,V6,hV6,hE6,hf6⟩:=B6.bP;obtain rfl:V=V6:=hE6;have Tj:=Qx (Pc:=Vo) (n - 1 - 1 - 1) om X (fun _=>False) dF v W5.heap.size (W5.heap.size+1) (x.number%32768) V C6 L6 wc hV6 B6.b1 B6.b0 (qp _ om) (hf6 _ (List.Mem.head _)) hgx (Gx V.C (x.number%32768));have B7:=ah (B6.sub (cs:=[(W.heap.size,.cells #[.func (.yield l) #[] #[]] 244 (0,0)),(bv,.cells #[.pointer (some ⟨v,0,none⟩)] 82 (0,0))]) sm);have hlx:(tX V pre).length≤33*31:=om
   clear B6 B5 hwc Hc Hm d0 d1 hJ5 hV6 hf6 GI hKF hK5' Hr hbl
   gi_wp2
   refine wpIn_rangeFunc_ownN (l₀:=l2) (r₀:=r) rfl hr6 om (gf:=182) (lb:= #[.pointer (some ⟨W5.heap.size,0,none⟩),.pointer (some ⟨W5.heap.size+1,0,none⟩)]) rfl trivial (enters_of Tryz.func182 kr rfl)
    (Tj.inRound l2) (fun h k=>aT.trans (R:=dF) (fun _ _ _ a b=>sQ a b) h k) (fun W l o o' _ hl hc _=>aT.turn (R:=dF) (fun _=>rfl) W l o o' hl hc id) (bG _ _) (fun _=>rfl)
    (fun ip W7=>J (tX V pre++x :: ip) W7∧lJ X v [(W.heap.size,.cells #[.func (.yield l) #[] #[]] 244 (0,0)),(bv,.cells #[.pointer (some ⟨v,0,none⟩)] 82 (0,0))] (dF V) W7∧KeepsFrom W4.heap.size W' W7∧aT X (fun _=>False) v dF W' W7)
    (fun c ip W7=>c= .ret∧Jx (tX V pre++x :: ip) W7∧KeepsFrom W4.heap.size W' W7)
    (fun s A B row hs hg hr=>⟨hJ _ _ _ _ hs.1 hg (fun r e=>⟨by have:=(hr r e).1;omega,(hr r e).2⟩),hs.2.1.pO hg (fun r e=>(hr r e).2),ownFrom_keepsFrom (β:=Unit) hWc () A B row hs.2.2.1 hg hr,ajh (R:=dF) (fun _=>rfl) (fun _ _ _ a b=>sQ a b) (β:=Unit) () A B row hs.2.2.2 hg hr⟩)
    (fun c s A B row hs hg hr=>⟨hs.1,hJx _ _ _ _ hs.2.1 hg (fun r e=>⟨by have:=(hr r e).1;omega,(hr r e).2⟩),ownFrom_keepsFrom (β:=Unit) hWc () A B row hs.2.2 hg hr⟩)
    ⟨hJ6,uh B7,Fh,hK6⟩
    (fun y a'' W7=> ∃ bx2,W7.heap[bx2]? = some (.cells #[.int .i64 ((y.table:Nat):Int),.int .i64 ((y.index:Nat):Int),.int .u16 ((y.number:Nat):Int)] 219 (0,0))∧a''={ tmps:= #[.func (.yield l) #[] #[],.pointer (some ⟨bv,0,none⟩),.pointer (some ⟨bt,0,none⟩),.pointer (some ⟨W.heap.size,0,none⟩),.pointer (some ⟨bx,0,none⟩),.pointer (some ⟨bx2,0,none⟩),.pointer (some ⟨v,0,none⟩),.int .i64 (first:Nat),.func (.func 182) #[] #[.pointer (some ⟨W.heap.size+1,0,none⟩),.pointer (some ⟨W.heap.size+1+1,0,none⟩)],oh x,.func (.yield l) #[] #[],.agg #[.int .i64 ((x.table:Nat):Int),.int .i64 ((x.index:Nat):Int),.int .u16 ((x.number:Nat):Int)],.bool true,.bool false,u14,u15,u16,u17,.func (.func 182) #[] #[.pointer (some ⟨W5.heap.size,0,none⟩),.pointer (some ⟨W5.heap.size+1,0,none⟩)],oh y,u20,u21,u22,u23],defers:=[] })
    (fun y a'' _ A' B' row hs hg hr=>by
     obtain ⟨bx2,h2,h3⟩:=hs;refine ⟨bx2,?_,h3⟩;rw [hg.block bx2 (aO h2) (fun e=>by
      obtain ⟨_,o,ho,hc⟩:=hr bx2 e.symm;rw [h2] at ho;injection ho with ho;subst ho;cases hc)]
     exact h2)
    ?assign2 ?body2 ?done2 ?stop2
   case assign2=>
    rintro l3 ip y W7 K ⟨g1,g2,g3,g4⟩ hK;unfold oh
    gi_wp2
    have hb:aC W7 (W7.alloc (.cells #[.int .i64 ((y.table:Nat):Int),.int .i64 ((y.index:Nat):Int),.int .u16 ((y.number:Nat):Int)] 219)):=fC;exact hK _ _ ((KeepsOthers.alloc _ _).from _) (aT.below (R:=dF) (fun _=>rfl) hb) ⟨hJ.alloc _ g1,g2.below hb,g3.trans ((KeepsOthers.alloc _ _).from _),aT.trans (R:=dF) (fun _ _ _ a b=>sQ a b) g4 (aT.below (R:=dF) (fun _=>rfl) hb)⟩ ⟨_,aW _ _,rfl⟩
   case stop2=>
    rintro c ip W7 hSp ⟨rfl,g1,g2⟩
    gi_wp2
    exact ⟨g2,rfl,tX V pre++x :: ip,by
     rw [aa5];obtain ⟨rr,hrr⟩:=hSp;exact ⟨rr,by rw [← hrr];simp⟩,g1⟩
   case done2=>
    rintro ip W7 hS ⟨g1,g2,g3,g4⟩
    gi_wp2
    refine ⟨g3,g4,?_,g2⟩;rw [aa5,← hS];exact g1
   case body2=>
    rintro l3 ip y a'' W7 hl3 _ ⟨g1,g2,g3,g4⟩ ⟨bx2,hbx2,rfl⟩ hlen2;have e0:W7.cell? ⟨W.heap.size,0,none⟩=some (.func (.yield l) #[] #[]):=(aG g2.b0 0).trans rfl;have e1:W7.cell? ⟨bx2,0,none⟩=some (.int .i64 ((y.table:Nat):Int)):=(aG hbx2 0).trans rfl;have e2:W7.cell? ⟨bx2,1,none⟩=some (.int .i64 ((y.index:Nat):Int)):=(aG hbx2 1).trans rfl;have e3:W7.cell? ⟨bx2,2,none⟩=some (.int .u16 ((y.number:Nat):Int)):=(aG hbx2 2).trans rfl;have hap:tX V pre++x :: (ip++[y])=(tX V pre++x :: ip)++[y]:=sm;obtain ⟨fn3,adu,aad,body3,hy3,hR3⟩:=QX (m':=n - 1 - 1 - 1 - 1 - 1) (hY (tX V pre++x :: ip) y W7 g1 (by rw [oO,iQ];omega));have hy3':(Instr.yield l #[.agg #[.int .i64 ((y.table:Nat):Int),.int .i64 ((y.index:Nat):Int),.int .u16 ((y.number:Nat):Int)]]).run Tryz.prog W7= .ok (.round l fn3 adu aad body3) W7:=hy3;have G2:=ah g2;have G3:=ah g3;have G4:=ah g4;clear hy3 g1 g2 g3 g4 hbx2 Tj B7 hJ6 Fh hK6 hr6
    gi_wp2_with fail
    refine ⟨fun _=>om,Ri hR3 ?_⟩;rintro e W8 ⟨hK8,(⟨rfl,hJ8⟩ | ⟨rfl,S9⟩)⟩
    ·have GH: ∀ b,B≤b→KeepsFrom b W7 W8:=fun b hb=>⟨hK8.1,fun k o hB hk ho=>hK8.2.1 k o hk ho om⟩;have hK8':aT X (fun _=>False) v dF W7 W8:=hK8.OC (Y':=fun _=>False) (fun _ h=>False.elim h);have f1:=GH wc.heap.size om;have f2:=G2.wU (fun _ _ a b=>sQ a b) hK8;have f3:=G3.trans (GH W4.heap.size om);have f4:=aT.trans (R:=dF) (fun _ _ _ a b=>sQ a b) G4 hK8';rw [← hap] at hJ8
     gi_wp2
     exact ⟨f1,hK8',hJ8,f2,f3,f4⟩
    ·have GH: ∀ b,B≤b→KeepsFrom b W7 W8:=fun b hb=>⟨hK8.1,fun k o hB hk ho=>hK8.2.1 k o hk ho om⟩;have f1:=GH wc.heap.size om;have f3:=G3.trans (GH W4.heap.size om);rw [← hap] at S9
     gi_wp2
     exact ⟨f1,rfl,S9,f3⟩
 case done=>
  rintro D ys W' hD hS ⟨Ed,_⟩ hK
  gi_wp2
  refine ⟨sm,.inl ⟨_,_,rfl,run_takeDeferred hK,?_⟩⟩;refine ⟨_,CJ rfl _ _ _,⟨_,rfl⟩,.inl ⟨_,?_,hJ.putObj _ Ed om hK rfl⟩⟩;rw [hS];rfl
 case stop=>
  rintro D c pre W' hD hSp ⟨rfl,tot,h1,h2⟩ hK
  gi_wp2
  refine ⟨sm,.inl ⟨_,_,rfl,run_takeDeferred hK,?_⟩⟩;exact ⟨_,CJ rfl _ _ _,⟨_,rfl⟩,.inr ⟨tot,h1.trans (aoD hSp),hJx.putObj _ h2 om hK rfl⟩⟩
end
section
open Go.RowKit Go.Shelf
attribute [local go_sem ↓] dw fP fZ kS mP mV jJ kJ jY jU lD lH kQ ku kT mQ mW lZ ny jG qc qP qQ qF xM EF EI ED DZ
attribute [local go_sem] dK fO fV gK gy aV kX mG mM mJ mF gI jK kH jX kZ kW iJ jW lq lC lu kF jc jd lY l7 kG kY mO nI lT mD nH qh qM qO qN qL xX Ey EC Ez Ew Dz
attribute [local go_sem] pW pV Oper.semAt_some
attribute [local go_sem ↓] IV Jl
attribute [local go_sem] I9 Jb Ja
theorem agF {Pc:Nat→Prop} (n:Nat) (hn:10≤n) (X:Nat→Prop) (v bv B:Nat) (V:aB) (Cv Lv:Value) (w:World) (hV:aN w v Cv Lv V)
  (hbv:w.heap[bv]? = some (.cells #[.pointer (some ⟨v,0,none⟩)] 82 (0,0))) (GN: ¬ X bv) (hfv: ¬ eX v Cv Lv bv)
  (Eh: ∀ k,X k→k<w.heap.size) (h5:5<V.C.length) (hP: ∀ t ∈ bK V,Pc t):
  Px n 173 #[.pointer (some ⟨bv,0,none⟩)] (fun x:UM Pc=> #[Value.int .i64 ((x.1:Nat):Int)]) (aT X (fun k=>B≤k) v bH) (fun ys=>ys.map (·.1)=bK V) (fun pre=>pre.map (·.1) <+: bK V) 5 B w:=by
 intro l J Jx W hW hBW hJ hJx hY h0;have B0:lJ X v [(bv,.cells #[.pointer (some ⟨v,0,none⟩)] 82 (0,0))] (bH V) W:=by
  refine ⟨⟨Cv,Lv,V,hV.below hW,bH.refl V,?_⟩,?_,?_,?_⟩
  ·intro x hx;simp only [dD,jM,jO] at hx;subst hx;exact hfv
  ·intro x hx;simp only [dD,jM,jO] at hx;subst hx;exact (hW.block _ (aO hbv)).trans hbv
  ·intro x hx;simp only [dD,jM,jO] at hx;subst hx;rfl
  ·intro x hx;simp only [dD,jM,jO] at hx;subst hx;exact GN
 have qp: ∀ k,W.heap.size≤k→ ¬ X k:=fun k hk hx=>by have:=Eh _ hx;have:=hW.size;omega
 have c1:W.cell? ⟨bv,0,none⟩=some (.pointer (some ⟨v,0,none⟩)):=(aG B0.b0 0).trans rfl;have Hh:=ah (IJ W v Cv Lv V (hV.below hW) om);have hP0:Pc (num (cl V.C 0) 6):=hP _ (by simp [bK]);have B0:=ah B0;refine Zf Tryz.func173 rfl trivial ?_ rfl;simp only [Tryz.ntmps173,iR,iQ,vk,Nat.reduceAdd,Nat.reduceSub,A8,Ba,Bc,Bd,ql,sO]
 gi_wp2_with fail
 refine ⟨trivial,fun _=>om,(eY.2 Hh).mono ?_⟩;rintro e W1 ⟨rfl,hb1⟩;have B1:=B0.below hb1;have hJ1:J [] W1:=hJ [] W W1 none h0 ⟨hb1.os,hb1.tape,hb1.output,hb1.size,fun k hk _=>hb1.block k hk⟩ (fun r e=>by cases e);obtain ⟨fn,tmps,assign,body,hy,hR⟩:=hY [] ⟨num (cl V.C 0) 6,hP0⟩ W1 hJ1 sm;dsimp only at hy;have B1:=ah B1;have hw1:=hb1.size;clear Hh B0 hb1 h0 c1 hbv
 gi_wp2_with fail
 refine ⟨fun _=>om,hR.mono ?_⟩;rintro e W3 ⟨hK3,(⟨rfl,hJ3⟩ | ⟨rfl,hJx3⟩)⟩
 rotate_left
 ·gi_wp2
  refine gV (CJ rfl _ _ _) rfl ?_;exact ⟨⟨_,rfl⟩,.inr ⟨_,⟨zZ V.C,rfl⟩,hJx3⟩⟩
 have B3:=B1.wU (fun _ _ a b=>bH.trans a b) hK3;obtain ⟨C3,L3,V3,hV3,hS3,hf3⟩:=B3.bP;have c3:W3.cell? ⟨bv,0,none⟩=some (.pointer (some ⟨v,0,none⟩)):=(aG B3.b0 0).trans rfl;have hs3:W.heap.size≤W3.heap.size:=by have:=hK3.1;omega
 have Hl:=ah (J6 W3 v C3 L3 V3 hV3 (by rw [hS3.len];exact h5));rw [hS3.low 5 om] at Hl;have hel:=Df (cl V.C 5);have B3:=ah B3;have HJ3:=ah hJ3;clear hR hy hJ1 B1 hK3 hJ3 hV3 hf3
 gi_wp2_with fail
 refine ⟨trivial,fun _=>om,(eY.2 Hl).mono ?_⟩;rintro e W4 ⟨rfl,hb4⟩;have hs4:W.heap.size≤W4.heap.size:=by have:=hb4.size;omega
 have B4:=(B3.below hb4).lay (.cells (lv (aY (cl V.C 5))).toArray 144) rfl (qp _ hs4);have hJ4:J [⟨num (cl V.C 0) 6,hP0⟩] (W4.alloc (.cells (lv (aY (cl V.C 5))).toArray 144)):=hJ.alloc _ (hJ _ W3 W4 none HJ3 ⟨hb4.os,hb4.tape,hb4.output,hb4.size,fun k hk _=>hb4.block k hk⟩ (fun r e=>by cases e));have B4:=ah (B4.sub (cs:=[(W4.heap.size,.cells (lv (aY (cl V.C 5))).toArray 144 (0,0))]) sm);have l1:=fD B4.b0 (n:=8) (by rw [dW,hel]);have l2:=fG B4.b0 (n:=8) (by rw [dW,hel]);have Hn:=ah (NT (W4.alloc (.cells (lv (aY (cl V.C 5))).toArray 144)) (aY (cl V.C 5)) hel);have hl4:=zU (aY (cl V.C 5));have HJ4:=ah hJ4;have QY:zl.length=4:=rfl;have Ee: ∀ k,k<lenOf (aY (cl V.C 5))→Pc ((aY (cl V.C 5)).getD k ze).first:=fun k hk=>hP _ (MP _ (ajo V.C k hk));have hfo:bK V=num (cl V.C 0) 6 :: ((aY (cl V.C 5)).take (lenOf (aY (cl V.C 5)))).map (·.first):=rfl;have KY:=ah hfo;clear Hl HJ3 B3 hb4 c3 hJ4 hP hfo
 generalize aY (cl V.C 5)=E at*
 gi_wp2_with fail
 refine ⟨trivial,fun _=>om,(eY.2 Hn).mono ?_⟩;rintro e W5 ⟨rfl,hb5⟩;have B5:=ah (B4.below hb5);have HJ5:Hid (J [⟨num (cl V.C 0) 6,hP0⟩] W5):=hJ _ _ W5 none HJ4 ⟨hb5.os,hb5.tape,hb5.output,hb5.size,fun k hk _=>hb5.block k hk⟩ (fun r e=>by cases e);clear Hn HJ4 B4 l1 l2 hb5;generalize hL0:lenOf E=L0 at*;have Fv:(L0:Int)≤4:=om
 gi_wp2
 gi_loopw [5,18] (fun _ i wr=> ∃ (k:Nat) (ys:List (UM Pc)),k≤L0∧i= .int .i64 k∧lJ X v [(W4.heap.size,.cells (lv E).toArray 144 (0,0))] (bH V) wr∧ys.map (·.1)=(E.take k).map (·.first)∧ys.length=k∧J (⟨num (cl V.C 0) 6,hP0⟩ :: ys) wr) (fun _ i _=>L0 - (intOf i).toNat)
 case atStart=>exact ⟨0,[],om,rfl,uh B5,rfl,rfl,uh HJ5⟩
 case round=>
  obtain ⟨k,ys,hk,rfl,hB,hys,hyl,BK⟩:=hrel;clear B5 HJ5
  by_cases hlt:k<L0
  ·have hki:(k:Int)<(L0:Int):=om;have yF:k<E.length:=om;have l1:=sV (n:=2) (Fe hB.b0 k yF) rfl;have l2:=qX (n:=2) (Fe hB.b0 k yF) rfl;have hpk:=Ee k om;have htk:(E.take (k+1)).map (·.first)=(E.take k).map (·.first)++[(E.getD k ze).first]:=by
    rw [yU yF,rE,aK,bI yF];rfl
   have VE:=ah htk;generalize E.getD k ze=p at*;have SY:J (⟨num (cl V.C 0) 6,hP0⟩ :: ys) (wr.alloc (.cells (ev p).toArray 142)):=hJ.alloc _ BK;have hBa:=ah (hB.below ((bG _ _).alloc (aP _) (.cells (ev p).toArray 142)));have c5:(wr.alloc (.cells (ev p).toArray 142)).cell? ⟨wr.heap.size,1,none⟩=some (.int .i64 (p.first:Nat)):=(vX wr _ _ _ 1).trans rfl;obtain ⟨fn2,Ox,assign2,body2,hy2,hR2⟩:=hY _ ⟨p.first,hpk⟩ _ SY (by simp;omega);dsimp only at hy2;clear htk BK SY hB;generalize p.first=pf at*
   gi_wp2
   refine ⟨fun _=>om,hR2.mono ?_⟩;rintro e W6 ⟨hK6,(⟨rfl,hJ6⟩ | ⟨rfl,aoU⟩)⟩
   rotate_left
   ·gi_wp2
    refine gV (CJ rfl _ _ _) rfl ?_;refine ⟨⟨_,rfl⟩,.inr ⟨_,?_,aoU⟩⟩;rw [uh KY];refine ⟨((E.take L0).drop (k+1)).map (·.first),?_⟩;have hsplit:(E.take L0).map (·.first)=(E.take (k+1)).map (·.first)++((E.take L0).drop (k+1)).map (·.first):=by
     rw [← rE,show E.take (k+1)=(E.take L0).take (k+1) by rw [List.take_take];congr 1;omega,KJ]
    rw [hsplit,uh VE,sO,jC,rE,hys]
    simp
   have B6:=ah (hBa.wU (fun _ _ a b=>bH.trans a b) hK6);clear hK6 hBa hR2 hy2
   gi_wp2
   go_roundw
   case rel=>exact ⟨k+1,ys++[⟨pf,hpk⟩],om,gn,uh B6,by rw [uh VE,rE,hys];rfl,by simp;omega,by rw [sO] at hJ6;exact hJ6⟩
   case measure=>exact cO
  ·have xK:k=L0:=om;subst xK
   gi_wp2
   go_end0
   exact ⟨⟨_,rfl⟩,.inl ⟨_,by rw [uh KY,jC,hys],BK⟩⟩
end
section
open Go.RowKit Go.Shelf
attribute [local go_sem ↓] dw fP fZ kS mP mV jJ kJ jY jU lD lH kQ ku kT mQ mW lZ ny jG qc qP qQ qF
attribute [local go_sem] dK fO fV gK gy aV kX mG mM mJ mF gI jK kH jX kZ kW iJ jW lq lC lu kF jc jd lY l7 kG kY mO nI lT mD nH qh qM qO qN qL
attribute [local go_sem] pW pV Oper.semAt_some
attribute [local go_sem ↓] VO
attribute [local go_sem] Yd
def xY {Pc:Nat→Prop} (s:mY Pc):mX:=⟨s.table,s.index,s.number⟩
theorem akm (C:List aj) (t:Nat): ∀ m k,nX C t (m+1) k=nX C t m k++(if nm C t (k+m)=0 then [] else [⟨t,k+m,nm C t (k+m)⟩])
 | 0,k=>by rw [nX,nX,nX,rU,ql,jL]
 | m+1,k=>by
  rw [nX,akm C t m (k+1),nX,uG,show k+1+m=k+(m+1) by omega]
theorem akq {Pc:Nat→Prop} (C:List aj) (t:Nat) (hT: ∀ i,DU Pc ((numsOf (cl C t)).getD i 0)): ∀ k hk,(sJ t (numsOf (cl C t)) hT k hk).map xY=nX C t k 0
 | 0,_=>rfl
 | k+1,hk=>by
  have ih:=akq C t hT k om;have hg:=uT (cl C t) k om;rw [akm,qR]
  by_cases h0:nm C t k=0
  ·rw [UD t _ hT k hk (by rw [hg];exact h0),ih,au h0,rU]
  ·rw [UC t _ hT k hk (by rw [hg];exact h0),rE,ih,ak h0]
   congr 1
   show [(⟨t,k,(numsOf (cl C t)).getD k 0⟩:mX)]=_;rw [hg]
theorem Yw {Pc:Nat→Prop} (V:aB) (t:Nat) (hT:Ai Pc V.C t):(uY V t hT).map xY=nX V.C t 32 0:=akq V.C t hT 32 (aP _)
def under (C:List aj) (s:mX):List mX:=s :: nX C (s.number%32768) 32 0
theorem adv (C:List aj) (t:Nat): ∀ m i,jg C t m i=(nX C t m i).flatMap (under C)
 | 0,_=>rfl
 | m+1,i=>by
  have e1:jg C t (m+1) i=(if nm C t i=0 then [] else under C ⟨t,i,nm C t i⟩)++jg C t m (i+1):=rfl;have e2:nX C t (m+1) i=(if nm C t i=0 then [] else [⟨t,i,nm C t i⟩])++nX C t m (i+1):=rfl;rw [e1,e2,adv C t m (i+1),Rl]
  by_cases h0:nm C t i=0
  ·rw [au h0,au h0,OU]
  ·rw [ak h0,ak h0,qA,OU,rU]
theorem akJ (V:aB) (first:Nat) (h:gJ V first):(FQ V first h).map xY=jg V.C first 32 0:=by
 have hf:(fun s:mY (qW V)=>(Am s :: uY V (s.number%32768) s.hc.2).map xY)=fun s=>under V.C (xY s):=by
  funext s
  rw [jC,Yw V _ s.hc.2];rfl
 rw [adv,← Yw V first h.2];unfold FQ pG;rw [List.map_flatMap,List.flatMap_map,hf]
theorem agY (V:aB) (first:Nat):(YM V first).map xY=jg V.C first 32 0:=by
 have hf:(fun s:Gl=>(s :: uY V (s.number%32768) (Gx V.C (s.number%32768))).map xY)=fun s=>under V.C (xY s):=by
  funext s
  rw [jC,Yw V _ (Gx V.C _)];rfl
 rw [adv,← Yw V first (Gx V.C first)];unfold YM tX;rw [List.map_flatMap,List.flatMap_map,hf]
def sZ {Pc:Nat→Prop} (ss:List (mY Pc)):List mX:=ss.map xY
theorem ac6 {Pc:Nat→Prop} (ss:List (mY Pc)) (s:mY Pc):sZ (ss++[s])=sZ ss++[xY s]:=by simp [sZ]
def AY (C:List aj) (fs:List Nat):List mX:=fs.flatMap fun f=>jg C f 32 0
theorem aus (C:List aj) (fs:List Nat) (f:Nat):AY C (fs++[f])=AY C fs++jg C f 32 0:=by simp [AY]
theorem aur {C:List aj} {a b:List Nat} (h:a <+: b):AY C a <+: AY C b:=by
 obtain ⟨r,rfl⟩:=h;exact ⟨AY C r,by simp [AY]⟩
theorem agB {p:mX→Bool} {a b:List mX} {s:mX} (h:a <+: b) (hf:a.find? p=some s):b.find? p=some s:=by
 obtain ⟨r,rfl⟩:=h;rw [Rq,hf];rfl
structure xB (w W:World) (v bc:Nat) (k:List UInt8) (r:Value):Prop where
 below:aC w W
 bv:W.heap[w.heap.size]? = some (.cells #[.pointer (some ⟨v,0,none⟩)] 82 (0,0))
 br:W.heap[w.heap.size+1]? = some (.cells #[r] 98 (0,0))
 bk:W.heap[bc]? = some (.cells (cv k).toArray 123 (0,0))
 lo:w.heap.size+2≤bc
theorem xB.later {w W W':World} {v bc:Nat} {k:List UInt8} {r:Value} (h:xB w W v bc k r) (hb:aC W W'):xB w W' v bc k r:=
 ⟨h.below.trans (hb.mono h.below.size),(hb.block _ (aO h.bv)).trans h.bv,(hb.block _ (aO h.br)).trans h.br,(hb.block _ (aO h.bk)).trans h.bk,h.lo⟩
theorem xB.pO {w W W':World} {v bc B:Nat} {k:List UInt8} {r:Value} {row:Option Nat} (h:xB w W v bc k r) (hB:bc<B) (hg:W.grownBy W' row) (hr: ∀ r,row=some r→B≤r∧ ∃ o:Obj,W.heap[r]? = some o∧o.isCells=false):xB w W' v bc k r:=by
 have:=h.lo
 exact ⟨Sm h.below hg (fun r e=>by have:=(hr r e).1;omega),rX hg hr h.bv om,rX hg hr h.br om,rX hg hr h.bk om,h.lo⟩
theorem xB.put {w W:World} {v bc:Nat} {k:List UInt8} {r:Value} (h:xB w W v bc k r) (x:Value):xB w (W.setCell ⟨w.heap.size+1,0,none⟩ x) v bc k x:=by
 have hk:=Kept.only W (w.heap.size+1) 0 x
 have:=h.lo
 refine ⟨?_,hk.aF om h.bv,?_,hk.aF om h.bk,h.lo⟩
 ·exact ⟨hk.os.trans h.below.os,hk.tape.trans h.below.tape,hk.output.trans h.below.output,jZ h.below.size hk.size,fun i hi=>by
   rw [hk.block i (iZ hi h.below.size) om];exact h.below.block i hi⟩
 ·rw [heap_setCell_same _ _ _ _ _ _ _ h.br];rfl
theorem Xf {w:World} {b:Nat} {x:Value} {t:TypeId} {fr:Nat × Nat} (h:w.heap[b]? = some (.cells #[x] t fr)):(loadVar 98 ⟨b,0,none⟩).run Tryz.prog w= .ok x w:=by
 have c:w.cell? ⟨b,0,none⟩=some x:=(aG h 0).trans rfl;simp [go_sem,c]
end
end Go.Proofs.YtknjjjenklfeoaaGreatDoor
