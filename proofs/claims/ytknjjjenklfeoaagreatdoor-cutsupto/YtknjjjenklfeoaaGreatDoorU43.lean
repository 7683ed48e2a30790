import Derived.Test.YtknjjjenklfeoaaGreatDoorU42
set_option maxHeartbeats 8000000
set_option maxRecDepth 100000
set_option linter.all false
namespace Go.Proofs.YtknjjjenklfeoaaGreatDoor
section
open Go.RowKit Go.Shelf
def agA {α:Type} (G:α→Prop) (n gf:Nat) (lb:Array Value) (f:α→Array Value) (h:World→World→Prop) (S i:List α→Prop) (N B:Nat) (w:World):Prop:=
 ∀ (l:Nat) (J c:List α→World→Prop) (W:World),aC w W→B≤W.heap.size→OwnFrom W.heap.size J→OwnFrom W.heap.size c→(∀ pre x b,J (pre++[x]) b→G x)→
  (∀ pre x d,J pre d→pre.length<N→YieldAt Fence.wide (n - 1) Tryz.prog l (f x) d fun e b=>h d b∧((e= .returned (.bool true)∧J (pre++[x]) b)∨(e= .returned (.bool false)∧c (pre++[x]) b)))→
  J [] W→CallsIn Fence.wide n Tryz.prog gf (#[.func (.yield l) #[] #[]]++lb) W fun e b=>(∃ v,e= .returned v)∧((∃ xs,S xs∧J xs b)∨ ∃ pre,i pre∧c pre b)
section
variable {α:Type} {g:Operand} {ps:Array Tmp} {assign body:Code} {Q:Exit→Act→World→Prop} {a:Act} {w:World} {n:Nat}
def auG {G:α→Prop} {l₀:Nat} {r₀:Loop} (an:w.heap[l₀]? = some (.loop r₀)) (h1:1≤n) {gf:Nat} {lb:Array Value} (hg:a.eval g= .func (.func gf) #[] lb) (eg: ∀ args w,(callFunc gf args).run Tryz.prog w= .ok (.enter gf args) w)
  {H:α→Array Value} {m:World→World→Prop} {S Sp:List α→Prop} {N:Nat} {U:World} (af:agA G (n - 1) gf lb H m S Sp N (w.heap.size+1) U)
  (u: ∀ A B C:World,m A B→m B C→m A C) (M: ∀ (W:World) (o o':Obj),W.heap[w.heap.size]? = some o→o.isCells=false→m W (W.putObj w.heap.size o')) (Z:aC U w) (ao: ∀ x,(H x).size=ps.size)
  (I D:List α→World→Prop) (aq: ∀ pre x W,I (pre++[x]) W→G x) (E:OwnFrom w.heap.size I) (O:OwnFrom w.heap.size D) (h0:I [] w) (V:α→Act→World→Prop) (ar: ∀ x i,OwnFrom w.heap.size (fun (_:Unit) W=>V x i W))
  (aa: ∀ (l:Nat) (pre:List α) (x:α) (W:World) (K:Act→World→Prop),I pre W→(∀ i F,KeepsFrom w.heap.size W F→m W F→I pre F→V x i F→K i F)→
   assign.wpIn (Fence.wide.inRound l) (n - 1 - 1) Tryz.prog (Exit.then K (fun _ _ _=>False)) { tmps:=(ps.zip (H x)).foldl (fun t (p,v)=>t.setIfInBounds p v) a.tmps,defers:=[] } W)
  (ab: ∀ (l:Nat) (pre:List α) (x:α) (i:Act) (W:World),w.heap.size≤l→(∃ r,W.heap[l]? = some (.loop r))→I pre W→V x i W→pre.length<N→body.wpIn (Fence.wide.inRound l) (n - 1 - 1) Tryz.prog (abx w.heap.size m I D (pre++[x]) W) i W)
  (ad: ∀ (xs:List α) (W:World),S xs→I xs W→Q .normal a W)
  (ae: ∀ (pre:List α) (W:World),Sp pre→D pre W→Code.ret.wpIn (Fence.wide.inRound l₀) n Tryz.prog Q a W):
  (Code.rangeFunc g ps assign body).wpIn (Fence.wide.inRound l₀) n Tryz.prog Q a w:=by
 refine wpIn_rangeFunc fun fn av=> ?_;obtain ⟨rec,c⟩: ∃ rec:LoopState→Option Code→Loop,rec=fun st pe=>{ state:=st,pending:=pe,fn,tmps:=a.tmps,params:=ps,assign,body,defers:=r₀.defers }:=⟨_,rfl⟩
 let d:=w.heap.size
 let b:=w.alloc (.loop (rec .ready none))
 have aw:b.heap[d]? = some (.loop (rec .ready none)):=aX w _;have ax:I [] b:=E.alloc _ h0;have a0:b.heap.size=d+1:=by simp [b,d]
 have az:aC U b:=Z.trans (((bG _ w).alloc (aO _) _).mono Z.size);refine ⟨d,[],b,{ target:= .fn (.func gf) lb,args:= #[.func (.yield d) #[] #[]] },b,gf,#[.func (.yield d) #[] #[]]++lb,b,?_,?_,fun _ _=>trivial,?_,fun _=>h1,?_⟩
 ·show (Instr.enterLoop fn a.tmps ps assign body (some l₀)).run Tryz.prog w=_;rw [run_enterLoop_inner an];simp only [b,c,d]
 ·simp only [resolve,hg];simp [go_sem]
 ·simp [invoke,go_sem,eg]
 have hJ:OwnFrom b.heap.size (fun (pre:List α) W=>I pre W∧W.heap[d]? = some (.loop (rec .ready none))):=fun s A B row hs y hr=>
  ⟨E s A B row hs.1 y (fun r e=>⟨by have:=(hr r e).1;omega,(hr r e).2⟩),sQ y hr hs.2 om⟩
 have aD:OwnFrom b.heap.size (fun (pre:List α) W=>D pre W∧W.heap[d]? = some (.loop (rec .done (some .ret)))):=fun s A B row hs y hr=>
  ⟨O s A B row hs.1 y (fun r e=>⟨by have:=(hr r e).1;omega,(hr r e).2⟩),sQ y hr hs.2 om⟩
 refine (CallsIn.inRound l₀ (af d (fun pre W=>I pre W∧W.heap[d]? = some (.loop (rec .ready none))) (fun pre W=>D pre W∧W.heap[d]? = some (.loop (rec .done (some .ret)))) b az om hJ aD (fun pre x W h=>aq pre x W h.1) ?_ ⟨ax,aw⟩)).mono ?_
 ·rintro pre x W ⟨hi,q⟩ hlen;have hy:=run_yield (P:=Tryz.prog) (args:=H x) q (by rw [c];exact ao x);rw [c] at hy;refine ⟨fn,_,assign,body,hy,roundIn_of_wpIn av (aa d pre x W _ hi fun i J GH ag aE aL=> ?_)⟩;have z:=GH.same _ _ (aO _) q rfl;refine ⟨_,run_beginRound z (by rw [c]),?_⟩;have ai:(J.putObj d (.loop { rec .ready none with state:= .busy })).heap[d]? = some (.loop { rec .ready none with state:= .busy }):=World.putObj_heap_same (aK z);have al:m J (J.putObj d (.loop { rec .ready none with state:= .busy })):=M _ _ _ z rfl;refine Wv (ab d pre x i _ (aO _) ⟨_,ai⟩ (E.putObj _ aE (aO _) z rfl) ((ar x i).putObj (s:=()) _ aL (aO _) z rfl) hlen) ?_;have fin: ∀ (jump:Option Code) (k:World),KeepsFrom d (J.putObj d (.loop { rec .ready none with state:= .busy })) k→
    (Instr.endRound d jump).run Tryz.prog k= .ok (.bool jump.isNone) (k.putObj d (.loop (rec (if jump.isNone then .ready else .done) jump)))∧
    k.heap[d]? = some (.loop { rec .ready none with state:= .busy })∧
    (k.putObj d (.loop (rec (if jump.isNone then .ready else .done) jump))).heap[d]? = some (.loop (rec (if jump.isNone then .ready else .done) jump)):=fun jump k aM=>by
   have f:=aM.same _ _ (aO _) ai rfl
   have:=run_endRound (P:=Tryz.prog) jump f
   rw [c] at this ⊢;exact ⟨this,by rw [c] at f;exact f,World.putObj_heap_same (aK f)⟩
  rintro e a3 k j;cases e with
  | normal=>
   obtain ⟨X,L,R⟩:=j;obtain ⟨hr,f,T⟩:=fin none k X;exact ⟨_,_,hr,u _ _ _ ag (u _ _ _ al (u _ _ _ L (M _ _ _ f rfl))),.inl ⟨rfl,E.putObj _ R (aO _) f rfl,T⟩⟩
  | ret=>
   obtain ⟨X,L,R⟩:=j;obtain ⟨hr,f,T⟩:=fin (some .ret) k X;exact ⟨_,_,hr,u _ _ _ ag (u _ _ _ al (u _ _ _ L (M _ _ _ f rfl))),.inr ⟨rfl,O.putObj _ R (aO _) f rfl,T⟩⟩
  | exit id=>exact j.elim
  | goto t=>exact j.elim
  | panic ch=>exact j.elim
  | outgrown=>exact j.elim
 ·rintro e W2 ⟨⟨v,rfl⟩,(⟨xs,hS,hi,q⟩ | ⟨pre,aR,hi,q⟩)⟩
  ·have Y:(rec .ready none).state≠ .busy:=by rw [c];simp
   have j:(rec .ready none).pending=none:=by rw [c]
   refine ⟨_,_,run_endLoop q Y,?_⟩;rw [j];exact ad xs _ hS (E.putObj _ hi (aO _) q rfl)
  ·have Y:(rec .done (some .ret)).state≠ .busy:=by rw [c];simp
   have j:(rec .done (some .ret)).pending=some .ret:=by rw [c]
   refine ⟨_,_,run_endLoop q Y,?_⟩;rw [j];exact ae pre _ aR (O.putObj _ hi (aO _) q rfl)
end
attribute [local go_sem ↓] dw fP fV kU mZ nC jR kP kJ kF lG lI kR kQ kV ng nD l9 nJ jE pW qM qO qA
attribute [local go_sem] dM fO fU gW gB aV kY mP mW mQ mO gX jT kN kH lq kX iM kG lu lD lC kM jc jd nH nK kW kZ mX nT mV mM nN qc qI qK qJ qH
attribute [local go_sem] pU pR Oper.semAt_some
def WT (_:Nat):Prop:=True
abbrev Ip:=nS WT
def IB (C:List aj) (t:Nat):Bo WT C t:=fun _=>⟨Pm _ _,fun _=>trivial⟩
def uD (V:aB) (b:List Ip):List Ip:=b.flatMap fun s=>s :: vO V (s.number%32768) (IB V.C (s.number%32768))
def Z9 (V:aB) (first:Nat):List Ip:=uD V (vO V first (IB V.C first))
def acG {V:aB} (b:List Ip) (s:Ip):uD V (b++[s])=uD V b++(s :: vO V (s.number%32768) (IB V.C (s.number%32768))):=by simp [uD]
def aqK {V:aB} {a b:List Ip} (h:a <+: b):uD V a <+: uD V b:=by
 obtain ⟨r,rfl⟩:=h;exact ⟨uD V r,by simp [uD]⟩
def aiq (V:aB): ∀ b:List Ip,(uD V b).length≤33*b.length
 | []=>by simp [uD]
 | s :: b=>by
  have c:=aiq V b;have d:=ZK V (s.number%32768) (IB V.C (s.number%32768))
  have:uD V (s :: b)=(s :: vO V (s.number%32768) (IB V.C (s.number%32768)))++uD V b:=by simp [uD]
  rw [this,oL,iO,iO];omega
def awK (n:Nat) (hn:10≤n) (X:Nat→Prop) (v bv H first B:Nat) (V:aB) (Cv Lv:Value) (w:World) (hV:aP w v Cv Lv V)
  (ai:w.heap[bv]? = some (.cells #[.pointer (some ⟨v,0,none⟩)] 82 (0,0))) (al:w.heap[H]? = some (.cells #[.int .i64 (first:Nat)] 3 (0,0))) (OM: ¬ X H) (IJ: ¬ X bv) (ba: ¬ eX v Cv Lv H) (bb: ¬ eX v Cv Lv bv)
  (Fq: ∀ k,X k→k<B) (hF:first<V.C.length):
  agA (fun s:Ip=>s.number%32768<V.C.length) n 174 #[.pointer (some ⟨bv,0,none⟩),.pointer (some ⟨H,0,none⟩)] (fun x:Ip=> #[oK x]) (aT X (fun k=>B≤k) v dK) (fun ys=>ys=Z9 V first) (fun pre=>pre <+: Z9 V first) 1056 B w:=by
 intro l J Jx W hW bN q an hG hY h0;have I: ∀ k,W.heap.size≤k→ ¬ X k:=fun k hk m=>by have:=Fq _ m;omega
 have B0:lZ X v [(bv,.cells #[.pointer (some ⟨v,0,none⟩)] 82 (0,0)),(H,.cells #[.int .i64 (first:Nat)] 3 (0,0))] (dK V) W:=by
  refine ⟨⟨Cv,Lv,V,hV.below hW,rfl,?_⟩,?_,?_,?_⟩
  ·intro x m;simp only [cO,jM,jO] at m;rcases m with rfl | rfl
   ·exact bb
   ·exact ba
  ·intro x m;simp only [cO,jM,jO] at m;rcases m with rfl | rfl
   ·exact (hW.block _ (aK ai)).trans ai
   ·exact (hW.block _ (aK al)).trans al
  ·intro x m;simp only [cO,jM,jO] at m;rcases m with rfl | rfl <;> rfl
  ·intro x m;simp only [cO,jM,jO] at m;rcases m with rfl | rfl
   ·exact IJ
   ·exact OM
 have B1:=B0.lay (.cells #[.func (.yield l) #[] #[]] 244) rfl (I _ (aO _));have aD:J [] (W.alloc (.cells #[.func (.yield l) #[] #[]] 244)):=q.alloc _ h0;have c1:(W.alloc (.cells #[.func (.yield l) #[] #[]] 244)).cell? ⟨bv,0,none⟩=some (.pointer (some ⟨v,0,none⟩)):=(aF B1.b1 0).trans rfl;have c2:(W.alloc (.cells #[.func (.yield l) #[] #[]] 244)).cell? ⟨H,0,none⟩=some (.int .i64 (first:Nat)):=(aF B1.b2 0).trans rfl;have bd:(W.alloc (.cells #[.func (.yield l) #[] #[]] 244)).heap.size=W.heap.size+1:=sm;have ao:aP (W.alloc (.cells #[.func (.yield l) #[] #[]] 244)) v Cv Lv V:=(hV.below hW).alloc _;refine callsIn_of_wp_marks Tryz.func174 rfl trivial ?_ rfl;simp only [Tryz.ntmps174,jm,iO,vV,Nat.reduceAdd,Nat.reduceSub,BX,BZ,Cb,Cc,qy,rU];have Hn:=ah (RF (W.alloc (.cells #[.func (.yield l) #[] #[]] 244)) v first)
 have ae:=(B1.lay (.cells #[.pointer (some ⟨v,0,none⟩)] 82) rfl (I _ om)).lay (.cells #[.int .i64 (first:Nat)] 3) rfl (I _ (by simp;omega));simp only [jV] at ae Hn;have aq:=ah ae;have B4:=ah (ae.sub (cs:=[(W.heap.size,.cells #[.func (.yield l) #[] #[]] 244 (0,0)),(bv,.cells #[.pointer (some ⟨v,0,none⟩)] 82 (0,0))]) sm);have bf:=ah ((Y8 q (C:=W.heap.size) (aO _)).alloc (.cells #[.int .i64 (first:Nat)] 3) (q.alloc (.cells #[.pointer (some ⟨v,0,none⟩)] 82) aD));have aE:=ah ao;have Rf:=fun hf=>ao.qV (W.heap.size+1+1) hf;clear B0 B1 al ai h0 ae aD ao
 gi_wp2_with fail
 refine ⟨trivial,fun _=>om,(fE.2 Hn).mono ?_⟩;rintro e t ⟨rfl,rfl⟩
 gi_wp2_with fail
 generalize ar:((W.alloc (.cells #[.func (.yield l) #[] #[]] 244)).alloc (.cells #[.pointer (some ⟨v,0,none⟩)] 82)).alloc (.cells #[.int .i64 (first:Nat)] 3)=t at*;have aL:aP t v Cv Lv V:=by rw [← ar];exact (aE.alloc _).alloc _
 have bO:t.heap.size=W.heap.size+3:=by rw [← ar];simp
 have II:=RG (Pc:=WT) (n - 1) om X (fun _=>False) dK v (W.heap.size+1) (W.heap.size+1+1) first V Cv Lv t aL aq.b1 aq.b0 (I _ om) (fun hf=>by have:=Rf hf;rw [bd] at this;omega) hF (IB V.C first);clear aq ar aE c1 c2 aL Hn;refine wpIn_rangeFunc_ownH rfl om (gf:=182) (lb:= #[.pointer (some ⟨W.heap.size+1,0,none⟩),.pointer (some ⟨W.heap.size+1+1,0,none⟩)]) rfl trivial (enters_of Tryz.func182 kr rfl) II (fun h k=>aT.trans (R:=dK) (fun _ _ _ a b=>tX a b) h k) (fun W l o o' _ hl hc _=>aT.turn (R:=dK) (fun _=>rfl) W l o o' hl hc id) (bG _ _) (fun _=>rfl)
  (fun pre d=>J (uD V pre) d∧lZ X v [(W.heap.size,.cells #[.func (.yield l) #[] #[]] 244 (0,0)),(bv,.cells #[.pointer (some ⟨v,0,none⟩)] 82 (0,0))] (dK V) d)
  (fun c pre d=>c= .ret∧ ∃ T,T <+: uD V pre∧Jx T d)
  (fun _ _ _ _ hs j hr=>⟨q _ _ _ _ hs.1 j (fun r e=>⟨by have:=(hr r e).1;omega,(hr r e).2⟩),hs.2.qj j (fun r e=>(hr r e).2)⟩)
  (fun _ _ _ _ _ hs j hr=>by obtain ⟨e,T,h1,E⟩:=hs;exact ⟨e,T,h1,an _ _ _ _ E j (fun r e=>⟨by have:=(hr r e).1;omega,(hr r e).2⟩)⟩)
  ⟨uh bf,uh B4⟩
  (fun x a' d=> ∃ z,lZ X v [(z,.cells #[.int .i64 ((x.table:Nat):Int),.int .i64 ((x.index:Nat):Int),.int .u16 ((x.number:Nat):Int)] 219 (0,0))] (dK V) d∧a'={ tmps:= #[.func (.yield l) #[] #[],.pointer (some ⟨bv,0,none⟩),.pointer (some ⟨H,0,none⟩),.pointer (some ⟨W.heap.size,0,none⟩),.pointer (some ⟨z,0,none⟩),undef,.pointer (some ⟨v,0,none⟩),.int .i64 (first:Nat),.func (.func 182) #[] #[.pointer (some ⟨W.heap.size+1,0,none⟩),.pointer (some ⟨W.heap.size+1+1,0,none⟩)],oK x,undef,undef,undef,undef,undef,undef,undef,undef,undef,undef,undef,undef,undef,undef],defers:=[] })
  (fun x a' _ A' B' row hs j hr=>by
   obtain ⟨z,E,h3⟩:=hs;exact ⟨z,E.qj j (fun r e=>(hr r e).2),h3⟩)
  ?assign ?body ?done ?stop
 case assign=>
  rintro P pre x d K ⟨Fh,U⟩ F;have bR:W.heap.size<d.heap.size:=aK U.b0;unfold oK
  gi_wp2
  exact F _ _ ((KeepsOthers.alloc _ _).from _) (aT.below (R:=dK) (fun _=>rfl) (fC)) ⟨q.alloc _ Fh,U.below (fC)⟩ ⟨_,(U.lay _ rfl (I _ om)).sub sm,rfl⟩
 case body=>
  rintro P pre x a' d bh ⟨r,hr⟩ ⟨Fh,U⟩ ⟨z,aM,rfl⟩ hlen;have L:=aM.join U;have bS:=aiq V pre;have c0:d.cell? ⟨W.heap.size,0,none⟩=some (.func (.yield l) #[] #[]):=(aF L.b1 0).trans rfl;have c1:d.cell? ⟨z,0,none⟩=some (.int .i64 ((x.table:Nat):Int)):=(aF L.b0 0).trans rfl;have c2:d.cell? ⟨z,1,none⟩=some (.int .i64 ((x.index:Nat):Int)):=(aF L.b0 1).trans rfl;have c3:d.cell? ⟨z,2,none⟩=some (.int .u16 ((x.number:Nat):Int)):=(aF L.b0 2).trans rfl;obtain ⟨bj,PV,assign2,body2,aR,a0⟩:=SK (m':=n - 1 - 1 - 1) (hY (uD V pre) (x) d Fh om);have bE:(Instr.yield l #[.agg #[.int .i64 ((x.table:Nat):Int),.int .i64 ((x.index:Nat):Int),.int .u16 ((x.number:Nat):Int)]]).run Tryz.prog d= .ok (.round l bj PV assign2 body2) d:=aR;have L:=ah L;have Hr:=ah hr;clear U aM Fh aR
  gi_wp2_with fail
  refine ⟨fun _=>om,SX a0 ?_⟩;rintro e f ⟨O,(⟨rfl,av⟩ | ⟨rfl,bl⟩)⟩
  rotate_left
  ·have Y:KeepsFrom t.heap.size d f:=⟨O.1,fun k o hB hk p=>O.2.1 k o hk p om⟩
   gi_wp2
   exact ⟨Y,rfl,uD V pre++[x],⟨vO V (x.number%32768) (IB V.C (x.number%32768)),by rw [acG];simp⟩,bl⟩
  have Y:KeepsFrom t.heap.size d f:=⟨O.1,fun k o hB hk p=>O.2.1 k o hk p om⟩;have bm:=hG _ _ _ av;have S:=L.xI (fun _ _ a b=>tX a b) O;have d0:f.cell? ⟨bv,0,none⟩=some (.pointer (some ⟨v,0,none⟩)):=(aF S.b2 0).trans rfl;have d1:f.cell? ⟨z,2,none⟩=some (.int .u16 ((x.number:Nat):Int)):=(aF S.b0 2).trans rfl;have aa:aT X (fun _=>False) v dK d f:=O.P6 (Y':=fun _=>False) (fun _ h=>False.elim h);have Hc:Hid (∀ W,_):=fun W=>CW x.number x.hn W;have Hm:Hid (∀ W,_):=fun W=>RF W v (x.number%32768);have bX:W.heap.size<f.heap.size:=aK S.b1;have S:=ah S;have Y:=ah Y;have aa:=ah aa;clear O L c0 c1 c2 c3 a0
  gi_wp2
  gi_cut [18] from 14 (fun bn wc=>bn= .func (.func 182) #[] #[.pointer (some ⟨f.heap.size,0,none⟩),.pointer (some ⟨f.heap.size+1,0,none⟩)]∧wc=(f.drew.alloc (.cells #[.pointer (some ⟨v,0,none⟩)] 82)).alloc (.cells #[.int .i64 ((x.number%32768:Nat):Int)] 3))
  case first=>
   gi_region_with (first
    | (
     refine ⟨trivial,fun _=>om,(CallsIn.inRound P (fE.2 (uh Hc _))).mono ?_⟩;rintro e w3 ⟨rfl,rfl⟩)
    | (
     refine ⟨trivial,fun _=>om,(CallsIn.inRound P (fE.2 (uh Hm _))).mono ?_⟩;rintro e w3 ⟨rfl,rfl⟩))
   all_goals
    gi_wp2
    gi_meet
    exact ⟨rfl,rfl⟩
  case rest=>
   obtain ⟨rfl,ad⟩:=hcut;have M:=((S.below (B:=f.drew) ⟨rfl,rfl,rfl,aO _,fun _ _=>rfl⟩).lay (.cells #[.pointer (some ⟨v,0,none⟩)] 82) rfl (I _ (by show W.heap.size≤f.heap.size;omega))).lay (.cells #[.int .i64 ((x.number%32768:Nat):Int)] 3) rfl (I _ (by rw [jV];show W.heap.size≤f.heap.size+1;omega));have a1:J (uD V pre++[x]) wc:=by
    rw [ad];exact q.alloc _ (q.alloc _ (q _ f f.drew none av ⟨rfl,rfl,rfl,aO _,fun _ _ _=>rfl⟩ (fun r e=>by cases e)))
   have af:aC f wc:=by
    rw [ad];exact ((bG _ f).drew.alloc (aO _) _).alloc (by rw [jV];show f.heap.size≤f.heap.size+1;omega) _
   have b3:wc.heap.size=f.heap.size+2:=by rw [ad];simp
   rw [← ad] at M;simp only [jV] at M;change lZ X v ((f.heap.size+1,_) :: (f.heap.size,_) :: _) (dK V) wc at M;have Gx:KeepsFrom t.heap.size d wc:=Y.trans ⟨af.size,fun k o _ hk _=>(af.block k (aK hk)).trans hk⟩;have a2:aT X (fun _=>False) v dK d wc:=aT.trans (R:=dK) (fun _ _ _ a b=>tX a b) aa (aT.below (R:=dK) (fun _=>rfl) af);have a3:wc.heap[P]? = some (.loop r):=Gx.same P _ bh Hr rfl;have a4:d.heap.size≤wc.heap.size:=Gx.size;obtain ⟨C6,L6,V6,a5,bo,a6⟩:=M.bH;obtain rfl:V=V6:=bo;have UG:=RG (Pc:=WT) (n - 1 - 1 - 1) om X (fun _=>False) dK v f.heap.size (f.heap.size+1) (x.number%32768) V C6 L6 wc a5 M.b1 M.b0 (I _ om) (a6 _ (List.Mem.head _)) bm (IB V.C (x.number%32768));have B7:=ah (M.sub (cs:=[(W.heap.size,.cells #[.func (.yield l) #[] #[]] 244 (0,0)),(bv,.cells #[.pointer (some ⟨v,0,none⟩)] 82 (0,0))]) sm);have b4:(uD V pre).length≤33*31:=om
   clear M S ad Hc Hm d0 d1 av a5 a6 II Y aa Hr af
   gi_wp2
   refine wpIn_rangeFunc_ownN (l₀:=P) (r₀:=r) rfl a3 om (gf:=182) (lb:= #[.pointer (some ⟨f.heap.size,0,none⟩),.pointer (some ⟨f.heap.size+1,0,none⟩)]) rfl trivial (enters_of Tryz.func182 kr rfl)
    (UG.inRound P) (fun h k=>aT.trans (R:=dK) (fun _ _ _ a b=>tX a b) h k) (fun W l o o' _ hl hc _=>aT.turn (R:=dK) (fun _=>rfl) W l o o' hl hc id) (bG _ _) (fun _=>rfl)
    (fun ip i=>J (uD V pre++x :: ip) i∧lZ X v [(W.heap.size,.cells #[.func (.yield l) #[] #[]] 244 (0,0)),(bv,.cells #[.pointer (some ⟨v,0,none⟩)] 82 (0,0))] (dK V) i∧KeepsFrom t.heap.size d i∧aT X (fun _=>False) v dK d i)
    (fun c ip i=>c= .ret∧Jx (uD V pre++x :: ip) i∧KeepsFrom t.heap.size d i)
    (fun s A B row hs j hr=>⟨q _ _ _ _ hs.1 j (fun r e=>⟨by have:=(hr r e).1;omega,(hr r e).2⟩),hs.2.1.qj j (fun r e=>(hr r e).2),ownFrom_keepsFrom (β:=Unit) a4 () A B row hs.2.2.1 j hr,ak8 (R:=dK) (fun _=>rfl) (fun _ _ _ a b=>tX a b) (β:=Unit) () A B row hs.2.2.2 j hr⟩)
    (fun c s A B row hs j hr=>⟨hs.1,an _ _ _ _ hs.2.1 j (fun r e=>⟨by have:=(hr r e).1;omega,(hr r e).2⟩),ownFrom_keepsFrom (β:=Unit) a4 () A B row hs.2.2 j hr⟩)
    ⟨a1,uh B7,Gx,a2⟩
    (fun y aw i=> ∃ u,i.heap[u]? = some (.cells #[.int .i64 ((y.table:Nat):Int),.int .i64 ((y.index:Nat):Int),.int .u16 ((y.number:Nat):Int)] 219 (0,0))∧aw={ tmps:= #[.func (.yield l) #[] #[],.pointer (some ⟨bv,0,none⟩),.pointer (some ⟨H,0,none⟩),.pointer (some ⟨W.heap.size,0,none⟩),.pointer (some ⟨z,0,none⟩),.pointer (some ⟨u,0,none⟩),.pointer (some ⟨v,0,none⟩),.int .i64 (first:Nat),.func (.func 182) #[] #[.pointer (some ⟨W.heap.size+1,0,none⟩),.pointer (some ⟨W.heap.size+1+1,0,none⟩)],oK x,.func (.yield l) #[] #[],.agg #[.int .i64 ((x.table:Nat):Int),.int .i64 ((x.index:Nat):Int),.int .u16 ((x.number:Nat):Int)],.bool true,.bool false,u14,u15,u16,u17,.func (.func 182) #[] #[.pointer (some ⟨f.heap.size,0,none⟩),.pointer (some ⟨f.heap.size+1,0,none⟩)],oK y,u20,u21,u22,u23],defers:=[] })
    (fun y aw _ A' B' row hs j hr=>by
     obtain ⟨u,E,h3⟩:=hs;refine ⟨u,?_,h3⟩;rw [j.block u (aK E) (fun e=>by
      obtain ⟨_,o,p,hc⟩:=hr u e.symm;rw [E] at p;injection p with p;subst p;cases hc)]
     exact E)
    ?assign2 ?body2 ?done2 ?stop2
   case assign2=>
    rintro l3 ip y i K ⟨N,G,g3,g4⟩ F;unfold oK
    gi_wp2
    have hb:aC i (i.alloc (.cells #[.int .i64 ((y.table:Nat):Int),.int .i64 ((y.index:Nat):Int),.int .u16 ((y.number:Nat):Int)] 219)):=fC;exact F _ _ ((KeepsOthers.alloc _ _).from _) (aT.below (R:=dK) (fun _=>rfl) hb) ⟨q.alloc _ N,G.below hb,g3.trans ((KeepsOthers.alloc _ _).from _),aT.trans (R:=dK) (fun _ _ _ a b=>tX a b) g4 (aT.below (R:=dK) (fun _=>rfl) hb)⟩ ⟨_,aX _ _,rfl⟩
   case stop2=>
    rintro c ip i ax ⟨rfl,N,G⟩
    gi_wp2
    exact ⟨G,rfl,uD V pre++x :: ip,by
     rw [acG];obtain ⟨rr,bp⟩:=ax;exact ⟨rr,by rw [← bp];simp⟩,N⟩
   case done2=>
    rintro ip i hS ⟨N,G,g3,g4⟩
    gi_wp2
    refine ⟨g3,g4,?_,G⟩;rw [acG,← hS];exact N
   case body2=>
    rintro l3 ip y aw i b5 _ ⟨N,G,g3,g4⟩ ⟨u,ab,rfl⟩ bq;have e0:i.cell? ⟨W.heap.size,0,none⟩=some (.func (.yield l) #[] #[]):=(aF G.b0 0).trans rfl;have e1:i.cell? ⟨u,0,none⟩=some (.int .i64 ((y.table:Nat):Int)):=(aF ab 0).trans rfl;have e2:i.cell? ⟨u,1,none⟩=some (.int .i64 ((y.index:Nat):Int)):=(aF ab 1).trans rfl;have e3:i.cell? ⟨u,2,none⟩=some (.int .u16 ((y.number:Nat):Int)):=(aF ab 2).trans rfl;have a7:uD V pre++x :: (ip++[y])=(uD V pre++x :: ip)++[y]:=sm;obtain ⟨bs,bw,bA,az,a8,bB⟩:=SK (m':=n - 1 - 1 - 1 - 1 - 1) (hY (uD V pre++x :: ip) y i N (by rw [oL,iO];omega));have bL:(Instr.yield l #[.agg #[.int .i64 ((y.table:Nat):Int),.int .i64 ((y.index:Nat):Int),.int .u16 ((y.number:Nat):Int)]]).run Tryz.prog i= .ok (.round l bs bw bA az) i:=a8;have G2:=ah G;have G3:=ah g3;have G4:=ah g4;clear a8 N G g3 g4 ab UG B7 a1 Gx a2 a3
    gi_wp2_with fail
    refine ⟨fun _=>om,SX bB ?_⟩;rintro e W8 ⟨Z,(⟨rfl,a9⟩ | ⟨rfl,UA⟩)⟩
    ·have IG: ∀ b,B≤b→KeepsFrom b i W8:=fun b hb=>⟨Z.1,fun k o hB hk p=>Z.2.1 k o hk p om⟩;have ag:aT X (fun _=>False) v dK i W8:=Z.P6 (Y':=fun _=>False) (fun _ h=>False.elim h);have f1:=IG wc.heap.size om;have f2:=G2.xI (fun _ _ a b=>tX a b) Z;have f3:=G3.trans (IG t.heap.size om);have f4:=aT.trans (R:=dK) (fun _ _ _ a b=>tX a b) G4 ag;rw [← a7] at a9
     gi_wp2
     exact ⟨f1,ag,a9,f2,f3,f4⟩
    ·have IG: ∀ b,B≤b→KeepsFrom b i W8:=fun b hb=>⟨Z.1,fun k o hB hk p=>Z.2.1 k o hk p om⟩;have f1:=IG wc.heap.size om;have f3:=G3.trans (IG t.heap.size om);rw [← a7] at UA
     gi_wp2
     exact ⟨f1,rfl,UA,f3⟩
 case done=>
  rintro D ys d hD hS ⟨Fh,_⟩ F
  gi_wp2
  refine ⟨sm,.inl ⟨_,_,rfl,run_takeDeferred F,?_⟩⟩;refine ⟨_,DF rfl _ _ _,⟨_,rfl⟩,.inl ⟨_,?_,q.putObj _ Fh om F rfl⟩⟩;rw [hS];rfl
 case stop=>
  rintro D c pre d hD ax ⟨rfl,T,h1,E⟩ F
  gi_wp2
  refine ⟨sm,.inl ⟨_,_,rfl,run_takeDeferred F,?_⟩⟩;exact ⟨_,DF rfl _ _ _,⟨_,rfl⟩,.inr ⟨T,h1.trans (aqK ax),an.putObj _ E om F rfl⟩⟩
end
section
open Go.RowKit Go.Shelf
attribute [local go_sem ↓] dw fP fV kU mZ nC jR kP kJ kF lG lI kR kQ kV ng nD l9 nJ jE pW qM qO qA xM ED EF EC DW
attribute [local go_sem] dM fO fU gW gB aV kY mP mW mQ mO gX jT kN kH lq kX iM kG lu lD lC kM jc jd nH nK kW kZ mX nT mV mM nN qc qI qK qJ qH xU Et Ew Eu Es Dy
attribute [local go_sem] pU pR Oper.semAt_some
attribute [local go_sem ↓] IY Jh
attribute [local go_sem] Jc Jf Je
def aik {Pc:Nat→Prop} (n:Nat) (hn:10≤n) (X:Nat→Prop) (v bv B:Nat) (V:aB) (Cv Lv:Value) (w:World) (hV:aP w v Cv Lv V)
  (H:w.heap[bv]? = some (.cells #[.pointer (some ⟨v,0,none⟩)] 82 (0,0))) (IJ: ¬ X bv) (av: ¬ eX v Cv Lv bv)
  (Fq: ∀ k,X k→k<w.heap.size) (h5:5<V.C.length) (M: ∀ t ∈ bP V,Pc t):
  QC n 173 #[.pointer (some ⟨bv,0,none⟩)] (fun x:UM Pc=> #[Value.int .i64 ((x.1:Nat):Int)]) (aT X (fun k=>B≤k) v bK) (fun j=>j.map (·.1)=bP V) (fun pre=>pre.map (·.1) <+: bP V) 5 B w:=by
 intro l J Jx W A aD y aE hY h0;have z:lZ X v [(bv,.cells #[.pointer (some ⟨v,0,none⟩)] 82 (0,0))] (bK V) W:=by
  refine ⟨⟨Cv,Lv,V,hV.below A,bK.refl V,?_⟩,?_,?_,?_⟩
  ·intro x c;simp only [cO,jM,jO] at c;subst c;exact av
  ·intro x c;simp only [cO,jM,jO] at c;subst c;exact (A.block _ (aK H)).trans H
  ·intro x c;simp only [cO,jM,jO] at c;subst c;rfl
  ·intro x c;simp only [cO,jM,jO] at c;subst c;exact IJ
 have qE: ∀ k,W.heap.size≤k→ ¬ X k:=fun k hk c=>by have:=Fq _ c;have:=A.size;omega
 have c1:W.cell? ⟨bv,0,none⟩=some (.pointer (some ⟨v,0,none⟩)):=(aF z.b0 0).trans rfl;have Hh:=ah (JD W v Cv Lv V (hV.below A) om);have u:Pc (num (cl V.C 0) 6):=M _ (by simp [bP]);have z:=ah z;refine aaE Tryz.func173 rfl trivial ?_ rfl;simp only [Tryz.ntmps173,jm,iO,vV,Nat.reduceAdd,Nat.reduceSub,BX,BZ,Cb,Cc,qy,rU]
 gi_wp2_with fail
 refine ⟨trivial,fun _=>om,(fE.2 Hh).mono ?_⟩;rintro e N ⟨rfl,f⟩;have D:=z.below f;have R:J [] N:=y [] W N none h0 ⟨f.os,f.tape,f.output,f.size,fun k hk _=>f.block k hk⟩ (fun r e=>by cases e);obtain ⟨fn,tmps,assign,body,hy,hR⟩:=hY [] ⟨num (cl V.C 0) 6,u⟩ N R sm;dsimp only at hy;have D:=ah D;have aL:=f.size;clear Hh z f h0 c1 H
 gi_wp2_with fail
 refine ⟨fun _=>om,hR.mono ?_⟩;rintro e F ⟨I,(⟨rfl,S⟩ | ⟨rfl,ab⟩)⟩
 rotate_left
 ·gi_wp2
  refine iy (DF rfl _ _ _) rfl ?_;exact ⟨⟨_,rfl⟩,.inr ⟨_,⟨AZ V.C,rfl⟩,ab⟩⟩
 have o:=D.xI (fun _ _ a b=>bK.trans a b) I;obtain ⟨C3,L3,V3,T,U,aw⟩:=o.bH;have c3:F.cell? ⟨bv,0,none⟩=some (.pointer (some ⟨v,0,none⟩)):=(aF o.b0 0).trans rfl;have aM:W.heap.size≤F.heap.size:=by have:=I.1;omega
 have O:=ah (Lc F v C3 L3 V3 T (by rw [U.len];exact h5));rw [U.low 5 om] at O;have K:=Ea (cl V.C 5);have o:=ah o;have Y:=ah S;clear hR hy R D I S T aw
 gi_wp2_with fail
 refine ⟨trivial,fun _=>om,(fE.2 O).mono ?_⟩;rintro e q ⟨rfl,h⟩;have ax:W.heap.size≤q.heap.size:=by have:=h.size;omega
 have s:=(o.below h).lay (.cells (lv (aZ (cl V.C 5))).toArray 144) rfl (qE _ ax);have Z:J [⟨num (cl V.C 0) 6,u⟩] (q.alloc (.cells (lv (aZ (cl V.C 5))).toArray 144)):=y.alloc _ (y _ F q none Y ⟨h.os,h.tape,h.output,h.size,fun k hk _=>h.block k hk⟩ (fun r e=>by cases e));have s:=ah (s.sub (cs:=[(q.heap.size,.cells (lv (aZ (cl V.C 5))).toArray 144 (0,0))]) sm);have l1:=fH s.b0 (n:=8) (by rw [dX,K]);have l2:=fM s.b0 (n:=8) (by rw [dX,K]);have Hn:=ah (O7 (q.alloc (.cells (lv (aZ (cl V.C 5))).toArray 144)) (aZ (cl V.C 5)) K);have aR:=AQ (aZ (cl V.C 5));have ad:=ah Z;have SL:zl.length=4:=rfl;have Fj: ∀ k,k<lenOf (aZ (cl V.C 5))→Pc ((aZ (cl V.C 5)).getD k ze).first:=fun k hk=>M _ (LX _ (alg V.C k hk));have ae:bP V=num (cl V.C 0) 6 :: ((aZ (cl V.C 5)).take (lenOf (aZ (cl V.C 5)))).map (·.first):=rfl;have MH:=ah ae;clear O Y o h c3 Z M ae
 generalize aZ (cl V.C 5)=E at*
 gi_wp2_with fail
 refine ⟨trivial,fun _=>om,(fE.2 Hn).mono ?_⟩;rintro e W5 ⟨rfl,m⟩;have B5:=ah (s.below m);have af:Hid (J [⟨num (cl V.C 0) 6,u⟩] W5):=y _ _ W5 none ad ⟨m.os,m.tape,m.output,m.size,fun k hk _=>m.block k hk⟩ (fun r e=>by cases e);clear Hn ad s l1 l2 m;generalize a0:lenOf E=d at*;have Ee:(d:Int)≤4:=om
 gi_wp2
 gi_loopw [5,18] (fun _ i wr=> ∃ (k:Nat) (j:List (UM Pc)),k≤d∧i= .int .i64 k∧lZ X v [(q.heap.size,.cells (lv E).toArray 144 (0,0))] (bK V) wr∧j.map (·.1)=(E.take k).map (·.first)∧j.length=k∧J (⟨num (cl V.C 0) 6,u⟩ :: j) wr) (fun _ i _=>d - (intOf i).toNat)
 case atStart=>exact ⟨0,[],om,rfl,uh B5,rfl,rfl,uh af⟩
 case round=>
  obtain ⟨k,j,hk,rfl,hB,L,a1,P⟩:=hrel;clear B5 af
  by_cases a2:k<d
  ·have a3:(k:Int)<(d:Int):=om;have G:k<E.length:=om;have l1:=sU (n:=2) (Gw hB.b0 k G) rfl;have l2:=qU (n:=2) (Gw hB.b0 k G) rfl;have ag:=Fj k om;have ai:(E.take (k+1)).map (·.first)=(E.take k).map (·.first)++[(E.getD k ze).first]:=by
    rw [x9 G,rQ,aN,bJ G];rfl
   have Xi:=ah ai;generalize E.getD k ze=p at*;have Uz:J (⟨num (cl V.C 0) 6,u⟩ :: j) (wr.alloc (.cells (ev p).toArray 142)):=y.alloc _ P;have al:=ah (hB.below ((bG _ _).alloc (aO _) (.cells (ev p).toArray 142)));have c5:(wr.alloc (.cells (ev p).toArray 142)).cell? ⟨wr.heap.size,1,none⟩=some (.int .i64 (p.first:Nat)):=(wM wr _ _ _ 1).trans rfl;obtain ⟨a4,PV,assign2,body2,an,ao⟩:=hY _ ⟨p.first,ag⟩ _ Uz (by simp;omega);dsimp only at an;clear ai P Uz hB;generalize p.first=pf at*
   gi_wp2
   refine ⟨fun _=>om,ao.mono ?_⟩;rintro e W6 ⟨aq,(⟨rfl,ar⟩ | ⟨rfl,az⟩)⟩
   rotate_left
   ·gi_wp2
    refine iy (DF rfl _ _ _) rfl ?_;refine ⟨⟨_,rfl⟩,.inr ⟨_,?_,az⟩⟩;rw [uh MH];refine ⟨((E.take d).drop (k+1)).map (·.first),?_⟩;have aa:(E.take d).map (·.first)=(E.take (k+1)).map (·.first)++((E.take d).drop (k+1)).map (·.first):=by
     rw [← rQ,show E.take (k+1)=(E.take d).take (k+1) by rw [List.take_take];congr 1;omega,LP]
    rw [aa,uh Xi,rU,jU,rQ,L]
    simp
   have B6:=ah (al.xI (fun _ _ a b=>bK.trans a b) aq);clear aq al ao an
   gi_wp2
   go_roundw
   case rel=>exact ⟨k+1,j++[⟨pf,ag⟩],om,gn,uh B6,by rw [uh Xi,rQ,L];rfl,by simp;omega,by rw [rU] at ar;exact ar⟩
   case measure=>exact bW
  ·have yG:k=d:=om;subst yG
   gi_wp2
   go_end0
   exact ⟨⟨_,rfl⟩,.inl ⟨_,by rw [uh MH,jU,L],P⟩⟩
end
section
open Go.RowKit Go.Shelf
attribute [local go_sem ↓] dw fP fV kU mZ nC jR kP kJ kF lG lI kR kQ kV ng nD l9 nJ jE pW qM qO qA
attribute [local go_sem] dM fO fU gW gB aV kY mP mW mQ mO gX jT kN kH lq kX iM kG lu lD lC kM jc jd nH nK kW kZ mX nT mV mM nN qc qI qK qJ qH
attribute [local go_sem] pU pR Oper.semAt_some
attribute [local go_sem ↓] Xu
attribute [local go_sem] Zr
def yQ {Pc:Nat→Prop} (s:nS Pc):nR:=⟨s.table,s.index,s.number⟩
def amk (C:List aj) (t:Nat): ∀ m k,oD C t (m+1) k=oD C t m k++(if nm C t (k+m)=0 then [] else [⟨t,k+m,nm C t (k+m)⟩])
 | 0,k=>by rw [oD,oD,oD,sN,qy,jW]
 | m+1,k=>by
  rw [oD,amk C t m (k+1),oD,tV,show k+1+m=k+(m+1) by omega]
def amo {Pc:Nat→Prop} (C:List aj) (t:Nat) (b: ∀ i,EP Pc ((numsOf (cl C t)).getD i 0)): ∀ k hk,(tu t (numsOf (cl C t)) b k hk).map yQ=oD C t k 0
 | 0,_=>rfl
 | k+1,hk=>by
  have ih:=amo C t b k om;have c:=vJ (cl C t) k om;rw [amk,rE]
  by_cases h0:nm C t k=0
  ·rw [VU t _ b k hk (by rw [c];exact h0),ih,au h0,sN]
  ·rw [VT t _ b k hk (by rw [c];exact h0),rQ,ih,ak h0]
   congr 1
   show [(⟨t,k,(numsOf (cl C t)).getD k 0⟩:nR)]=_;rw [c]
def ZL {Pc:Nat→Prop} (V:aB) (t:Nat) (b:Bo Pc V.C t):(vO V t b).map yQ=oD V.C t 32 0:=amo V.C t b 32 (aO _)
def under (C:List aj) (s:nR):List nR:=s :: oD C (s.number%32768) 32 0
def ae3 (C:List aj) (t:Nat): ∀ m i,jB C t m i=(oD C t m i).flatMap (under C)
 | 0,_=>rfl
 | m+1,i=>by
  have b:jB C t (m+1) i=(if nm C t i=0 then [] else under C ⟨t,i,nm C t i⟩)++jB C t m (i+1):=rfl;have c:oD C t (m+1) i=(if nm C t i=0 then [] else [⟨t,i,nm C t i⟩])++oD C t m (i+1):=rfl;rw [b,c,ae3 C t m (i+1),Td]
  by_cases h0:nm C t i=0
  ·rw [au h0,au h0,Qi]
  ·rw [ak h0,ak h0,qx,Qi,sN]
def amM (V:aB) (first:Nat) (h:gU V first):(G8 V first h).map yQ=jB V.C first 32 0:=by
 have b:(fun s:nS (rJ V)=>(BD s :: vO V (s.number%32768) s.hc.2).map yQ)=fun s=>under V.C (yQ s):=by
  funext s
  rw [jU,ZL V _ s.hc.2];rfl
 rw [ae3,← ZL V first h.2];unfold G8 pV;rw [List.map_flatMap,List.flatMap_map,b]
def aiE (V:aB) (first:Nat):(Z9 V first).map yQ=jB V.C first 32 0:=by
 have b:(fun s:Ip=>(s :: vO V (s.number%32768) (IB V.C (s.number%32768))).map yQ)=fun s=>under V.C (yQ s):=by
  funext s
  rw [jU,ZL V _ (IB V.C _)];rfl
 rw [ae3,← ZL V first (IB V.C first)];unfold Z9 uD;rw [List.map_flatMap,List.flatMap_map,b]
def uj {Pc:Nat→Prop} (b:List (nS Pc)):List nR:=b.map yQ
def aeK {Pc:Nat→Prop} (b:List (nS Pc)) (s:nS Pc):uj (b++[s])=uj b++[yQ s]:=by simp [uj]
def BR (C:List aj) (fs:List Nat):List nR:=fs.flatMap fun f=>jB C f 32 0
def awJ (C:List aj) (fs:List Nat) (f:Nat):BR C (fs++[f])=BR C fs++jB C f 32 0:=by simp [BR]
def awI {C:List aj} {a b:List Nat} (h:a <+: b):BR C a <+: BR C b:=by
 obtain ⟨r,rfl⟩:=h;exact ⟨BR C r,by simp [BR]⟩
def aif {p:nR→Bool} {a b:List nR} {s:nR} (h:a <+: b) (c:a.find? p=some s):b.find? p=some s:=by
 obtain ⟨r,rfl⟩:=h;rw [Ti,c];rfl
structure yt (w W:World) (v bc:Nat) (k:List UInt8) (r:Value):Prop where
 below:aC w W
 bv:W.heap[w.heap.size]? = some (.cells #[.pointer (some ⟨v,0,none⟩)] 82 (0,0))
 br:W.heap[w.heap.size+1]? = some (.cells #[r] 98 (0,0))
 bk:W.heap[bc]? = some (.cells (cv k).toArray 123 (0,0))
 lo:w.heap.size+2≤bc
def yt.later {w W c:World} {v bc:Nat} {k:List UInt8} {r:Value} (h:yt w W v bc k r) (b:aC W c):yt w c v bc k r:=
 ⟨h.below.trans (b.mono h.below.size),(b.block _ (aK h.bv)).trans h.bv,(b.block _ (aK h.br)).trans h.br,(b.block _ (aK h.bk)).trans h.bk,h.lo⟩
def yt.qj {w W c:World} {v bc B:Nat} {k:List UInt8} {r:Value} {row:Option Nat} (h:yt w W v bc k r) (hB:bc<B) (b:W.grownBy c row) (hr: ∀ r,row=some r→B≤r∧ ∃ o:Obj,W.heap[r]? = some o∧o.isCells=false):yt w c v bc k r:=by
 have:=h.lo
 exact ⟨TY h.below b (fun r e=>by have:=(hr r e).1;omega),sQ b hr h.bv om,sQ b hr h.br om,sQ b hr h.bk om,h.lo⟩
def yt.put {w W:World} {v bc:Nat} {k:List UInt8} {r:Value} (h:yt w W v bc k r) (x:Value):yt w (W.setCell ⟨w.heap.size+1,0,none⟩ x) v bc k x:=by
 have hk:=Kept.only W (w.heap.size+1) 0 x
 have:=h.lo
 refine ⟨?_,hk.aG om h.bv,?_,hk.aG om h.bk,h.lo⟩
 ·exact ⟨hk.os.trans h.below.os,hk.tape.trans h.below.tape,hk.output.trans h.below.output,jL h.below.size hk.size,fun i hi=>by
   rw [hk.block i (iL hi h.below.size) om];exact h.below.block i hi⟩
 ·rw [heap_setCell_same _ _ _ _ _ _ _ h.br];rfl
def Yz {w:World} {b:Nat} {x:Value} {t:TypeId} {fr:Nat × Nat} (h:w.heap[b]? = some (.cells #[x] t fr)):(loadVar 98 ⟨b,0,none⟩).run Tryz.prog w= .ok x w:=by
 have c:w.cell? ⟨b,0,none⟩=some x:=(aF h 0).trans rfl;simp [go_sem,c]
end
end Go.Proofs.YtknjjjenklfeoaaGreatDoor
