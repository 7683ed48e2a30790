import Derived.Test.YtknjjjenklfeoaaGreatDoorO14
set_option maxHeartbeats 8000000
set_option maxRecDepth 100000
set_option linter.all false
namespace Go.Proofs.YtknjjjenklfeoaaGreatDoor
open Go.RowKit Go.Shelf
attribute [local go_sem ↓] dw fP fZ kS mP mV jJ kJ jY jU lD lH kQ ku kT mQ mW lZ ny jG qc qP qQ qF
attribute [local go_sem] dK fO fV gK gy aV kX mG mM mJ mF gI jK kH jX kZ kW iJ jW lq lC lu kF jc jd lY l7 kG kY mO nI lT mD nH qh qM qO qN qL
attribute [local go_sem] pW pV Oper.semAt_some
theorem Env.pO {w W W':World} {v:Nat} {Cv Lv C1 L1:Value} {V:aB} {bs:List (Nat × Obj)} {row:Option Nat} {B:Nat} (h:Env w W v Cv Lv C1 L1 V bs) (hB:w.heap.size≤B) (hbs: ∀ x ∈ bs,x.2.isCells=true)
  (hg:W.grownBy W' row) (hr: ∀ r,row=some r→B≤r∧ ∃ o:Obj,W.heap[r]? = some o∧o.isCells=false):Env w W' v Cv Lv C1 L1 V bs:=by
 have hk:Kept (fun k=>row=some k) W W':=⟨hg.os,hg.tape,hg.output,hg.size,fun k hk hs=>hg.block k hk (fun e=>hs e.symm)⟩;have hn: ∀ k o,W.heap[k]? = some o→o.isCells=true→ ¬ (row=some k):=by
  intro k o ho hc e;obtain ⟨_,o',ho',hc'⟩:=hr k e;rw [ho] at ho';injection ho' with ho';subst ho';rw [hc] at hc';cases hc'
 have hf: ∀ k,eX v C1 L1 k→ ¬ (row=some k):=by
  intro k hf;obtain ⟨q,hq,hqc⟩:=h.at'.cells hf;exact hn k q hq hqc
 refine ⟨h.step.own hk (fun k e=>⟨by have:=(hr k e).1;omega,fun hx=>hf k hx e⟩),fun x hx=> ?_⟩;obtain ⟨h1,h2,h3⟩:=h.qg x hx;exact ⟨hk.aF (hn _ _ h1 (hbs x hx)) h1,h2,h3⟩
theorem Env.n0 {w W:World} {v b:Nat} {o:Obj} {Cv Lv C1 L1:Value} {V:aB} {bs:List (Nat × Obj)} (h:Env w W v Cv Lv C1 L1 V ((b,o) :: bs)): ¬ eX v C1 L1 b:=(h.qg (b,o) sm).2.2
theorem Env.n1 {w W:World} {v a b:Nat} {p o:Obj} {Cv Lv C1 L1:Value} {V:aB} {bs:List (Nat × Obj)} (h:Env w W v Cv Lv C1 L1 V ((a,p) :: (b,o) :: bs)): ¬ eX v C1 L1 b:=(h.qg (b,o) sm).2.2
theorem bZ.from {A B:World} {v:Nat} {C1 L1 C2 L2:Value} {V1 V2:aB} (h:aN A v C1 L1 V1) (hs:bZ A B v C1 L1 C2 L2 V2) (D:Nat):KeepsFrom D A B:=
 ⟨hs.kept.size,fun _ _ _ hk ho=>hs.kept.aF (h.Qp hk ho) hk⟩
def Zq (cg:Nat) (D7:Array Value) (SB:List (Nat × Obj)) (ch:Nat→Nat) (M:Nat):Prop:=
 ∀ W n,(∀ x ∈ SB,W.heap[x.1]? = some x.2)→n<65536→n≠0→6≤n%32768∧n%32768<M→Calls Tryz.prog cg (#[.int .u16 (n:Nat)]++D7) W fun e W'=>e= .returned (.int .u16 (ch n:Nat))∧W'=W
def tK (V:aB) (c:Nat):Prop:=6≤c∧c<V.C.length
def qW (V:aB) (t:Nat):Prop:=tK V t∧Ai (tK V) V.C t
theorem bH.Ov {A B:aB} (h:bH A B) {t:Nat} (ht:qW A t):qW B t:=by
 have e:tK B=tK A:=by funext c;unfold tK;rw [h.len]
 unfold qW;rw [e];exact ⟨ht.1,h.ok ht.2⟩
theorem QI {ch:Nat→Nat} (hch:Marks ch): ∀ (ts:List Nat) (V:aB),(∀ t ∈ ts,qW V t)→bH V (qY ch V ts)
 | [],V,_=>bH.refl V
 | t :: ts,V,h=>by
  have ht:=h t sm;have h1:=ajP hch ht.1.1 ht.1.2 (fun c hc=>hc.1) ht.2;exact h1.trans (QI hch ts (zi ch V t) (fun x hx=>h1.Ov (h x (by simp [hx]))))
theorem Uo (ch:Nat→Nat): ∀ (ts:List Nat) (V:aB),(qY ch V ts).L.length≤V.L.length+2*ts.length
 | [],_=>by simp [qY]
 | t :: ts,V=>by
  have h1:=asA ch V t;have h2:=Uo ch ts (zi ch V t);show (qY ch (zi ch V t) ts).L.length≤_;simp only [iQ];omega
theorem adl (V:aB) (first:Nat):(sN V first).length≤33:=by
 unfold sN dL;have h:=adS (· != 0) (numsOf (cl V.C first));rw [numsOf_length] at h;simp only [iQ,tH];omega
theorem ajR (w:World) (v:Nat) (Cv Lv:Value) (V:aB) (h:aN w v Cv Lv V) (first:Nat) (hf:qW V first) (hT:Ai (qW V) V.C first) (hC:V.C.length≤256) (hL:V.L.length≤800000000)
  (cg:Nat) (D7:Array Value) (SB:List (Nat × Obj)) (ch:Nat→Nat) (hch:Marks ch) (hcg:Zq cg D7 SB ch V.C.length) (ec: ∀ args w,(callFunc cg args).run Tryz.prog w= .ok (.enter cg args) w) (hcb: ∀ x ∈ SB,w.heap[x.1]? = some x.2∧ ¬ eX v Cv Lv x.1):
  CallsIn Fence.wide 100 Tryz.prog 146 #[.pointer (some ⟨v,0,none⟩),.int .i64 (first:Nat),.func (.func cg) #[] D7] w fun e w'=>e= .returned (.tuple #[])∧ ∃ C1 L1,bZ w w' v Cv Lv C1 L1 (qY ch V (sN V first)):=by
 have E0:=((Env.start h).lay (.cells #[.pointer (some ⟨v,0,none⟩)] 82)).lay (.cells #[.func (.func cg) #[] D7] 206);have E2:=(E0.lay (.cells #[.pointer (some ⟨v,0,none⟩)] 82)).lay (.cells #[.int .i64 (first:Nat)] 3);simp only [jB] at E0 E2;have c0:((w.alloc (.cells #[.pointer (some ⟨v,0,none⟩)] 82)).alloc (.cells #[.func (.func cg) #[] D7] 206)).cell? ⟨w.heap.size,0,none⟩=some (.pointer (some ⟨v,0,none⟩)):=(aG E0.o1 0).trans rfl;have Hm:=ah (aua ((w.alloc (.cells #[.pointer (some ⟨v,0,none⟩)] 82)).alloc (.cells #[.func (.func cg) #[] D7] 206)) v first);have E2:=ah E2;have H:=ah h;clear h E0;refine callsIn_of_wp_marks Tryz.func146 rfl trivial ?_ rfl;simp only [Tryz.ntmps146,iR,iQ,vk,Nat.reduceAdd,Nat.reduceSub,A8,Ba,Bc,Bd,ql,sO]
 gi_wp2_with fail
 refine ⟨trivial,(eY.2 Hm).mono ?_⟩;rintro e W1 ⟨rfl,rfl⟩;simp only [jB]
 gi_wp2_with fail
 clear c0 Hm;generalize (((w.alloc (.cells #[.pointer (some ⟨v,0,none⟩)] 82)).alloc (.cells #[.func (.func cg) #[] D7] 206)).alloc (.cells #[.pointer (some ⟨v,0,none⟩)] 82)).alloc (.cells #[.int .i64 (first:Nat)] 3)=W2 at*;have hs2:w.heap.size≤W2.heap.size:=E2.step.kept.size;have hTA:=at7 (Pc:=qW V) 99 om (fun _=>False) v (w.heap.size+1+1) (w.heap.size+1+1+1) first (W2.heap.size+2) V Cv Lv W2 E2.at' E2.o1 E2.o0 id id E2.n0 E2.n1 (fun _ h=>False.elim h) hf.1.2 hf hT;have E3:=ah (E2.sub (cs:=[(w.heap.size+1,.cells #[.func (.func cg) #[] D7] 206 (0,0)),(w.heap.size,.cells #[.pointer (some ⟨v,0,none⟩)] 82 (0,0))]) sm);clear E2;refine QF om (gf:=181) (lb:= #[.pointer (some ⟨w.heap.size+1+1+1,0,none⟩),.pointer (some ⟨w.heap.size+1+1,0,none⟩)]) rfl (enters_of Tryz.func181 kr rfl) hTA
  (fun A B C h k=>aT.trans (R:=bH) (fun _ _ _ a b=>a.trans b) h k) (fun W o o' hl hc=>aT.turn bH.refl W _ o o' hl hc om) (bG _ _) (fun _=>rfl)
  (fun pre W'=> ∃ C1 L1,Env w W' v Cv Lv C1 L1 (qY ch V (pre.map (·.1))) [(w.heap.size+1,.cells #[.func (.func cg) #[] D7] 206 (0,0)),(w.heap.size,.cells #[.pointer (some ⟨v,0,none⟩)] 82 (0,0))])
  (fun _ _ _ _ hs hg hr=>by obtain ⟨C1,L1,hE⟩:=hs;exact ⟨C1,L1,Env.pO hE hs2 (by simp [Obj.isCells]) hg hr⟩)
  ⟨Cv,Lv,uh E3⟩
  (fun x a' _=>a'={ tmps:= #[.pointer (some ⟨v,0,none⟩),.int .i64 (first:Nat),.func (.func cg) #[] D7,.pointer (some ⟨w.heap.size,0,none⟩),undef,.pointer (some ⟨w.heap.size+1,0,none⟩),.int .i64 ((x.1:Nat):Int),undef,undef,.pointer (some ⟨v,0,none⟩),.int .i64 (first:Nat),.func (.func 181) #[] #[.pointer (some ⟨w.heap.size+1+1+1,0,none⟩),.pointer (some ⟨w.heap.size+1+1,0,none⟩)],.int .i64 ((x.1:Nat):Int),undef,undef,undef,undef,undef,undef,undef,undef,undef,undef,undef,undef,undef,undef,undef,undef,undef,undef,undef,undef,undef],defers:=[] })
  (fun _ _ _ _ _ _ hs _ _=>hs)
  ?assign ?body ?done
 case assign=>
  rintro l pre x W' K hi hK
  gi_wp2
  exact hK _ _ (KeepsFrom.refl _ _) (aT.below bH.refl (bG _ _)) hi rfl
 case done=>
  rintro D ys W' hD hS ⟨C1,L1,hE⟩ hK
  gi_wp2
  refine ⟨sm,.inl ⟨_,_,rfl,run_takeDeferred hK,?_⟩⟩;have hg:=grownBy_putObj' W' D (.deferred none);have hk:Kept (fun k=>k=D) W' (W'.putObj D (.deferred none)):=⟨hg.os,hg.tape,hg.output,hg.size,fun k hk hs=>hg.block k hk (fun e=>hs (by injection e))⟩;refine ⟨_,CJ rfl _ _ _,rfl,C1,L1,?_⟩;rw [← hS];exact hE.step.own hk (by rintro k rfl;exact ⟨om,hE.at'.Qp hK rfl⟩)
 case body=>
  rintro l pre x a' W hl ⟨r,hr⟩ ⟨C1,L1,hE⟩ rfl hlen;have hall: ∀ t ∈ pre.map (·.1),qW V t:=by
   intro t ht;obtain ⟨y,_,rfl⟩:=gQ.1 ht;exact y.2
  have hS1:=QI hch (pre.map (·.1)) V hall;have Aw:=Uo ch (pre.map (·.1)) V;rw [tH] at Aw;have hx1:=hS1.Ov x.2;have WZ:qY ch V (pre.unattach++[x.1])=zi ch (qY ch V (pre.map (·.1))) x.1:=asC ch V (pre.map fun y:UM (qW V)=>y.1) x.1;have hS2:=ajP hch hx1.1.1 hx1.1.2 (fun c hc=>hc.1) hx1.2;have hlen1:(qY ch V (pre.map (·.1))).C.length=V.C.length:=hS1.len;generalize qY ch V (pre.map (·.1))=V1 at*;obtain ⟨x,hxo⟩:=x;dsimp only at*;have c0:W.cell? ⟨w.heap.size,0,none⟩=some (.pointer (some ⟨v,0,none⟩)):=(aG hE.o1 0).trans rfl;have Ht:=ah (UH W v C1 L1 V1 hE.at' x hx1.1.2);have hTl:=numsOf_length (cl V1.C x);have HE:=ah hE
  gi_wp2_with fail
  refine ⟨trivial,(CallsIn.inRound l (eY.2 Ht)).mono ?_⟩;rintro e Wa ⟨rfl,hba⟩;have F1:=((Env.start hE.at').later hba).lay (.cells (tv (numsOf (cl V1.C x))).toArray 169);have c1:(Wa.alloc (.cells (tv (numsOf (cl V1.C x))).toArray 169)).cell? ⟨w.heap.size,0,none⟩=some (.pointer (some ⟨v,0,none⟩)):=(aG (F1.step.kept.aF hE.n1 hE.o1) 0).trans rfl;have Hm:=ah (Qw (Wa.alloc (.cells (tv (numsOf (cl V1.C x))).toArray 169)) v x);have F2:=(F1.lay (.cells #[.pointer (some ⟨v,0,none⟩)] 82)).lay (.cells #[.int .i64 (x:Nat)] 3);simp only [jB] at F2;have F2:=ah F2;clear hE F1 Ht
  gi_wp2_with fail
  refine ⟨trivial,(CallsIn.inRound l (eY.2 Hm)).mono ?_⟩;rintro e Wc ⟨rfl,rfl⟩;simp only [jB]
  gi_wp2_with fail
  clear Hm c1 c0;generalize hWc:((Wa.alloc (.cells (tv (numsOf (cl V1.C x))).toArray 169)).alloc (.cells #[.pointer (some ⟨v,0,none⟩)] 82)).alloc (.cells #[.int .i64 (x:Nat)] 3)=Wc at*;have hsz:Wc.heap.size=Wa.heap.size+3:=by rw [← hWc];simp
  have hWa:W.heap.size≤Wa.heap.size:=hba.size;have hr':Wc.heap[l]? = some (.loop r):=F2.step.kept.aF (HE.at'.Qp hr rfl) hr;have F3:=ah (F2.sub (cs:=[(Wa.heap.size,.cells (tv (numsOf (cl V1.C x))).toArray 169 (0,0))]) sm);have GI:=Qx (Pc:=tK V1) 97 om (fun k=>k=Wa.heap.size) (fun _=>False) bH v (Wa.heap.size+1) (Wa.heap.size+1+1) x V1 C1 L1 Wc F2.at' F2.o1 F2.o0 om F2.n0 hx1.1.2 hx1.2;clear hWc F2 hba;refine wpIn_rangeFunc_ownN (l₀:=l) (r₀:=r) rfl hr' om (gf:=182) (lb:= #[.pointer (some ⟨Wa.heap.size+1,0,none⟩),.pointer (some ⟨Wa.heap.size+1+1,0,none⟩)]) rfl trivial (enters_of Tryz.func182 kr rfl)
   (GI.inRound l) (fun h k=>aT.trans (R:=bH) (fun _ _ _ a b=>a.trans b) h k) (fun W l o o' _ hl hc _=>aT.turn bH.refl W l o o' hl hc id) (bG _ _) (fun _=>rfl)
   (fun pre' W'=>Env W W' v C1 L1 C1 L1 V1 [(Wa.heap.size,.cells (tv (EX ch (numsOf (cl V1.C x)) pre')).toArray 169 (0,0))])
   (fun _ _ _=>False)
   (fun _ _ _ _ hs hg hr=>Env.pO hs om (by simp [Obj.isCells]) hg hr)
   (fun _ _ _ _ _ hs _ _=>hs)
   F3
   (fun s a'' W'=> ∃ bx,W'.heap[bx]? = some (.cells #[.int .i64 ((s.table:Nat):Int),.int .i64 ((s.index:Nat):Int),.int .u16 ((s.number:Nat):Int)] 219 (0,0))∧a''={ tmps:= #[.pointer (some ⟨v,0,none⟩),.int .i64 (first:Nat),.func (.func cg) #[] D7,.pointer (some ⟨w.heap.size,0,none⟩),undef,.pointer (some ⟨w.heap.size+1,0,none⟩),.int .i64 (x:Nat),.pointer (some ⟨Wa.heap.size,0,none⟩),.pointer (some ⟨bx,0,none⟩),.pointer (some ⟨v,0,none⟩),.int .i64 (first:Nat),.func (.func 181) #[] #[.pointer (some ⟨w.heap.size+1+1+1,0,none⟩),.pointer (some ⟨w.heap.size+1+1,0,none⟩)],.int .i64 (x:Nat),.pointer (some ⟨v,0,none⟩),.int .i64 (x:Nat),.agg (tv (numsOf (cl V1.C x))).toArray,.pointer (some ⟨v,0,none⟩),.int .i64 (x:Nat),.func (.func 182) #[] #[.pointer (some ⟨Wa.heap.size+1,0,none⟩),.pointer (some ⟨Wa.heap.size+1+1,0,none⟩)],oh s,undef,undef,undef,undef,undef,undef,undef,undef,undef,undef,undef,undef,undef,undef],defers:=[] })
   (fun s a'' _ A' B' row hs hg hr=>by
    obtain ⟨bx,h2,h3⟩:=hs;refine ⟨bx,?_,h3⟩;rw [hg.block bx (aO h2) (fun e=>by
     obtain ⟨_,o,ho,hc⟩:=hr bx e.symm;rw [h2] at ho;injection ho with ho;subst ho;cases hc)]
    exact h2)
   ?assign2 ?body2 ?done2 ?stop2
  case assign2=>
   rintro l2 pre' s W' K hF hK;unfold oh
   gi_wp2
   exact hK _ _ ((KeepsOthers.alloc _ _).from _) (aT.below bH.refl (fC)) (hF.alloc _) ⟨_,aW _ _,rfl⟩
  case stop2=>
   rintro c pre' W' _ h;exact h.elim
  case body2=>
   rintro l2 pre' sp a'' W' hl2 _ hF ⟨bx,hbx,rfl⟩ hlen2;have d0:W'.cell? ⟨bx,1,none⟩=some (.int .i64 ((sp.index:Nat):Int)):=(aG hbx 1).trans rfl;have d1:W'.cell? ⟨bx,2,none⟩=some (.int .u16 ((sp.number:Nat):Int)):=(aG hbx 2).trans rfl;have d2:W'.cell? ⟨w.heap.size+1,0,none⟩=some (.func (.func cg) #[] D7):=(aG (hF.step.kept.aF HE.n0 HE.o0) 0).trans rfl;have ahi: ∀ y ∈ SB,W'.drew.heap[y.1]? = some y.2:=by
    intro y hy;obtain ⟨y1,y2⟩:=hcb y hy;have y3: ¬ eX v C1 L1 y.1:=fun hf'=>(HE.step.new _ hf').elim y2 (by have:=aO y1;omega);exact hF.step.kept.aF y3 (HE.step.kept.aF y2 y1)
   have Hch:=ah (hcg W'.drew sp.number ahi sp.hn sp.h0 (by rw [← hlen1];exact sp.hc));have hal:(EX ch (numsOf (cl V1.C x)) pre').length=32:=by rw [VJ,hTl]
   have hap:=ae6 ch (numsOf (cl V1.C x)) pre' sp;generalize EX ch (numsOf (cl V1.C x)) pre'=T1 at*;have hii:sp.index<32:=sp.hi;have e1:W'.drew.cell? ⟨Wa.heap.size,sp.index,none⟩=some (.int .u16 ((T1.getD sp.index 0:Nat):Int)):=by
    rw [aG hF.drew.o0,bW,Oy _ _ om]
   have f1:=eG hF.drew.o0;have F5:=hF.drew.put sm (Kept.only _ Wa.heap.size sp.index (.int .u16 (ch sp.number:Nat))) (heap_setCell_same _ _ _ _ _ _ _ hF.drew.o0);rw [Af,← YS,← hap] at F5;have K5:aT (fun k=>k=Wa.heap.size) (fun _=>False) v bH W' (W'.drew.setCell ⟨Wa.heap.size,sp.index,none⟩ (.int .u16 (ch sp.number:Nat))):=
    aT.own hF.at' ((Kept.refl (fun k=>k=Wa.heap.size) W').drew.setCell (p:=⟨Wa.heap.size,sp.index,none⟩) (aA rfl) _) (by rintro k rfl;exact ⟨rfl,hF.n0,_,hF.o0,rfl⟩) (bH.refl _)
   have HKF:Hid (KeepsFrom Wc.heap.size W' (W'.setCell ⟨Wa.heap.size,sp.index,none⟩ (.int .u16 (ch sp.number:Nat))).drew):=⟨((KeepsOthers.setCell W' ⟨Wa.heap.size,sp.index,none⟩ (.int .u16 (ch sp.number:Nat))).from Wc.heap.size).size,((KeepsOthers.setCell W' ⟨Wa.heap.size,sp.index,none⟩ (.int .u16 (ch sp.number:Nat))).from Wc.heap.size).same⟩;have F5:=ah F5;have K5:=ah K5;have hsi:(sp.index:Int)<32:=om;clear hF hbx hap ahi hcg hcb hch hTA GI hall hS1 hS2 WZ hr' hr Aw hx1 hT hf hlen hlen2 hl hl2 HE H E3 F3 hlen1 hL hC hs2 hsz hWa hTl;generalize sp.index=idx at*;generalize ch sp.number=n2 at*;generalize sp.number=nn at*;generalize oh sp=sv at*;generalize T1.getD idx 0=old at*
   gi_wp2
   gi_region_with (
    refine ⟨trivial,(CallsIn.inRound l2 (CallsIn.inRound l (eY.2 Hch))).mono ?_⟩;rintro e w3 ⟨rfl,rfl⟩)
   all_goals
    gi_wp2
    exact ⟨uh HKF,uh K5,uh F5⟩
  case done2=>
   intro ys W' hys hF;have hsp:EX ch (numsOf (cl V1.C x)) ys=vY ch (numsOf (cl V1.C x)):=by
    have e:ys=uY V1 x hx1.2:=hys;rw [e];exact amk ch x _ hx1.2 hTl
   rw [hsp] at hF;clear hys;have hrt:zi ch V1 x=bT V1 x (bytesOf (vY ch (numsOf (cl V1.C x)))):=rfl;have hcl:(vY ch (numsOf (cl V1.C x))).length=32:=by rw [SC,hTl]
   have ahj:=afD hch (fun c hc=>hc.1) hx1.2;have c0:W'.drew.cell? ⟨w.heap.size,0,none⟩=some (.pointer (some ⟨v,0,none⟩)):=(aG (hF.step.kept.aF HE.n1 HE.o1) 0).trans rfl;have c0':W'.cell? ⟨w.heap.size,0,none⟩=some (.pointer (some ⟨v,0,none⟩)):=c0;have l1:=fD hF.drew.o0 (n:=32) (by rw [pR,hcl]);have l2:=fG hF.drew.o0 (n:=32) (by rw [pR,hcl]);have Hp:=ah (adk W'.drew _ hcl ahj);have hbl:=bytesOf_length (vY ch (numsOf (cl V1.C x)));have EU:Hid (∀ W C1 L1,aN W v C1 L1 V1→_):=fun W C1 L1 hW=>FK W v C1 L1 V1 hW x (by have:=hx1.1.2;omega) (bytesOf (vY ch (numsOf (cl V1.C x)))) hbl om om;have HF:=ah hF;clear hF hsp hcg hcb hTA GI hall hS1 hr' hr Aw hT hf hlen hl H E3 F3 hlen1 ahj hch ec;generalize bytesOf (vY ch (numsOf (cl V1.C x)))=c at*;generalize vY ch (numsOf (cl V1.C x))=T2 at*
   gi_wp2
   gi_region_with (first
    | (
     refine ⟨trivial,?_⟩
     gi_at_call 163
     refine (CallsIn.inRound l (eY.2 Hp)).mono ?_;rintro e w4 ⟨rfl,hb4⟩;have F4:=ah (HF.drew.later hb4);have c4:w4.cell? ⟨w.heap.size,0,none⟩=some (.pointer (some ⟨v,0,none⟩)):=(aG (F4.step.kept.aF HE.n1 HE.o1) 0).trans rfl)
    | (
     refine ⟨trivial,?_⟩
     gi_at_call 70
     refine (CallsIn.inRound l (eY.2 (uh EU _ _ _ F4.at'))).mono ?_;rintro e w5 ⟨rfl,C5,L5,hS5⟩;have F5:=ah (F4.fQ hS5).step;clear hS5))
   all_goals
    gi_wp2
    refine ⟨bZ.from HE.at' F5 _,aT.step HE.at' F5 (by rw [← hrt];exact hS2),C5,L5,?_⟩
    first
     | exact HE.fQ F5
     | (rw [WZ,hrt];exact HE.fQ F5)
end Go.Proofs.YtknjjjenklfeoaaGreatDoor
