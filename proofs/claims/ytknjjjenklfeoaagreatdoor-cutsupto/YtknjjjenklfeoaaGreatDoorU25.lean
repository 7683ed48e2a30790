import Derived.Test.YtknjjjenklfeoaaGreatDoorU24
import Derived.Sort.CutIn
set_option maxHeartbeats 8000000
set_option maxRecDepth 100000
set_option linter.all false
namespace Go.Proofs.YtknjjjenklfeoaaGreatDoor
open Go.RowKit Go.Shelf
attribute [local go_sem ↓] dw fP fV kU mZ nC jR kP kJ kF lG lI kR kQ kV ng nD l9 nJ jE pW qM qO qA
attribute [local go_sem] dM fO fU gW gB aV kY mP mW mQ mO gX jT kN kH lq kX iM kG lu lD lC kM jc jd nH nK kW kZ mX nT mV mM nN qc qI qK qJ qH
attribute [local go_sem] pU pR Oper.semAt_some
def V9 (w:World) (v table:Nat):Calls Tryz.prog 152 #[.pointer (some ⟨v,0,none⟩),.int .i64 (table:Nat)] w fun e a=>
  e= .returned (.func (.func 174) #[] #[.pointer (some ⟨w.heap.size,0,none⟩),.pointer (some ⟨w.heap.size+1,0,none⟩)])∧a=(w.alloc (.cells #[.pointer (some ⟨v,0,none⟩)] 82)).alloc (.cells #[.int .i64 (table:Nat)] 3):=by
 go_enter Tryz.func152,Tryz.ntmps152
 go_wp2;refine iy (aaG rfl _ _ _) rfl ?_;exact ⟨rfl,rfl⟩
def acV (w:World) (v table:Nat):Calls Tryz.prog 111 #[.pointer (some ⟨v,0,none⟩),.int .i64 (table:Nat)] w fun e a=>
  e= .returned (.func (.func 166) #[] #[.pointer (some ⟨w.heap.size+1,0,none⟩),.pointer (some ⟨w.heap.size,0,none⟩)])∧a=(w.alloc (.cells #[.pointer (some ⟨v,0,none⟩)] 82)).alloc (.cells #[.int .i64 (table:Nat)] 3):=by
 go_enter Tryz.func111,Tryz.ntmps111
 go_wp2;refine iy (aaG rfl _ _ _) rfl ?_;exact ⟨rfl,rfl⟩
section
variable {X Y:Nat→Prop} {v:Nat} {R:aB→aB→Prop} {bs cs:List (Nat × Obj)} {P:aB→Prop}
def lZ.join {W:World} (h:lZ X v bs P W) (k:lZ X v cs P W):lZ X v (bs++cs) P W:=by
 obtain ⟨e,f,g,b,i,j⟩:=h.bH;obtain ⟨n,o,p,c,_,d⟩:=k.bH;obtain ⟨l,m,_⟩:=b.unique c;subst l m;refine ⟨⟨e,f,g,b,i,fun x a=> ?_⟩,fun x a=> ?_,fun x a=> ?_,fun x a=> ?_⟩
 all_goals rcases fK.1 a with y | y
 ·exact j x y
 ·exact d x y
 ·exact h.box x y
 ·exact k.box x y
 ·exact h.cells x y
 ·exact k.cells x y
 ·exact h.free x y
 ·exact k.free x y
def aT.qj (hR: ∀ a,R a a) {A B:World} {row:Option Nat} (b:A.grownBy B row) (hr: ∀ r,row=some r→ ∃ o:Obj,A.heap[r]? = some o∧o.isCells=false):aT X (fun _=>False) v R A B:=by
 have hk:Kept (fun k=>row=some k) A B:=⟨b.os,b.tape,b.output,b.size,fun k hk hs=>b.block k hk (fun e=>hs e.symm)⟩;have hn: ∀ k q,A.heap[k]? = some q→q.isCells=true→ ¬ (row=some k):=by
  intro k q d hc e;obtain ⟨s,c,f⟩:=hr k e;rw [d] at c;injection c with c;subst c;rw [hc] at f;cases f
 refine ⟨b.size,fun _ _ _ _ h=>h.elim,fun n p g i=>⟨n,p,g,i.kept hk (fun k l=> ?_),hR g,fun k o j hc _ _=>hk.aG (hn k o j hc) j,fun k _ h=>h⟩⟩;obtain ⟨q,d,m⟩:=i.cells l;exact hn k q d m
def ak8 (hR: ∀ a,R a a) (d: ∀ a b c,R a b→R b c→R a c) {β:Type} {f:World} {g:Nat}:OwnFrom g (fun (_:β) W=>aT X (fun _=>False) v R f W):=
 fun _ _ _ _ hs h hr=>hs.trans d (aT.qj hR h (fun r e=>(hr r e).2))
end
def BD {V:aB} (s:nS (rJ V)):nS (uq V):=⟨s.table,s.index,s.number,s.hi,s.hn,s.h0,s.hc.1⟩
def aqm {V:aB} (s:nS (rJ V)):oK (BD s)=oK s:=rfl
def pV {V:aB} (a:List (nS (rJ V))):List (nS (uq V)):=a.flatMap fun s=>BD s :: vO V (s.number%32768) s.hc.2
def G8 (V:aB) (first:Nat) (h:gU V first):List (nS (uq V)):=pV (vO V first h.2)
def acH {V:aB} (a:List (nS (rJ V))) (s:nS (rJ V)):pV (a++[s])=pV a++(BD s :: vO V (s.number%32768) s.hc.2):=by simp [pV]
def aqL {V:aB} {a b:List (nS (rJ V))} (h:a <+: b):pV a <+: pV b:=by
 obtain ⟨r,rfl⟩:=h;exact ⟨pV r,by simp [pV]⟩
def ZK {Pc:Nat→Prop} (V:aB) (t:Nat) (a:Bo Pc V.C t):(vO V t a).length≤32:=aeL _ _ _ _ _
def XW {V:aB}: ∀ a:List (nS (rJ V)),(pV a).length≤33*a.length
 | []=>by simp [pV]
 | s :: a=>by
  have b:=XW a;have c:=ZK V (s.number%32768) s.hc.2
  have:pV (s :: a)=(BD s :: vO V (s.number%32768) s.hc.2)++pV a:=by simp [pV]
  rw [this,oL,iO,iO];omega
def aac (n:Nat) (hn:10≤n) (X:Nat→Prop) (v bv G first B:Nat) (V:aB) (Cv Lv:Value) (w:World) (hV:aP w v Cv Lv V)
  (ai:w.heap[bv]? = some (.cells #[.pointer (some ⟨v,0,none⟩)] 82 (0,0))) (al:w.heap[G]? = some (.cells #[.int .i64 (first:Nat)] 3 (0,0))) (OM: ¬ X G) (IJ: ¬ X bv) (ba: ¬ eX v Cv Lv G) (bb: ¬ eX v Cv Lv bv)
  (Fq: ∀ k,X k→k<B) (hF:gU V first):
  QC n 174 #[.pointer (some ⟨bv,0,none⟩),.pointer (some ⟨G,0,none⟩)] (fun x:nS (uq V)=> #[oK x]) (aT X (fun k=>B≤k) v dK) (fun ys=>ys=G8 V first hF) (fun pre=>pre <+: G8 V first hF) 1056 B w:=by
 intro l J Jx W hW bN p an hY h0;have H: ∀ k,W.heap.size≤k→ ¬ X k:=fun k hk j=>by have:=Fq _ j;omega
 have B0:lZ X v [(bv,.cells #[.pointer (some ⟨v,0,none⟩)] 82 (0,0)),(G,.cells #[.int .i64 (first:Nat)] 3 (0,0))] (dK V) W:=by
  refine ⟨⟨Cv,Lv,V,hV.below hW,rfl,?_⟩,?_,?_,?_⟩
  ·intro x j;simp only [cO,jM,jO] at j;rcases j with rfl | rfl
   ·exact bb
   ·exact ba
  ·intro x j;simp only [cO,jM,jO] at j;rcases j with rfl | rfl
   ·exact (hW.block _ (aK ai)).trans ai
   ·exact (hW.block _ (aK al)).trans al
  ·intro x j;simp only [cO,jM,jO] at j;rcases j with rfl | rfl <;> rfl
  ·intro x j;simp only [cO,jM,jO] at j;rcases j with rfl | rfl
   ·exact IJ
   ·exact OM
 have B1:=B0.lay (.cells #[.func (.yield l) #[] #[]] 244) rfl (H _ (aO _));have aD:J [] (W.alloc (.cells #[.func (.yield l) #[] #[]] 244)):=p.alloc _ h0;have c1:(W.alloc (.cells #[.func (.yield l) #[] #[]] 244)).cell? ⟨bv,0,none⟩=some (.pointer (some ⟨v,0,none⟩)):=(aF B1.b1 0).trans rfl;have c2:(W.alloc (.cells #[.func (.yield l) #[] #[]] 244)).cell? ⟨G,0,none⟩=some (.int .i64 (first:Nat)):=(aF B1.b2 0).trans rfl;have bd:(W.alloc (.cells #[.func (.yield l) #[] #[]] 244)).heap.size=W.heap.size+1:=sm;have ao:aP (W.alloc (.cells #[.func (.yield l) #[] #[]] 244)) v Cv Lv V:=(hV.below hW).alloc _;refine callsIn_of_wp_marks Tryz.func174 rfl trivial ?_ rfl;simp only [Tryz.ntmps174,jm,iO,vV,Nat.reduceAdd,Nat.reduceSub,BX,BZ,Cb,Cc,qy,rU];have Hn:=ah (RF (W.alloc (.cells #[.func (.yield l) #[] #[]] 244)) v first)
 have ae:=(B1.lay (.cells #[.pointer (some ⟨v,0,none⟩)] 82) rfl (H _ om)).lay (.cells #[.int .i64 (first:Nat)] 3) rfl (H _ (by simp;omega));simp only [jV] at ae Hn;have aq:=ah ae;have B4:=ah (ae.sub (cs:=[(W.heap.size,.cells #[.func (.yield l) #[] #[]] 244 (0,0)),(bv,.cells #[.pointer (some ⟨v,0,none⟩)] 82 (0,0))]) sm);have bf:=ah ((Y8 p (C:=W.heap.size) (aO _)).alloc (.cells #[.int .i64 (first:Nat)] 3) (p.alloc (.cells #[.pointer (some ⟨v,0,none⟩)] 82) aD));have aE:=ah ao;have Rf:=fun hf=>ao.qV (W.heap.size+1+1) hf;clear B0 B1 al ai h0 ae aD ao
 gi_wp2_with fail
 refine ⟨trivial,fun _=>om,(fE.2 Hn).mono ?_⟩;rintro e q ⟨rfl,rfl⟩
 gi_wp2_with fail
 generalize ar:((W.alloc (.cells #[.func (.yield l) #[] #[]] 244)).alloc (.cells #[.pointer (some ⟨v,0,none⟩)] 82)).alloc (.cells #[.int .i64 (first:Nat)] 3)=q at*;have aL:aP q v Cv Lv V:=by rw [← ar];exact (aE.alloc _).alloc _
 have bO:q.heap.size=W.heap.size+3:=by rw [← ar];simp
 have II:=RG (Pc:=rJ V) (n - 1) om X (fun _=>False) dK v (W.heap.size+1) (W.heap.size+1+1) first V Cv Lv q aL aq.b1 aq.b0 (H _ om) (fun hf=>by have:=Rf hf;rw [bd] at this;omega) hF.1.1.2 hF.2;clear aq ar aE c1 c2 aL Hn;refine wpIn_rangeFunc_ownH rfl om (gf:=182) (lb:= #[.pointer (some ⟨W.heap.size+1,0,none⟩),.pointer (some ⟨W.heap.size+1+1,0,none⟩)]) rfl trivial (enters_of Tryz.func182 kr rfl) II (fun h k=>aT.trans (R:=dK) (fun _ _ _ a b=>tX a b) h k) (fun W l o o' _ hl hc _=>aT.turn (R:=dK) (fun _=>rfl) W l o o' hl hc id) (bG _ _) (fun _=>rfl)
  (fun pre d=>J (pV pre) d∧lZ X v [(W.heap.size,.cells #[.func (.yield l) #[] #[]] 244 (0,0)),(bv,.cells #[.pointer (some ⟨v,0,none⟩)] 82 (0,0))] (dK V) d)
  (fun c pre d=>c= .ret∧ ∃ S,S <+: pV pre∧Jx S d)
  (fun _ _ _ _ hs i hr=>⟨p _ _ _ _ hs.1 i (fun r e=>⟨by have:=(hr r e).1;omega,(hr r e).2⟩),hs.2.qj i (fun r e=>(hr r e).2)⟩)
  (fun _ _ _ _ _ hs i hr=>by obtain ⟨e,S,h1,z⟩:=hs;exact ⟨e,S,h1,an _ _ _ _ z i (fun r e=>⟨by have:=(hr r e).1;omega,(hr r e).2⟩)⟩)
  ⟨uh bf,uh B4⟩
  (fun x a' d=> ∃ u,lZ X v [(u,.cells #[.int .i64 ((x.table:Nat):Int),.int .i64 ((x.index:Nat):Int),.int .u16 ((x.number:Nat):Int)] 219 (0,0))] (dK V) d∧a'={ tmps:= #[.func (.yield l) #[] #[],.pointer (some ⟨bv,0,none⟩),.pointer (some ⟨G,0,none⟩),.pointer (some ⟨W.heap.size,0,none⟩),.pointer (some ⟨u,0,none⟩),undef,.pointer (some ⟨v,0,none⟩),.int .i64 (first:Nat),.func (.func 182) #[] #[.pointer (some ⟨W.heap.size+1,0,none⟩),.pointer (some ⟨W.heap.size+1+1,0,none⟩)],oK x,undef,undef,undef,undef,undef,undef,undef,undef,undef,undef,undef,undef,undef,undef],defers:=[] })
  (fun x a' _ A' B' row hs i hr=>by
   obtain ⟨u,z,h3⟩:=hs;exact ⟨u,z.qj i (fun r e=>(hr r e).2),h3⟩)
  ?assign ?body ?done ?stop
 case assign=>
  rintro O pre x d K ⟨Fh,T⟩ E;have bR:W.heap.size<d.heap.size:=aK T.b0;unfold oK
  gi_wp2
  exact E _ _ ((KeepsOthers.alloc _ _).from _) (aT.below (R:=dK) (fun _=>rfl) (fC)) ⟨p.alloc _ Fh,T.below (fC)⟩ ⟨_,(T.lay _ rfl (H _ om)).sub sm,rfl⟩
 case body=>
  rintro O pre x a' d bh ⟨r,hr⟩ ⟨Fh,T⟩ ⟨u,aM,rfl⟩ hlen;have I:=aM.join T;have bS:=XW pre;have c0:d.cell? ⟨W.heap.size,0,none⟩=some (.func (.yield l) #[] #[]):=(aF I.b1 0).trans rfl;have c1:d.cell? ⟨u,0,none⟩=some (.int .i64 ((x.table:Nat):Int)):=(aF I.b0 0).trans rfl;have c2:d.cell? ⟨u,1,none⟩=some (.int .i64 ((x.index:Nat):Int)):=(aF I.b0 1).trans rfl;have c3:d.cell? ⟨u,2,none⟩=some (.int .u16 ((x.number:Nat):Int)):=(aF I.b0 2).trans rfl;obtain ⟨bj,PV,assign2,body2,av,aR⟩:=SK (m':=n - 1 - 1 - 1) (hY (pV pre) (BD x) d Fh om);rw [aqm] at av;have bE:(Instr.yield l #[.agg #[.int .i64 ((x.table:Nat):Int),.int .i64 ((x.index:Nat):Int),.int .u16 ((x.number:Nat):Int)]]).run Tryz.prog d= .ok (.round l bj PV assign2 body2) d:=av;have I:=ah I;have Hr:=ah hr;clear T aM Fh av
  gi_wp2_with fail
  refine ⟨fun _=>om,SX aR ?_⟩;rintro e f ⟨N,(⟨rfl,a0⟩ | ⟨rfl,bl⟩)⟩
  rotate_left
  ·have U:KeepsFrom q.heap.size d f:=⟨N.1,fun k o hB hk m=>N.2.1 k o hk m om⟩
   gi_wp2
   exact ⟨U,rfl,pV pre++[BD x],⟨vO V (x.number%32768) x.hc.2,by rw [acH];simp⟩,bl⟩
  have U:KeepsFrom q.heap.size d f:=⟨N.1,fun k o hB hk m=>N.2.1 k o hk m om⟩;have Q:=I.xI (fun _ _ a b=>tX a b) N;have d0:f.cell? ⟨bv,0,none⟩=some (.pointer (some ⟨v,0,none⟩)):=(aF Q.b2 0).trans rfl;have d1:f.cell? ⟨u,2,none⟩=some (.int .u16 ((x.number:Nat):Int)):=(aF Q.b0 2).trans rfl;have aa:aT X (fun _=>False) v dK d f:=N.P6 (Y':=fun _=>False) (fun _ h=>False.elim h);have Hc:Hid (∀ W,_):=fun W=>CW x.number x.hn W;have Hm:Hid (∀ W,_):=fun W=>RF W v (x.number%32768);have bX:W.heap.size<f.heap.size:=aK Q.b1;have Q:=ah Q;have U:=ah U;have aa:=ah aa;clear N I c0 c1 c2 c3 aR
  gi_wp2
  gi_cut [18] from 14 (fun bm wc=>bm= .func (.func 182) #[] #[.pointer (some ⟨f.heap.size,0,none⟩),.pointer (some ⟨f.heap.size+1,0,none⟩)]∧wc=(f.drew.alloc (.cells #[.pointer (some ⟨v,0,none⟩)] 82)).alloc (.cells #[.int .i64 ((x.number%32768:Nat):Int)] 3))
  case first=>
   gi_region_with (first
    | (
     refine ⟨trivial,fun _=>om,(CallsIn.inRound O (fE.2 (uh Hc _))).mono ?_⟩;rintro e w3 ⟨rfl,rfl⟩)
    | (
     refine ⟨trivial,fun _=>om,(CallsIn.inRound O (fE.2 (uh Hm _))).mono ?_⟩;rintro e w3 ⟨rfl,rfl⟩))
   all_goals
    gi_wp2
    gi_meet
    exact ⟨rfl,rfl⟩
  case rest=>
   obtain ⟨rfl,ad⟩:=hcut;have L:=((Q.below (B:=f.drew) ⟨rfl,rfl,rfl,aO _,fun _ _=>rfl⟩).lay (.cells #[.pointer (some ⟨v,0,none⟩)] 82) rfl (H _ (by show W.heap.size≤f.heap.size;omega))).lay (.cells #[.int .i64 ((x.number%32768:Nat):Int)] 3) rfl (H _ (by rw [jV];show W.heap.size≤f.heap.size+1;omega));have a1:J (pV pre++[BD x]) wc:=by
    rw [ad];exact p.alloc _ (p.alloc _ (p _ f f.drew none a0 ⟨rfl,rfl,rfl,aO _,fun _ _ _=>rfl⟩ (fun r e=>by cases e)))
   have af:aC f wc:=by
    rw [ad];exact ((bG _ f).drew.alloc (aO _) _).alloc (by rw [jV];show f.heap.size≤f.heap.size+1;omega) _
   have b3:wc.heap.size=f.heap.size+2:=by rw [ad];simp
   rw [← ad] at L;simp only [jV] at L;change lZ X v ((f.heap.size+1,_) :: (f.heap.size,_) :: _) (dK V) wc at L;have Gx:KeepsFrom q.heap.size d wc:=U.trans ⟨af.size,fun k o _ hk _=>(af.block k (aK hk)).trans hk⟩;have a2:aT X (fun _=>False) v dK d wc:=aT.trans (R:=dK) (fun _ _ _ a b=>tX a b) aa (aT.below (R:=dK) (fun _=>rfl) af);have a3:wc.heap[O]? = some (.loop r):=Gx.same O _ bh Hr rfl;have a4:d.heap.size≤wc.heap.size:=Gx.size;obtain ⟨C6,L6,V6,a5,bn,a6⟩:=L.bH;obtain rfl:V=V6:=bn;have UG:=RG (Pc:=uq V) (n - 1 - 1 - 1) om X (fun _=>False) dK v f.heap.size (f.heap.size+1) (x.number%32768) V C6 L6 wc a5 L.b1 L.b0 (H _ om) (a6 _ (List.Mem.head _)) x.hc.1.2 x.hc.2;have B7:=ah (L.sub (cs:=[(W.heap.size,.cells #[.func (.yield l) #[] #[]] 244 (0,0)),(bv,.cells #[.pointer (some ⟨v,0,none⟩)] 82 (0,0))]) sm);have b4:(pV pre).length≤33*31:=om
   clear L Q ad Hc Hm d0 d1 a0 a5 a6 II U aa Hr af
   gi_wp2
   refine wpIn_rangeFunc_ownN (l₀:=O) (r₀:=r) rfl a3 om (gf:=182) (lb:= #[.pointer (some ⟨f.heap.size,0,none⟩),.pointer (some ⟨f.heap.size+1,0,none⟩)]) rfl trivial (enters_of Tryz.func182 kr rfl)
    (UG.inRound O) (fun h k=>aT.trans (R:=dK) (fun _ _ _ a b=>tX a b) h k) (fun W l o o' _ hl hc _=>aT.turn (R:=dK) (fun _=>rfl) W l o o' hl hc id) (bG _ _) (fun _=>rfl)
    (fun ip g=>J (pV pre++BD x :: ip) g∧lZ X v [(W.heap.size,.cells #[.func (.yield l) #[] #[]] 244 (0,0)),(bv,.cells #[.pointer (some ⟨v,0,none⟩)] 82 (0,0))] (dK V) g∧KeepsFrom q.heap.size d g∧aT X (fun _=>False) v dK d g)
    (fun c ip g=>c= .ret∧Jx (pV pre++BD x :: ip) g∧KeepsFrom q.heap.size d g)
    (fun s A B row hs i hr=>⟨p _ _ _ _ hs.1 i (fun r e=>⟨by have:=(hr r e).1;omega,(hr r e).2⟩),hs.2.1.qj i (fun r e=>(hr r e).2),ownFrom_keepsFrom (β:=Unit) a4 () A B row hs.2.2.1 i hr,ak8 (R:=dK) (fun _=>rfl) (fun _ _ _ a b=>tX a b) (β:=Unit) () A B row hs.2.2.2 i hr⟩)
    (fun c s A B row hs i hr=>⟨hs.1,an _ _ _ _ hs.2.1 i (fun r e=>⟨by have:=(hr r e).1;omega,(hr r e).2⟩),ownFrom_keepsFrom (β:=Unit) a4 () A B row hs.2.2 i hr⟩)
    ⟨a1,uh B7,Gx,a2⟩
    (fun y aw g=> ∃ t,g.heap[t]? = some (.cells #[.int .i64 ((y.table:Nat):Int),.int .i64 ((y.index:Nat):Int),.int .u16 ((y.number:Nat):Int)] 219 (0,0))∧aw={ tmps:= #[.func (.yield l) #[] #[],.pointer (some ⟨bv,0,none⟩),.pointer (some ⟨G,0,none⟩),.pointer (some ⟨W.heap.size,0,none⟩),.pointer (some ⟨u,0,none⟩),.pointer (some ⟨t,0,none⟩),.pointer (some ⟨v,0,none⟩),.int .i64 (first:Nat),.func (.func 182) #[] #[.pointer (some ⟨W.heap.size+1,0,none⟩),.pointer (some ⟨W.heap.size+1+1,0,none⟩)],oK x,.func (.yield l) #[] #[],.agg #[.int .i64 ((x.table:Nat):Int),.int .i64 ((x.index:Nat):Int),.int .u16 ((x.number:Nat):Int)],.bool true,.bool false,u14,u15,u16,u17,.func (.func 182) #[] #[.pointer (some ⟨f.heap.size,0,none⟩),.pointer (some ⟨f.heap.size+1,0,none⟩)],oK y,u20,u21,u22,u23],defers:=[] })
    (fun y aw _ A' B' row hs i hr=>by
     obtain ⟨t,z,h3⟩:=hs;refine ⟨t,?_,h3⟩;rw [i.block t (aK z) (fun e=>by
      obtain ⟨_,o,m,hc⟩:=hr t e.symm;rw [z] at m;injection m with m;subst m;cases hc)]
     exact z)
    ?assign2 ?body2 ?done2 ?stop2
   case assign2=>
    rintro l3 ip y g K ⟨M,F,g3,g4⟩ E;unfold oK
    gi_wp2
    have hb:aC g (g.alloc (.cells #[.int .i64 ((y.table:Nat):Int),.int .i64 ((y.index:Nat):Int),.int .u16 ((y.number:Nat):Int)] 219)):=fC;exact E _ _ ((KeepsOthers.alloc _ _).from _) (aT.below (R:=dK) (fun _=>rfl) hb) ⟨p.alloc _ M,F.below hb,g3.trans ((KeepsOthers.alloc _ _).from _),aT.trans (R:=dK) (fun _ _ _ a b=>tX a b) g4 (aT.below (R:=dK) (fun _=>rfl) hb)⟩ ⟨_,aX _ _,rfl⟩
   case stop2=>
    rintro c ip g ax ⟨rfl,M,F⟩
    gi_wp2
    exact ⟨F,rfl,pV pre++BD x :: ip,by
     rw [acH];obtain ⟨rr,bo⟩:=ax;exact ⟨rr,by rw [← bo];simp⟩,M⟩
   case done2=>
    rintro ip g hS ⟨M,F,g3,g4⟩
    gi_wp2
    refine ⟨g3,g4,?_,F⟩;rw [acH,← hS];exact M
   case body2=>
    rintro l3 ip y aw g b5 _ ⟨M,F,g3,g4⟩ ⟨t,ab,rfl⟩ bp;have e0:g.cell? ⟨W.heap.size,0,none⟩=some (.func (.yield l) #[] #[]):=(aF F.b0 0).trans rfl;have e1:g.cell? ⟨t,0,none⟩=some (.int .i64 ((y.table:Nat):Int)):=(aF ab 0).trans rfl;have e2:g.cell? ⟨t,1,none⟩=some (.int .i64 ((y.index:Nat):Int)):=(aF ab 1).trans rfl;have e3:g.cell? ⟨t,2,none⟩=some (.int .u16 ((y.number:Nat):Int)):=(aF ab 2).trans rfl;have a7:pV pre++BD x :: (ip++[y])=(pV pre++BD x :: ip)++[y]:=sm;obtain ⟨bq,bw,bA,az,a8,bB⟩:=SK (m':=n - 1 - 1 - 1 - 1 - 1) (hY (pV pre++BD x :: ip) y g M (by rw [oL,iO];omega));have bL:(Instr.yield l #[.agg #[.int .i64 ((y.table:Nat):Int),.int .i64 ((y.index:Nat):Int),.int .u16 ((y.number:Nat):Int)]]).run Tryz.prog g= .ok (.round l bq bw bA az) g:=a8;have G2:=ah F;have G3:=ah g3;have G4:=ah g4;clear a8 M F g3 g4 ab UG B7 a1 Gx a2 a3
    gi_wp2_with fail
    refine ⟨fun _=>om,SX bB ?_⟩;rintro e W8 ⟨Z,(⟨rfl,a9⟩ | ⟨rfl,UA⟩)⟩
    ·have IG: ∀ b,B≤b→KeepsFrom b g W8:=fun b hb=>⟨Z.1,fun k o hB hk m=>Z.2.1 k o hk m om⟩;have ag:aT X (fun _=>False) v dK g W8:=Z.P6 (Y':=fun _=>False) (fun _ h=>False.elim h);have f1:=IG wc.heap.size om;have f2:=G2.xI (fun _ _ a b=>tX a b) Z;have f3:=G3.trans (IG q.heap.size om);have f4:=aT.trans (R:=dK) (fun _ _ _ a b=>tX a b) G4 ag;rw [← a7] at a9
     gi_wp2
     exact ⟨f1,ag,a9,f2,f3,f4⟩
    ·have IG: ∀ b,B≤b→KeepsFrom b g W8:=fun b hb=>⟨Z.1,fun k o hB hk m=>Z.2.1 k o hk m om⟩;have f1:=IG wc.heap.size om;have f3:=G3.trans (IG q.heap.size om);rw [← a7] at UA
     gi_wp2
     exact ⟨f1,rfl,UA,f3⟩
 case done=>
  rintro D ys d hD hS ⟨Fh,_⟩ E
  gi_wp2
  refine ⟨sm,.inl ⟨_,_,rfl,run_takeDeferred E,?_⟩⟩;refine ⟨_,DF rfl _ _ _,⟨_,rfl⟩,.inl ⟨_,?_,p.putObj _ Fh om E rfl⟩⟩;rw [hS];rfl
 case stop=>
  rintro D c pre d hD ax ⟨rfl,S,h1,z⟩ E
  gi_wp2
  refine ⟨sm,.inl ⟨_,_,rfl,run_takeDeferred E,?_⟩⟩;exact ⟨_,DF rfl _ _ _,⟨_,rfl⟩,.inr ⟨S,h1.trans (aqL ax),an.putObj _ z om E rfl⟩⟩
def wV {V:aB} (a:List (nS (uq V))):List Nat:=a.map fun s=>s.number%32768
def akT {V:aB} (a:List (nS (uq V))) (s:nS (uq V)):wV (a++[s])=wV a++[s.number%32768]:=by simp [wV]
def aml {Pc:Nat→Prop} (V:aB) (t:Nat) (a:Bo Pc V.C t):(vO V t a).map (fun s=>s.number%32768)=dJ (numsOf (cl V.C t)):=by
 have:=aeM t (numsOf (cl V.C t)) a (numsOf_length _) 32 (aO _)
 rw [J4 (by rw [numsOf_length];exact aO _)] at this;exact this
def air {V:aB}: ∀ a:List (nS (rJ V)),wV (pV a)=(a.map fun s=>s.number%32768).flatMap fun s=>s :: dJ (numsOf (cl V.C s))
 | []=>rfl
 | s :: a=>by
  have c:pV (s :: a)=(BD s :: vO V (s.number%32768) s.hc.2)++pV a:=by simp [pV]
  have b:=air a;have d:=aml V (s.number%32768) s.hc.2;unfold wV at b ⊢;rw [c,rQ,b,jU,jU,qx,d];rfl
def aae (V:aB) (first:Nat) (h:gU V first):wV (G8 V first h)=jA V.C first:=by
 unfold G8 jA;rw [air,aml]
def Iy {V:aB} (b:V.C.length≤256) (a:List (nS (uq V))):List U256:=a.map fun s=>⟨s.number%32768,by have:=s.hc.2;omega⟩
def apN {V:aB} (b:V.C.length≤256) (a:List (nS (uq V))):(Iy b a).map (·.1)=wV a:=by simp [Iy,wV]
def apM {V:aB} (a:V.C.length≤256) (b:List (nS (uq V))) (s:nS (uq V)):Iy a (b++[s])=Iy a b++[⟨s.number%32768,by have:=s.hc.2;omega⟩]:=by simp [Iy]
def apL {V:aB} (b:V.C.length≤256) (a:List (nS (uq V))):(Iy b a).length=a.length:=by simp [Iy]
def ai9 (n:Nat) (hn:20≤n) (X:Nat→Prop) (v bv g first B:Nat) (V:aB) (Cv Lv:Value) (w:World) (hV:aP w v Cv Lv V) (L:V.C.length≤256)
  (O:w.heap[bv]? = some (.cells #[.pointer (some ⟨v,0,none⟩)] 82 (0,0))) (Q:w.heap[g]? = some (.cells #[.int .i64 (first:Nat)] 3 (0,0))) (OM: ¬ X g) (IJ: ¬ X bv) (aw: ¬ eX v Cv Lv g) (ax: ¬ eX v Cv Lv bv)
  (Fq: ∀ k,X k→k<B) (hF:gU V first):
  ML n 166 #[.pointer (some ⟨g,0,none⟩),.pointer (some ⟨bv,0,none⟩)] (fun u:U256=> #[Value.int .i64 ((u.1:Nat):Int)]) (aT X (fun k=>B≤k) v dK) (fun ys=>ys.map (·.1)=mF V.C first) 1057 B w:=by
 intro l J W U a2 m hY h0;have z: ∀ k,W.heap.size≤k→ ¬ X k:=fun k hk d=>by have:=Fq _ d;omega
 have t:first<256:=by have:=hF.1.1.2;omega
 have B0:lZ X v [(bv,.cells #[.pointer (some ⟨v,0,none⟩)] 82 (0,0)),(g,.cells #[.int .i64 (first:Nat)] 3 (0,0))] (dK V) W:=by
  refine ⟨⟨Cv,Lv,V,hV.below U,rfl,?_⟩,?_,?_,?_⟩
  ·intro x d;simp only [cO,jM,jO] at d;rcases d with rfl | rfl
   ·exact ax
   ·exact aw
  ·intro x d;simp only [cO,jM,jO] at d;rcases d with rfl | rfl
   ·exact (U.block _ (aK O)).trans O
   ·exact (U.block _ (aK Q)).trans Q
  ·intro x d;simp only [cO,jM,jO] at d;rcases d with rfl | rfl <;> rfl
  ·intro x d;simp only [cO,jM,jO] at d;rcases d with rfl | rfl
   ·exact IJ
   ·exact OM
 have E:=B0.lay (.cells #[.func (.yield l) #[] #[]] 165) rfl (z _ (aO _));have ab:J [] (W.alloc (.cells #[.func (.yield l) #[] #[]] 165)):=m.alloc _ h0;have c2:(W.alloc (.cells #[.func (.yield l) #[] #[]] 165)).cell? ⟨g,0,none⟩=some (.int .i64 (first:Nat)):=(aF E.b2 0).trans rfl;obtain ⟨fn,tmps,assign,body,hy,hR⟩:=hY [] ⟨first,t⟩ _ ab sm;refine callsIn_of_wp_marks Tryz.func166 rfl trivial ?_ rfl;simp only [Tryz.ntmps166,jm,iO,vV,Nat.reduceAdd,Nat.reduceSub,BX,BZ,Cb,Cc,qy,rU];have E:=ah E;clear B0 Q O h0
 gi_wp2_with fail
 refine ⟨fun _=>om,hR.mono ?_⟩;rintro e f ⟨rfl,ad,ae⟩;have F:=E.xI (fun _ _ a b=>tX a b) ae;obtain ⟨C3,L3,V3,G,az,aD⟩:=F.bH;obtain rfl:V=V3:=az;have c3:f.cell? ⟨g,0,none⟩=some (.int .i64 (first:Nat)):=(aF F.b2 0).trans rfl;have d3:f.cell? ⟨bv,0,none⟩=some (.pointer (some ⟨v,0,none⟩)):=(aF F.b1 0).trans rfl;have a3:W.heap.size+1≤f.heap.size:=by have:=ae.1;simp at this;omega
 have Hn:=ah (V9 f v first);have H:=(F.lay (.cells #[.pointer (some ⟨v,0,none⟩)] 82) rfl (z _ om)).lay (.cells #[.int .i64 (first:Nat)] 3) rfl (z _ (by simp;omega));simp only [jV] at H;have S:=ah H;have B4:=ah (H.sub (cs:=[(W.heap.size,.cells #[.func (.yield l) #[] #[]] 165 (0,0))]) sm);have aE:=ah ((Y8 m (C:=W.heap.size) (aO _)).alloc (.cells #[.int .i64 (first:Nat)] 3) (m.alloc (.cells #[.pointer (some ⟨v,0,none⟩)] 82) ad));have af:=ah G;have Rf:=fun p=>G.qV f.heap.size p;have ag:=fun p=>G.qV (f.heap.size+1) p;clear H F G ad ab E hR hy aD
 gi_wp2_with fail
 refine ⟨trivial,fun _=>om,(fE.2 Hn).mono ?_⟩;rintro e i ⟨rfl,rfl⟩
 gi_wp2_with fail
 generalize T:(f.alloc (.cells #[.pointer (some ⟨v,0,none⟩)] 82)).alloc (.cells #[.int .i64 (first:Nat)] 3)=i at*;have ai:aP i v C3 L3 V:=by rw [← T];exact (af.alloc _).alloc _
 have aL:i.heap.size=f.heap.size+2:=by rw [← T];simp
 have aM:=(aac (n - 1) om X v f.heap.size (f.heap.size+1) first (i.heap.size+2) V C3 L3 i ai S.b1 S.b0 (z _ om) (z _ om) (fun p=>by have:=ag p;omega) (fun p=>by have:=Rf p;omega) (fun k d=>by have:=Fq k d;omega) hF).all;clear S T af c3 d3 c2 ai Hn Rf ag;refine RU om (gf:=174) (lb:= #[.pointer (some ⟨f.heap.size,0,none⟩),.pointer (some ⟨f.heap.size+1,0,none⟩)]) rfl (enters_of Tryz.func174 kr rfl) aM
  (fun A B C h k=>aT.trans (R:=dK) (fun _ _ _ a b=>tX a b) h k) (fun W o o' hl hc=>aT.turn (R:=dK) (fun _=>rfl) W _ o o' hl hc om) (bG _ _) (fun _=>rfl)
  (fun pre c=>J (⟨first,t⟩ :: Iy L pre) c∧lZ X v [(W.heap.size,.cells #[.func (.yield l) #[] #[]] 165 (0,0))] (dK V) c)
  (fun _ _ _ _ hs M hr=>⟨m _ _ _ _ hs.1 M (fun r e=>⟨by have:=(hr r e).1;omega,(hr r e).2⟩),hs.2.qj M (fun r e=>(hr r e).2)⟩)
  ⟨uh aE,uh B4⟩
  (fun x Z c=> ∃ j,c.heap[j]? = some (.cells #[.int .i64 ((x.table:Nat):Int),.int .i64 ((x.index:Nat):Int),.int .u16 ((x.number:Nat):Int)] 219 (0,0))∧Z={ tmps:= #[.func (.yield l) #[] #[],.pointer (some ⟨g,0,none⟩),.pointer (some ⟨bv,0,none⟩),.pointer (some ⟨W.heap.size,0,none⟩),.pointer (some ⟨j,0,none⟩),.func (.yield l) #[] #[],.int .i64 (first:Nat),.bool true,.bool false,.pointer (some ⟨v,0,none⟩),.int .i64 (first:Nat),.func (.func 174) #[] #[.pointer (some ⟨f.heap.size,0,none⟩),.pointer (some ⟨f.heap.size+1,0,none⟩)],oK x,undef,undef,undef,undef,undef,undef],defers:=[] })
  (fun x Z _ A' B' row hs M hr=>by
   obtain ⟨j,h2,h3⟩:=hs;refine ⟨j,?_,h3⟩;rw [M.block j (aK h2) (fun e=>by
    obtain ⟨_,o,s,hc⟩:=hr j e.symm;rw [h2] at s;injection s with s;subst s;cases hc)]
   exact h2)
  ?assign ?body ?done
 case assign=>
  rintro l2 pre x c K ⟨q,y⟩ N;unfold oK
  gi_wp2
  exact N _ _ ((KeepsOthers.alloc _ _).from _) (aT.below (R:=dK) (fun _=>rfl) (fC)) ⟨m.alloc _ q,y.below (fC)⟩ ⟨_,aX _ _,rfl⟩
 case body=>
  rintro l2 pre x Z c a4 ⟨r,hr⟩ ⟨q,y⟩ ⟨j,al,rfl⟩ hlen;have c1:c.cell? ⟨W.heap.size,0,none⟩=some (.func (.yield l) #[] #[]):=(aF y.b0 0).trans rfl;have c2:c.cell? ⟨j,2,none⟩=some (.int .u16 ((x.number:Nat):Int)):=(aF al 2).trans rfl;have Hc:Hid (∀ W,_):=fun W=>CW x.number x.hn W;have an:J (⟨first,t⟩ :: Iy L pre) c.drew:=m _ c c.drew none q ⟨rfl,rfl,rfl,aO _,fun _ _ _=>rfl⟩ (fun r e=>by cases e);have aa:x.number%32768<256:=by have:=x.hc.2;omega
  have ao:(⟨first,t⟩ :: Iy L pre)++[⟨x.number%32768,aa⟩]=⟨first,t⟩ :: Iy L (pre++[x]):=by rw [apM];rfl
  have OO:=hY _ ⟨x.number%32768,aa⟩ c.drew an (by simp [apL];omega);rw [ao] at OO;obtain ⟨a5,PV,assign2,body2,aR,a0⟩:=SK (m':=n - 1 - 1 - 1) OO;have Hx:=x.hn;have a1:=ah (y.below (B:=c.drew) ⟨rfl,rfl,rfl,aO _,fun _ _=>rfl⟩);dsimp only at aR;clear an OO q y ao al;generalize x.number%32768=cc at*;generalize x.number=nn at*;generalize oK x=sv at*
  gi_wp2
  gi_region_with (first
   | (
    refine ⟨trivial,fun _=>om,(CallsIn.inRound l2 (fE.2 (uh Hc _))).mono ?_⟩;rintro e w3 ⟨rfl,rfl⟩)
   | (
    refine ⟨fun _=>om,SX a0 ?_⟩;rintro e w3 ⟨rfl,aq,I⟩))
  all_goals
   have B5:=a1.xI (fun _ _ a b=>tX a b) I;have ar:KeepsFrom i.heap.size c w3:=⟨I.1,fun k o hB hk s=>I.2.1 k o hk s om⟩;have av:aT X (fun k=>i.heap.size+2≤k) v dK c w3:=aT.trans (R:=dK) (fun _ _ _ a b=>tX a b) (aT.below (R:=dK) (fun _=>rfl) (B:=c.drew) ⟨rfl,rfl,rfl,aO _,fun _ _=>rfl⟩) (I.P6 (Y':=fun k=>i.heap.size+2≤k) (fun k h=>om));simp only [aL] at ar av
   gi_wp2
   first
    | exact ⟨ar,av,aq,B5⟩
    | exact ⟨aq,B5⟩
 case done=>
  rintro D ys c hD hS ⟨q,_⟩ N
  gi_wp2
  refine ⟨sm,.inl ⟨_,_,rfl,run_takeDeferred N,?_⟩⟩;refine ⟨_,DF rfl _ _ _,⟨_,rfl⟩,_,?_,m.putObj _ q om N rfl⟩;rw [jU,apN,hS,aae];rfl
end Go.Proofs.YtknjjjenklfeoaaGreatDoor
