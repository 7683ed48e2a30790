import Derived.Test.YtknjjjenklfeoaaGreatDoorU12
set_option maxHeartbeats 8000000
set_option maxRecDepth 100000
set_option linter.all false
namespace Go.Proofs.YtknjjjenklfeoaaGreatDoor
open Go.RowKit Go.Shelf
attribute [local go_sem ↓] dw fP fV kU mZ nC jR kP kJ kF lG lI kR kQ kV ng nD l9 nJ jE pW qM qO qA
attribute [local go_sem] dM fO fU gW gB aV kY mP mW mQ mO gX jT kN kH lq kX iM kG lu lD lC kM jc jd nH nK kW kZ mX nT mV mM nN qc qI qK qJ qH
attribute [local go_sem] pU pR Oper.semAt_some
def Env.qj {w W d:World} {v:Nat} {Cv Lv f g:Value} {V:aB} {i:List (Nat × Obj)} {row:Option Nat} {B:Nat} (h:Env w W v Cv Lv f g V i) (hB:w.heap.size≤B) (n: ∀ x ∈ i,x.2.isCells=true)
  (a:W.grownBy d row) (hr: ∀ r,row=some r→B≤r∧ ∃ o:Obj,W.heap[r]? = some o∧o.isCells=false):Env w d v Cv Lv f g V i:=by
 have hk:Kept (fun k=>row=some k) W d:=⟨a.os,a.tape,a.output,a.size,fun k hk hs=>a.block k hk (fun e=>hs e.symm)⟩;have hn: ∀ k o,W.heap[k]? = some o→o.isCells=true→ ¬ (row=some k):=by
  intro k o s hc e;obtain ⟨_,o',b,l⟩:=hr k e;rw [s] at b;injection b with b;subst b;rw [hc] at l;cases l
 have j: ∀ k,eX v f g k→ ¬ (row=some k):=by
  intro k j;obtain ⟨q,t,p⟩:=h.at'.cells j;exact hn k q t p
 refine ⟨h.step.own hk (fun k e=>⟨by have:=(hr k e).1;omega,fun c=>j k c e⟩),fun x c=> ?_⟩;obtain ⟨m,u,y⟩:=h.qo x c;exact ⟨hk.aG (hn _ _ m (n x c)) m,u,y⟩
def Env.n0 {w W:World} {v b:Nat} {o:Obj} {Cv Lv a c:Value} {V:aB} {d:List (Nat × Obj)} (h:Env w W v Cv Lv a c V ((b,o) :: d)): ¬ eX v a c b:=(h.qo (b,o) sm).2.2
def Env.n1 {w W:World} {v a b:Nat} {p o:Obj} {Cv Lv c d:Value} {V:aB} {e:List (Nat × Obj)} (h:Env w W v Cv Lv c d V ((a,p) :: (b,o) :: e)): ¬ eX v c d b:=(h.qo (b,o) sm).2.2
def dF.from {A B:World} {v:Nat} {a b c d:Value} {e f:aB} (h:aP A v a b e) (hs:dF A B v a b c d f) (D:Nat):KeepsFrom D A B:=
 ⟨hs.kept.size,fun _ _ _ hk g=>hs.kept.aG (h.Ry hk g) hk⟩
def aaR (a:Nat) (b:Array Value) (c:List (Nat × Obj)) (d:Nat→Nat) (M:Nat):Prop:=
 ∀ W n,(∀ x ∈ c,W.heap[x.1]? = some x.2)→n<65536→n≠0→6≤n%32768∧n%32768<M→Calls Tryz.prog a (#[.int .u16 (n:Nat)]++b) W fun e f=>e= .returned (.int .u16 (d n:Nat))∧f=W
def uq (V:aB) (c:Nat):Prop:=6≤c∧c<V.C.length
def rJ (V:aB) (t:Nat):Prop:=uq V t∧Bo (uq V) V.C t
def bK.PU {A B:aB} (h:bK A B) {t:Nat} (a:rJ A t):rJ B t:=by
 have e:uq B=uq A:=by funext c;unfold uq;rw [h.len]
 unfold rJ;rw [e];exact ⟨a.1,h.ok a.2⟩
def RY {b:Nat→Nat} (e:Marks b): ∀ (a:List Nat) (V:aB),(∀ t ∈ a,rJ V t)→bK V (rM b V a)
 | [],V,_=>bK.refl V
 | t :: a,V,h=>by
  have d:=h t sm;have f:=alN e d.1.1 d.1.2 (fun c hc=>hc.1) d.2;exact f.trans (RY e a (Ae b V t) (fun x g=>f.PU (h x (by simp [g]))))
def VI (a:Nat→Nat): ∀ (b:List Nat) (V:aB),(rM a V b).L.length≤V.L.length+2*b.length
 | [],_=>by simp [rM]
 | t :: b,V=>by
  have c:=auY a V t;have d:=VI a b (Ae a V t);show (rM a (Ae a V t) b).L.length≤_;simp only [iO];omega
def aeV (V:aB) (first:Nat):(tH V first).length≤33:=by
 unfold tH dJ;have h:=afn (· != 0) (numsOf (cl V.C first));rw [numsOf_length] at h;simp only [iO,tY];omega
def alP (w:World) (v:Nat) (Cv Lv:Value) (V:aB) (h:aP w v Cv Lv V) (first:Nat) (hf:rJ V first) (hT:Bo (rJ V) V.C first) (hC:V.C.length≤256) (hL:V.L.length≤800000000)
  (z:Nat) (G:Array Value) (Ue:List (Nat × Obj)) (d:Nat→Nat) (U:Marks d) (ad:aaR z G Ue d V.C.length) (ec: ∀ args w,(callFunc z args).run Tryz.prog w= .ok (.enter z args) w) (ae: ∀ x ∈ Ue,w.heap[x.1]? = some x.2∧ ¬ eX v Cv Lv x.1):
  CallsIn Fence.wide 100 Tryz.prog 146 #[.pointer (some ⟨v,0,none⟩),.int .i64 (first:Nat),.func (.func z) #[] G] w fun e w'=>e= .returned (.tuple #[])∧ ∃ m q,dF w w' v Cv Lv m q (rM d V (tH V first)):=by
 have E0:=((Env.start h).lay (.cells #[.pointer (some ⟨v,0,none⟩)] 82)).lay (.cells #[.func (.func z) #[] G] 206);have I:=(E0.lay (.cells #[.pointer (some ⟨v,0,none⟩)] 82)).lay (.cells #[.int .i64 (first:Nat)] 3);simp only [jV] at E0 I;have c0:((w.alloc (.cells #[.pointer (some ⟨v,0,none⟩)] 82)).alloc (.cells #[.func (.func z) #[] G] 206)).cell? ⟨w.heap.size,0,none⟩=some (.pointer (some ⟨v,0,none⟩)):=(aF E0.o1 0).trans rfl;have X:=ah (awp ((w.alloc (.cells #[.pointer (some ⟨v,0,none⟩)] 82)).alloc (.cells #[.func (.func z) #[] G] 206)) v first);have I:=ah I;have H:=ah h;clear h E0;refine callsIn_of_wp_marks Tryz.func146 rfl trivial ?_ rfl;simp only [Tryz.ntmps146,jm,iO,vV,Nat.reduceAdd,Nat.reduceSub,BX,BZ,Cb,Cc,qy,rU]
 gi_wp2_with fail
 refine ⟨trivial,(fE.2 X).mono ?_⟩;rintro e W1 ⟨rfl,rfl⟩;simp only [jV]
 gi_wp2_with fail
 clear c0 X;generalize (((w.alloc (.cells #[.pointer (some ⟨v,0,none⟩)] 82)).alloc (.cells #[.func (.func z) #[] G] 206)).alloc (.cells #[.pointer (some ⟨v,0,none⟩)] 82)).alloc (.cells #[.int .i64 (first:Nat)] 3)=W2 at*;have ar:w.heap.size≤W2.heap.size:=I.step.kept.size;have af:=awo (Pc:=rJ V) 99 om (fun _=>False) v (w.heap.size+1+1) (w.heap.size+1+1+1) first (W2.heap.size+2) V Cv Lv W2 I.at' I.o1 I.o0 id id I.n0 I.n1 (fun _ h=>False.elim h) hf.1.2 hf hT;have E3:=ah (I.sub (cs:=[(w.heap.size+1,.cells #[.func (.func z) #[] G] 206 (0,0)),(w.heap.size,.cells #[.pointer (some ⟨v,0,none⟩)] 82 (0,0))]) sm);clear I;refine RU om (gf:=181) (lb:= #[.pointer (some ⟨w.heap.size+1+1+1,0,none⟩),.pointer (some ⟨w.heap.size+1+1,0,none⟩)]) rfl (enters_of Tryz.func181 kr rfl) af
  (fun A B C h k=>aT.trans (R:=bK) (fun _ _ _ a b=>a.trans b) h k) (fun W o o' S hc=>aT.turn bK.refl W _ o o' S hc om) (bG _ _) (fun _=>rfl)
  (fun pre f=> ∃ m q,Env w f v Cv Lv m q (rM d V (pre.map (·.1))) [(w.heap.size+1,.cells #[.func (.func z) #[] G] 206 (0,0)),(w.heap.size,.cells #[.pointer (some ⟨v,0,none⟩)] 82 (0,0))])
  (fun _ _ _ _ hs J hr=>by obtain ⟨m,q,E⟩:=hs;exact ⟨m,q,Env.qj E ar (by simp [Obj.isCells]) J hr⟩)
  ⟨Cv,Lv,uh E3⟩
  (fun x a' _=>a'={ tmps:= #[.pointer (some ⟨v,0,none⟩),.int .i64 (first:Nat),.func (.func z) #[] G,.pointer (some ⟨w.heap.size,0,none⟩),undef,.pointer (some ⟨w.heap.size+1,0,none⟩),.int .i64 ((x.1:Nat):Int),undef,undef,.pointer (some ⟨v,0,none⟩),.int .i64 (first:Nat),.func (.func 181) #[] #[.pointer (some ⟨w.heap.size+1+1+1,0,none⟩),.pointer (some ⟨w.heap.size+1+1,0,none⟩)],.int .i64 ((x.1:Nat):Int),undef,undef,undef,undef,undef,undef,undef,undef,undef,undef,undef,undef,undef,undef,undef,undef,undef,undef,undef,undef,undef],defers:=[] })
  (fun _ _ _ _ _ _ hs _ _=>hs)
  ?assign ?body ?done
 case assign=>
  rintro l pre x f K hi T
  gi_wp2
  exact T _ _ (KeepsFrom.refl _ _) (aT.below bK.refl (bG _ _)) hi rfl
 case done=>
  rintro D ys f hD hS ⟨m,q,E⟩ T
  gi_wp2
  refine ⟨sm,.inl ⟨_,_,rfl,run_takeDeferred T,?_⟩⟩;have J:=grownBy_putObj' f D (.deferred none);have hk:Kept (fun k=>k=D) f (f.putObj D (.deferred none)):=⟨J.os,J.tape,J.output,J.size,fun k hk hs=>J.block k hk (fun e=>hs (by injection e))⟩;refine ⟨_,DF rfl _ _ _,rfl,m,q,?_⟩;rw [← hS];exact E.step.own hk (by rintro k rfl;exact ⟨om,E.at'.Ry T rfl⟩)
 case body=>
  rintro l pre x a' W S ⟨r,hr⟩ ⟨m,q,E⟩ rfl hlen;have ab: ∀ t ∈ pre.map (·.1),rJ V t:=by
   intro t ht;obtain ⟨y,_,rfl⟩:=gY.1 ht;exact y.2
  have Y:=RY U (pre.map (·.1)) V ab;have zB:=VI d (pre.map (·.1)) V;rw [tY] at zB;have F:=Y.PU x.2;have Yt:rM d V (pre.unattach++[x.1])=Ae d (rM d V (pre.map (·.1))) x.1:=au0 d V (pre.map fun y:UM (rJ V)=>y.1) x.1;have av:=alN U F.1.1 F.1.2 (fun c hc=>hc.1) F.2;have aa:(rM d V (pre.map (·.1))).C.length=V.C.length:=Y.len;generalize rM d V (pre.map (·.1))=g at*;obtain ⟨x,a8⟩:=x;dsimp only at*;have c0:W.cell? ⟨w.heap.size,0,none⟩=some (.pointer (some ⟨v,0,none⟩)):=(aF E.o1 0).trans rfl;have Ht:=ah (VZ W v m q g E.at' x F.1.2);have Z:=numsOf_length (cl g.C x);have u:=ah E
  gi_wp2_with fail
  refine ⟨trivial,(CallsIn.inRound l (fE.2 Ht)).mono ?_⟩;rintro e i ⟨rfl,ag⟩;have F1:=((Env.start E.at').later ag).lay (.cells (tv (numsOf (cl g.C x))).toArray 169);have c1:(i.alloc (.cells (tv (numsOf (cl g.C x))).toArray 169)).cell? ⟨w.heap.size,0,none⟩=some (.pointer (some ⟨v,0,none⟩)):=(aF (F1.step.kept.aG E.n1 E.o1) 0).trans rfl;have X:=ah (RF (i.alloc (.cells (tv (numsOf (cl g.C x))).toArray 169)) v x);have M:=(F1.lay (.cells #[.pointer (some ⟨v,0,none⟩)] 82)).lay (.cells #[.int .i64 (x:Nat)] 3);simp only [jV] at M;have M:=ah M;clear E F1 Ht
  gi_wp2_with fail
  refine ⟨trivial,(CallsIn.inRound l (fE.2 X)).mono ?_⟩;rintro e Q ⟨rfl,rfl⟩;simp only [jV]
  gi_wp2_with fail
  clear X c1 c0;generalize aw:((i.alloc (.cells (tv (numsOf (cl g.C x))).toArray 169)).alloc (.cells #[.pointer (some ⟨v,0,none⟩)] 82)).alloc (.cells #[.int .i64 (x:Nat)] 3)=Q at*;have a0:Q.heap.size=i.heap.size+3:=by rw [← aw];simp
  have a1:W.heap.size≤i.heap.size:=ag.size;have ai:Q.heap[l]? = some (.loop r):=M.step.kept.aG (u.at'.Ry hr rfl) hr;have F3:=ah (M.sub (cs:=[(i.heap.size,.cells (tv (numsOf (cl g.C x))).toArray 169 (0,0))]) sm);have II:=RG (Pc:=uq g) 97 om (fun k=>k=i.heap.size) (fun _=>False) bK v (i.heap.size+1) (i.heap.size+1+1) x g m q Q M.at' M.o1 M.o0 om M.n0 F.1.2 F.2;clear aw M ag;refine wpIn_rangeFunc_ownN (l₀:=l) (r₀:=r) rfl ai om (gf:=182) (lb:= #[.pointer (some ⟨i.heap.size+1,0,none⟩),.pointer (some ⟨i.heap.size+1+1,0,none⟩)]) rfl trivial (enters_of Tryz.func182 kr rfl)
   (II.inRound l) (fun h k=>aT.trans (R:=bK) (fun _ _ _ a b=>a.trans b) h k) (fun W l o o' _ S hc _=>aT.turn bK.refl W l o o' S hc id) (bG _ _) (fun _=>rfl)
   (fun P f=>Env W f v m q m q g [(i.heap.size,.cells (tv (Gq d (numsOf (cl g.C x)) P)).toArray 169 (0,0))])
   (fun _ _ _=>False)
   (fun _ _ _ _ hs J hr=>Env.qj hs om (by simp [Obj.isCells]) J hr)
   (fun _ _ _ _ _ hs _ _=>hs)
   F3
   (fun s al f=> ∃ N,f.heap[N]? = some (.cells #[.int .i64 ((s.table:Nat):Int),.int .i64 ((s.index:Nat):Int),.int .u16 ((s.number:Nat):Int)] 219 (0,0))∧al={ tmps:= #[.pointer (some ⟨v,0,none⟩),.int .i64 (first:Nat),.func (.func z) #[] G,.pointer (some ⟨w.heap.size,0,none⟩),undef,.pointer (some ⟨w.heap.size+1,0,none⟩),.int .i64 (x:Nat),.pointer (some ⟨i.heap.size,0,none⟩),.pointer (some ⟨N,0,none⟩),.pointer (some ⟨v,0,none⟩),.int .i64 (first:Nat),.func (.func 181) #[] #[.pointer (some ⟨w.heap.size+1+1+1,0,none⟩),.pointer (some ⟨w.heap.size+1+1,0,none⟩)],.int .i64 (x:Nat),.pointer (some ⟨v,0,none⟩),.int .i64 (x:Nat),.agg (tv (numsOf (cl g.C x))).toArray,.pointer (some ⟨v,0,none⟩),.int .i64 (x:Nat),.func (.func 182) #[] #[.pointer (some ⟨i.heap.size+1,0,none⟩),.pointer (some ⟨i.heap.size+1+1,0,none⟩)],oK s,undef,undef,undef,undef,undef,undef,undef,undef,undef,undef,undef,undef,undef,undef],defers:=[] })
   (fun s al _ A' B' row hs J hr=>by
    obtain ⟨N,h2,h3⟩:=hs;refine ⟨N,?_,h3⟩;rw [J.block N (aK h2) (fun e=>by
     obtain ⟨_,o,ho,hc⟩:=hr N e.symm;rw [h2] at ho;injection ho with ho;subst ho;cases hc)]
    exact h2)
   ?assign2 ?body2 ?done2 ?stop2
  case assign2=>
   rintro l2 P s f K j T;unfold oK
   gi_wp2
   exact T _ _ ((KeepsOthers.alloc _ _).from _) (aT.below bK.refl (fC)) (j.alloc _) ⟨_,aX _ _,rfl⟩
  case stop2=>
   rintro c P f _ h;exact h.elim
  case body2=>
   rintro l2 P sp al f a2 _ j ⟨N,an,rfl⟩ ao;have d0:f.cell? ⟨N,1,none⟩=some (.int .i64 ((sp.index:Nat):Int)):=(aF an 1).trans rfl;have d1:f.cell? ⟨N,2,none⟩=some (.int .u16 ((sp.number:Nat):Int)):=(aF an 2).trans rfl;have d2:f.cell? ⟨w.heap.size+1,0,none⟩=some (.func (.func z) #[] G):=(aF (j.step.kept.aG u.n0 u.o0) 0).trans rfl;have ax: ∀ y ∈ Ue,f.drew.heap[y.1]? = some y.2:=by
    intro y hy;obtain ⟨y1,y2⟩:=ae y hy;have y3: ¬ eX v m q y.1:=fun a3=>(u.step.new _ a3).elim y2 (by have:=aK y1;omega);exact j.step.kept.aG y3 (u.step.kept.aG y2 y1)
   have a4:=ah (ad f.drew sp.number ax sp.hn sp.h0 (by rw [← aa];exact sp.hc));have a9:(Gq d (numsOf (cl g.C x)) P).length=32:=by rw [Xo,Z]
   have az:=agK d (numsOf (cl g.C x)) P sp;generalize Gq d (numsOf (cl g.C x)) P=T1 at*;have ba:sp.index<32:=sp.hi;have e1:f.drew.cell? ⟨i.heap.size,sp.index,none⟩=some (.int .u16 ((T1.getD sp.index 0:Nat):Int)):=by
    rw [aF j.drew.o0,bZ,PW _ _ om]
   have f1:=eY j.drew.o0;have O:=j.drew.put sm (Kept.only _ i.heap.size sp.index (.int .u16 (d sp.number:Nat))) (heap_setCell_same _ _ _ _ _ _ _ j.drew.o0);rw [Bh,← aah,← az] at O;have K5:aT (fun k=>k=i.heap.size) (fun _=>False) v bK f (f.drew.setCell ⟨i.heap.size,sp.index,none⟩ (.int .u16 (d sp.number:Nat))):=
    aT.own j.at' ((Kept.refl (fun k=>k=i.heap.size) f).drew.setCell (p:=⟨i.heap.size,sp.index,none⟩) (aA rfl) _) (by rintro k rfl;exact ⟨rfl,j.n0,_,j.o0,rfl⟩) (bK.refl _)
   have a5:Hid (KeepsFrom Q.heap.size f (f.setCell ⟨i.heap.size,sp.index,none⟩ (.int .u16 (d sp.number:Nat))).drew):=⟨((KeepsOthers.setCell f ⟨i.heap.size,sp.index,none⟩ (.int .u16 (d sp.number:Nat))).from Q.heap.size).size,((KeepsOthers.setCell f ⟨i.heap.size,sp.index,none⟩ (.int .u16 (d sp.number:Nat))).from Q.heap.size).same⟩;have O:=ah O;have K5:=ah K5;have bb:(sp.index:Int)<32:=om;clear j an az ax ad ae U af II ab Y av Yt ai hr zB F hT hf hlen ao S a2 u H E3 F3 aa hL hC ar a0 a1 Z;generalize sp.index=idx at*;generalize d sp.number=n2 at*;generalize sp.number=nn at*;generalize oK sp=sv at*;generalize T1.getD idx 0=bd at*
   gi_wp2
   gi_region_with (
    refine ⟨trivial,(CallsIn.inRound l2 (CallsIn.inRound l (fE.2 a4))).mono ?_⟩;rintro e w3 ⟨rfl,rfl⟩)
   all_goals
    gi_wp2
    exact ⟨uh a5,uh K5,uh O⟩
  case done2=>
   intro ys f aD j;have aE:Gq d (numsOf (cl g.C x)) ys=wO d (numsOf (cl g.C x)):=by
    have e:ys=vO g x F.2:=aD;rw [e];exact aow d x _ F.2 Z
   rw [aE] at j;clear aD;have aL:Ae d g x=bQ g x (bytesOf (wO d (numsOf (cl g.C x)))):=rfl;have aq:(wO d (numsOf (cl g.C x))).length=32:=by rw [Uf,Z]
   have aM:=ahi U (fun c hc=>hc.1) F.2;have c0:f.drew.cell? ⟨w.heap.size,0,none⟩=some (.pointer (some ⟨v,0,none⟩)):=(aF (j.step.kept.aG u.n1 u.o1) 0).trans rfl;have bf:f.cell? ⟨w.heap.size,0,none⟩=some (.pointer (some ⟨v,0,none⟩)):=c0;have l1:=fH j.drew.o0 (n:=32) (by rw [ql,aq]);have l2:=fM j.drew.o0 (n:=32) (by rw [ql,aq]);have Hp:=ah (aeU f.drew _ aq aM);have a6:=bytesOf_length (wO d (numsOf (cl g.C x)));have Gm:Hid (∀ W m q,aP W v m q g→_):=fun W m q hW=>GX W v m q g hW x (by have:=F.1.2;omega) (bytesOf (wO d (numsOf (cl g.C x)))) a6 om om;have HF:=ah j;clear j aE ad ae af II ab Y ai hr zB hT hf hlen S H E3 F3 aa aM U ec;generalize bytesOf (wO d (numsOf (cl g.C x)))=c at*;generalize wO d (numsOf (cl g.C x))=T2 at*
   gi_wp2
   gi_region_with (first
    | (
     refine ⟨trivial,?_⟩
     gi_at_call 163
     refine (CallsIn.inRound l (fE.2 Hp)).mono ?_;rintro e w4 ⟨rfl,a7⟩;have F4:=ah (HF.drew.later a7);have c4:w4.cell? ⟨w.heap.size,0,none⟩=some (.pointer (some ⟨v,0,none⟩)):=(aF (F4.step.kept.aG u.n1 u.o1) 0).trans rfl)
    | (
     refine ⟨trivial,?_⟩
     gi_at_call 70
     refine (CallsIn.inRound l (fE.2 (uh Gm _ _ _ F4.at'))).mono ?_;rintro e w5 ⟨rfl,C5,L5,aR⟩;have O:=ah (F4.gG aR).step;clear aR))
   all_goals
    gi_wp2
    refine ⟨dF.from u.at' O _,aT.step u.at' O (by rw [← aL];exact av),C5,L5,?_⟩
    first
     | exact u.gG O
     | (rw [Yt,aL];exact u.gG O)
end Go.Proofs.YtknjjjenklfeoaaGreatDoor
