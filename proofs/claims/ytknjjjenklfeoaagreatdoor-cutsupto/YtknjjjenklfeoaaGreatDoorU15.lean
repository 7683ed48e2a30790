import Derived.Test.YtknjjjenklfeoaaGreatDoorU14
set_option maxHeartbeats 8000000
set_option maxRecDepth 100000
set_option linter.all false
namespace Go.Proofs.YtknjjjenklfeoaaGreatDoor
open Go.RowKit
section
open Go.RowKit Go.Shelf
attribute [local go_sem ↓] dw fP fV kU mZ nC jR kP kJ kF lG lI kR kQ kV ng nD l9 nJ jE pW qM qO qA xM ED EF EC DW
attribute [local go_sem] dM fO fU gW gB aV kY mP mW mQ mO gX jT kN kH lq kX iM kG lu lD lC kM jc jd nH nK kW kZ mX nT mV mM nN qc qI qK qJ qH xU Et Ew Eu Es Dy
attribute [local go_sem] pU pR Oper.semAt_some
def I5 (k:List UInt8) (n:Nat):List UInt8:=k.set n (UInt8.ofNat ((aI k n+255)%256))
def minus (k:List UInt8) (us:List Nat):List UInt8:=us.foldl I5 k
def asN (k:List UInt8) (us:List Nat) (u:Nat):minus k (us++[u])=I5 (minus k us) u:=by simp [minus]
def YP (k:List UInt8) (us:List Nat):(minus k us).length=k.length:=by
 unfold minus
 induction us generalizing k with
 | nil=>rfl
 | cons a r ih=>simp only [WL];rw [ih];simp [I5]
def iq (V:aB) (us:List Nat):aB:=fF (lT V (minus (aJ V.C) us) 4)
def jQ (V:aB) (us:List Nat):aB:=fF (sD (iq V us))
def Zg (V:aB) (k:List UInt8) (a:5≤V.C.length):(lT V k 4).C.length=V.C.length:=by
 simp only [lT,zL];omega
def SeqStopsK.all {α:Type} {n gf:Nat} {lb:Array Value} {a:α→Array Value} {b:World→World→Prop} {S d:List α→Prop} {N B:Nat} {w:World} (h:SeqStopsK Fence.wide n Tryz.prog gf lb a b S d N w):ML n gf lb a b S N B w:=
 fun l J W f _ g i h0=>(h l J (fun _ _=>False) W f (fun s A B row hs j hr=>g s A B row hs j (fun r e=>⟨(hr r e).1,by obtain ⟨_,o,k,hw⟩:=hr r e;exact ⟨o,k,Obj.not_cells_of_walk hw⟩⟩)) (fun _ _ _ _ hs _ _=>hs)
  (fun pre x m c p=>aas (i pre x m c p) (fun e q t=>aA t)) h0).mono (by
  rintro e q ⟨u,v | ⟨pre,_,y⟩⟩
  ·exact ⟨u,v⟩
  ·exact y.elim)
def Bf (pre:List U256):List Nat:=pre.map fun y=>y.1
def am2 (pre:List U256) (x:U256):Bf (pre++[x])=Bf pre++[x.1]:=by simp [Bf]
def Env.beside {w W:World} {v D:Nat} {o:Obj} {Cv Lv b c:Value} {V:aB} {d:List (Nat × Obj)} (h:Env w W v Cv Lv b c V d) (e:W.heap[D]? = some o) (hw:w.heap.size≤D) (f:o.isCells=false):Env w W v Cv Lv b c V ((D,o) :: d):=
 ⟨h.step,fun x a=>by
  rcases cO.1 a with rfl | a
  ·exact ⟨e,hw,h.at'.Ry e f⟩
  ·exact h.qo x a⟩
def dK (a b:aB):Prop:=a=b
def ajT (w:World) (v:Nat) (Cv Lv:Value) (V:aB) (h:aP w v Cv Lv V) (h5:5<V.C.length) (hC:V.C.length≤256) (hL:V.L.length≤600000000)
  (gf:Nat) (lb:Array Value) (us:List Nat) (N:Nat) (eg: ∀ args w,(callFunc gf args).run Tryz.prog w= .ok (.enter gf args) w)
  (I: ∀ (X:Nat→Prop) (B:Nat),(∀ k,X k→w.heap.size≤k∧k<B)→ML 99 gf lb (fun u:U256=> #[Value.int .i64 ((u.1:Nat):Int)]) (aT X (fun k=>B≤k) v dK) (fun s=>s.map (·.1)=us) N B w)
  (hF: ∀ f ∈ bP (iq V us),gU (iq V us) f):
  CallsIn Fence.wide 100 Tryz.prog 110 #[.pointer (some ⟨v,0,none⟩),.func (.func gf) #[] lb] w fun e w'=>e= .returned (.tuple #[])∧ ∃ C1 L1,dF w w' v Cv Lv C1 L1 (jQ V us):=by
 have T:=ah (MS w v Cv Lv V h om);have M:=CY V.C h.kT om;have U:Hid (iq V us=fF (lT V (minus (aJ V.C) us) 4)):=rfl;have aa:Hid (jQ V us=fF (sD (iq V us))):=rfl;have H:=ah h;clear h;generalize aJ V.C=k at*;refine callsIn_of_wp_marks Tryz.func110 rfl trivial ?_ rfl;simp only [Tryz.ntmps110,jm,iO,vV,Nat.reduceAdd,Nat.reduceSub,BX,BZ,Cb,Cc,qy,rU]
 gi_wp2_with fail
 refine ⟨trivial,(fE.2 T).mono ?_⟩;rintro e d ⟨rfl,j⟩;have p:=((Env.start H).later j).lay (.cells (cv k).toArray 123);have ab:Hid (aC w (d.alloc (.cells (cv k).toArray 123))):=j.alloc j.size _;have ad:=j.size;have p:=ah p;clear T j
 gi_wp2_with fail
 have ae:(d.alloc (.cells (cv k).toArray 123)).heap.size=d.heap.size+1:=sm;generalize d.alloc (.cells (cv k).toArray 123)=Y at*;refine RU om (gf:=gf) (lb:=lb) rfl eg (I (fun k=>k=d.heap.size) (Y.heap.size+2) (by rintro k rfl;exact ⟨ad,om⟩))
  (fun A B C h k=>aT.trans (R:=dK) (fun _ _ _ a b=>tX a b) h k) (fun W o o' Z hc=>aT.turn (R:=dK) (fun _=>rfl) W _ o o' Z hc om) ab (fun _=>rfl)
  (fun pre W=>Env w W v Cv Lv Cv Lv V [(d.heap.size,.cells (cv (minus k (Bf pre))).toArray 123 (0,0))])
  (fun _ _ _ _ hs i hr=>Env.qj hs om (by simp [Obj.isCells]) i hr)
  p
  (fun x a' _=>a'={ tmps:= #[.pointer (some ⟨v,0,none⟩),.func (.func gf) #[] lb,undef,undef,.pointer (some ⟨d.heap.size,0,none⟩),.int .i64 ((x.1:Nat):Int),.pointer (some ⟨v,0,none⟩),.agg (cv k).toArray,.func (.func gf) #[] lb,.int .i64 ((x.1:Nat):Int),undef,undef,undef,undef,undef,undef,undef,undef,undef,undef,undef,undef,undef,undef,undef,undef,undef,undef],defers:=[] })
  (fun _ _ _ _ _ _ hs _ _=>hs) ?assign ?body ?done
 case assign=>
  rintro l pre x W' K hi q
  gi_wp2
  exact q _ _ (KeepsFrom.refl _ _) (aT.below (R:=dK) (fun _=>rfl) (bG _ _)) hi rfl
 case body=>
  rintro l pre ⟨x,hx⟩ a' W Z _ c rfl aq;have m:(minus k (Bf pre)).length=256:=by rw [YP];exact M
  have ar:(x:Int)<256:=om;have O:minus k (Bf (pre++[⟨x,hx⟩]))=I5 (minus k (Bf pre)) x:=by rw [am2,asN]
  generalize minus k (Bf pre)=g at*;have c1:W.cell? ⟨d.heap.size,x,none⟩=some (.int .u8 (aI g x:Nat)):=by
   rw [aF c.o0,bZ,vG _ _ om]
  have f1:=eY c.o0;have av:=uy g x;have aw:IntKind.u8.wrap (((aI g x:Nat):Int) - 1)=(((aI g x+255)%256:Nat):Int):=by
   rw [afo];omega
  have t:=c.put sm (Kept.only _ d.heap.size x (.int .u8 (((aI g x+255)%256:Nat):Int))) (heap_setCell_same _ _ _ _ _ _ _ c.o0);have J:(cv g).toArray.setIfInBounds x (.int .u8 (((aI g x+255)%256:Nat):Int))=(cv (I5 g x)).toArray:=by
   rw [Bh,I5,MV g x _ (WB _ om)]
  rw [J,← O] at t;have y:aT (fun k=>k=d.heap.size) (fun k=>Y.heap.size+2≤k) v dK W (W.setCell ⟨d.heap.size,x,none⟩ (.int .u8 (((aI g x+255)%256:Nat):Int))):=
   aT.own c.at' (Kept.only _ _ _ _) (by rintro k rfl;exact ⟨rfl,c.n0,_,c.o0,rfl⟩) rfl
  have HE:=ah t;have y:=ah y;clear t c J O;generalize aI g x=bb at*;generalize (bb+255)%256=b2 at*;clear ae
  gi_wp2
  first
   | exact ⟨(KeepsOthers.setCell _ _ _).from _,uh y,uh HE⟩
   | exact ⟨(KeepsOthers.setCell _ _ _).from _,uh HE⟩
 case done=>
  rintro D s W hD hS c q;have af:Bf s=us:=hS;rw [af] at c;have m:(minus k us).length=256:=by rw [YP];exact M
  have l1:=fH c.o0 (n:=256) (by rw [bC,m]);have l2:=fM c.o0 (n:=256) (by rw [bC,m]);have P:w.heap.size≤D:=om;have F1:=ah ((c.sub (cs:=[]) sm).beside q P rfl);have Hp:=ah (VF W v Cv Lv V c.at' (minus k us) m om om);have JF:=Zg V (minus k us) om;have zB:=Px V (minus k us) 4;have ag:=zn (lT V (minus k us) 4);have ai:(fF (lT V (minus k us) 4)).C.length=V.C.length:=by rw [zX];exact JF
  rw [← uh U] at ag ai;have al:=U;clear c q I p;generalize lT V (minus k us) 4=V2 at*;generalize minus k us=k2 at*
  gi_wp2_with fail
  refine ⟨trivial,(fE.2 Hp).mono ?_⟩;rintro e W2 ⟨rfl,C2,L2,Q⟩;have z:=ah (F1.gG Q);clear Q F1 Hp l1 l2
  gi_wp2_with fail
  refine ⟨trivial,(fE.2 (Az W2 v C2 L2 V2 z.at' om)).mono ?_⟩;rintro e W3 ⟨rfl,C3,L3,r⟩;rw [← uh al] at r;have E:=ah (z.gG r);clear r z;have ax:=YC (aJ (iq V us).C) (bP (iq V us)) (iq V us);have az:(bP (iq V us)).length≤5:=by
   unfold bP AZ
   have:=AQ (aZ (cl (iq V us).C 5))
   simp only [iO,tY,yg];omega
  have aD:(sD (iq V us)).L.length≤700000000:=by unfold sD;omega
  generalize iq V us=V3 at*
  gi_wp2_with fail
  refine ⟨trivial,(fE.2 (fE.1 (akh W3 v C3 L3 V3 E.at' om om om hF))).mono ?_⟩;rintro e W4 ⟨rfl,C4,L4,S⟩;have F4:=ah (E.gG S);clear S E
  gi_wp2_with fail
  refine ⟨trivial,(fE.2 (Az W4 v C4 L4 (sD V3) F4.at' om)).mono ?_⟩;rintro e F ⟨rfl,C5,L5,an⟩;have G:=F4.gG an;have ao:=G.o0
  gi_wp2
  refine ⟨sm,.inl ⟨_,_,rfl,run_takeDeferred ao,?_⟩⟩;have i:=grownBy_putObj' F D (.deferred none);have hk:Kept (fun k=>k=D) F (F.putObj D (.deferred none)):=⟨i.os,i.tape,i.output,i.size,fun k hk hs=>i.block k hk (fun e=>hs (by injection e))⟩;refine ⟨_,DF rfl _ _ _,rfl,C5,L5,?_⟩;rw [uh aa];exact G.step.own hk (by rintro k rfl;exact ⟨P,G.n0⟩)
def asg (v:Nat) (V:aB) (o:5<V.C.length) (p:V.C.length≤256) (hL:V.L.length≤600000000) (a:List Nat) (j: ∀ m ∈ a,m<65536∧m%32768<256) (l:a.length≤100) (q: ∀ f ∈ bP (iq V (dJ a)),gU (iq V (dJ a)) f) (W:World) (b c:Value) (d g:Nat)
  (i:aP W v b c V) (n:W.heap[d]? = some (.cells #[.slice (some ⟨g,0,none⟩) a.length a.length] 260 (0,0))) (h:W.heap[g]? = some (.cells (tv a).toArray 167 (0,0))) (r: ¬ eX v b c g):
  Calls Tryz.prog 110 #[.pointer (some ⟨v,0,none⟩),.func (.func 179) #[] #[.pointer (some ⟨d,0,none⟩)]] W fun e s=>e= .returned (.tuple #[])∧ ∃ t u,dF W s v b c t u (jQ V (dJ a)):=
 fE.1 (ajT W v b c V i o p hL 179 #[.pointer (some ⟨d,0,none⟩)] (dJ a) a.length (enters_of Tryz.func179 kr rfl)
  (fun X B w=>SeqStopsK.all (apR 99 om X (fun k=>B≤k) dK v d g a.length a j l V b c W i n h (fun x=>by have:=(w _ x).1;have:=aK h;omega) r)) q)
end
section
attribute [local go_sem ↓] dw fP fV kU mZ nC jR kP kJ kF lG lI kR kQ kV ng nD l9 nJ jE pW qM qO qA
attribute [local go_sem] dM fO fU gW gB aV kY mP mW mQ mO gX jT kN kH lq kX iM kG lu lD lC kM jc jd nH nK kW kZ mX nT mV mM nN qc qI qK qJ qH
attribute [local go_sem] pU pR
def Oq (v:Nat) (V g:aB) (a:List Nat):Prop:=
 ∀ W b c f d,aP W v b c V→W.heap[f]? = some (.cells #[.slice (some ⟨d,0,none⟩) a.length a.length] 260 (0,0))→W.heap[d]? = some (.cells (tv a).toArray 167 (0,0))→ ¬ eX v b c d→
  Calls Tryz.prog 110 #[.pointer (some ⟨v,0,none⟩),.func (.func 179) #[] #[.pointer (some ⟨f,0,none⟩)]] W fun e h=>e= .returned (.tuple #[])∧ ∃ i j,dF W h v b c i j g
def rC (V:aB) (data:aj):aB:=fF (bQ (xG V (dD (aJ V.C) 1)) ((dD (aJ V.C) 1).getD 0 0) data)
def tJ (V:aB) (p:sO) (data:aj):aB:=fF (Dt (rC V data) (p.second%32768) p.oJ ((dD (aJ V.C) 1).getD 0 0+32768))
def Vr (c:List UInt8) (want:Nat): ∀ k,∀ n ∈ oO c want k,n<k
 | 0,n,hn=>by simp [oO] at hn
 | k+1,n,hn=>by
  rw [oO] at hn
  split at hn
  ·have:=Vr c want k n hn;omega
  ·split at hn
   ·rcases fK.1 hn with h | h
    ·have:=Vr c want k n h;omega
    ·rw [iP.1 h];omega
   ·have:=Vr c want k n hn;omega
def YD (c:List UInt8) (want:Nat): ∀ n ∈ dD c want,n<256:=Vr c want 256
def ajL {F:List Nat} (a:0<F.length) (h: ∀ n ∈ F,n<256):qF F<256:=by
 unfold qF;rw [aN,bJ om];exact h _ (o9 _)
def aho (V:aB) (F:List Nat) (a:5≤V.C.length):(xG V F).C.length=V.C.length:=by
 unfold xG;simp only [lT,zL,Vf V F om];omega
def ahp (V:aB) (F:List Nat):(xG V F).L.length≤V.L.length+11:=by
 unfold xG;have a:=Px (dS V F) (gI (aJ (dS V F).C) F) 4;have b:=Yx V F;omega
def Yv {w:World} {g cap:Nat} {F:List Nat} {base:Nat} (a:w.ownsRow base 3 1 (.slice (some ⟨g,0,none⟩) F.length cap) F.length (iv F)) (k:Nat) (hk:k<F.length):w.cell? ⟨g,k,none⟩=some (.int .i64 ((F.getD k 0:Nat):Int)):=by
 rw [a.cellAt k om];unfold iv;rw [jK,aN,bJ hk];rfl
def Ba {w:World} {b1 b2:Nat} {e:TypeId} {size:Nat} {v:Value} {n:Nat} {xs:List Value} (h:w.ownsRow b1 e size v n xs) (b:b2≤b1):w.ownsRow b2 e size v n xs:=by
 obtain ⟨c,a⟩:=h;refine ⟨c,?_⟩;rcases a with a | ⟨g,cap,cur,rfl,d,r⟩
 ·exact aA a
 ·exact ay ⟨g,cap,cur,rfl,jL b d,r⟩
def agY (parts:Array (Nat × Value)):Sem Value:=Instr.buildSlice 260 1 parts
def ao8 (parts:Array (Nat × Value)):Instr.buildSlice 260 1 parts=agY parts:=rfl
def avk {w:World} {n:Nat}:(agY #[(0,.int .u16 (n:Nat))]).run Tryz.prog w= .ok (.slice (some ⟨w.heap.size,0,none⟩) 1 1) (w.alloc (.cells (tv [n]).toArray 167)):=
 VN w 260 167 1 (.int .u16 0) (.int .u16 (n:Nat)) Tryz.underlying260 kr om om (by rfl)
attribute [local go_sem ↓] ao8
attribute [local go_sem] avk
def axA (w:World) (v:Nat) (Cv Lv:Value) (V S:aB) (h:aP w v Cv Lv V) (h5:5<V.C.length) (hC:V.C.length≤256) (hL:V.L.length≤500000000) (p:sO) (aa:p.second<65536) (aq:p.second%32768<V.C.length) (ab:p.oJ<32) (data:aj) (z:data.length=64)
  (s:0<(dD (aJ V.C) 1).length→Oq v (tJ V p data) S [p.block]):
  Calls Tryz.prog 107 #[.pointer (some ⟨v,0,none⟩),.agg (jk p).toArray,.agg (cv data).toArray] w fun e T=>
   if 0<(dD (aJ V.C) 1).length then e= .returned (.int .i64 0)∧ ∃ a c,dF w T v Cv Lv a c S else e= .returned (.int .i64 5)∧aC w T:=by
 have m:=((Env.start h).lay (.cells (jk p).toArray 171)).lay (.cells (cv data).toArray 38);simp only [jV] at m;have A:=ah (YG _ v Cv Lv V m.at' om 1 om);have B:Hid (aC w ((w.alloc (.cells (jk p).toArray 171)).alloc (.cells (cv data).toArray 38))):=((bG _ w).alloc (aO _) _).alloc sm _;have t:=YD (aJ V.C) 1;have Ux:=(Pg (aJ V.C) 1 256).1;have H1:Hid (rC V data=fF (bQ (xG V (dD (aJ V.C) 1)) ((dD (aJ V.C) 1).getD 0 0) data)):=rfl;have U:Hid (tJ V p data=fF (Dt (rC V data) (p.second%32768) p.oJ ((dD (aJ V.C) 1).getD 0 0+32768))):=rfl;have m:=ah m;change (dD (aJ V.C) 1).length≤1 at Ux;generalize dD (aJ V.C) 1=F at*
 by_cases f:0<F.length
 ·simp only [au f];have K:=ajL f t;have ad:F.length=1:=om;have s:=s f;have ar:F.getD 0 0<256:=by rw [aN,bJ f];exact t _ (o9 _)
  have av:=aho V F om;have aw:=ahp V F;have D:Hid (∀ W a c x,aP W v a c V→W.ownsRow 0 3 1 x F.length (iv F)→_):=fun W a c x d i=>ahr W v a c V d F f om K t x i om om om;generalize xG V F=o at*;generalize ae:F.getD 0 0=b at*;have U8:=zL o b data;have ax:=uH o b data;have M:Hid (∀ W a c,aP W v a c o→_):=fun W a c d=>GX W v a c o d b om data z om om;generalize bQ o b data=q at*;have af:=zn q;have OV:(fF q).C.length=q.C.length:=by rw [zX]
  rw [← uh H1] at af OV;have u:Hid (∀ W a c,aP W v a c q→_):=fun W a c d=>Az W v a c q d om;rw [← uh H1] at u;generalize rC V data=n at*;have X:Hid (∀ W a c,aP W v a c n→_):=fun W a c d=>aly W v a c n d (p.second%32768) p.oJ (b+32768) om ab om om om;have ag:=uH n (p.second%32768) (bytesOf ((numsOf (cl n.C (p.second%32768))).set p.oJ (b+32768)));change (Dt n (p.second%32768) p.oJ (b+32768)).L.length≤_ at ag;generalize ai:Dt n (p.second%32768) p.oJ (b+32768)=Y at*;have y:Hid (∀ W a c,aP W v a c Y→_):=fun W a c d=>Az W v a c Y d om;rw [← uh U] at y;generalize tJ V p data=V5 at*;have Z:Hid (∀ W,_):=fun W=>Y9 b om W;have TD:Hid (∀ W,_):=fun W=>CW p.second aa W;have TF:=ah s;clear s h H1 U ai t K;generalize p.second%32768=c2 at*
  go_enter Tryz.func107,Tryz.ntmps107
  go_wp2_with fail
  refine A.mono ?_;rintro e E ⟨x,rfl,i,r⟩;obtain ⟨g,cap,rfl,_⟩:=gy i f;have G:=ah (m.later r);have cx:E.cell? ⟨g,0,none⟩=some (.int .i64 (b:Nat)):=by rw [← ae];exact Yv i 0 f
  have Hx:=ah (Ba i (lX _));clear i r A m B;rw [ad] at D Hx ⊢
  go_wp2_with fail
  refine (uh D E _ _ _ G.at' Hx).mono ?_;rintro e w2 ⟨rfl,C2,L2,N⟩;have k:=G.gG N;have l1:=iD k.drew.o0 z;have l2:=iC k.drew.o0 z;have k:=ah k;clear N G Hx cx D;go_wp2
  go_region_law (
   go_simp;go_at_call 70;refine (uh M _ _ _ k.drew.at').mono ?_;rintro e w3 ⟨rfl,C3,L3,O⟩;have H:=ah (k.drew.gG O);clear O)
  go_wp2_with fail
  refine (uh u _ _ _ H.at').mono ?_;rintro e w4 ⟨rfl,C4,L4,P⟩;have l:=H.gG P;have d1:w4.drew.cell? ⟨w.heap.size,3,none⟩=some (.int .u16 (p.second:Nat)):=(aF l.drew.o1 3).trans rfl;have d2:w4.drew.cell? ⟨w.heap.size,2,none⟩=some (.int .i64 (p.oJ:Nat)):=(aF l.drew.o1 2).trans rfl;have l:=ah l;clear P H k M u l1 l2;go_wp2
  go_region_law (first
   | (
    go_simp;go_at_call 108;refine (uh TD _).mono ?_;rintro e w5 ⟨rfl,rfl⟩)
   | (
    go_simp;go_at_call 161;refine (uh Z _).mono ?_;rintro e w5 ⟨rfl,rfl⟩)
   | (
    go_simp;go_at_call 164;refine (uh X _ _ _ l.drew.at').mono ?_;rintro e w5 ⟨rfl,C5,L5,Q⟩;have I:=ah (l.drew.gG Q);clear Q))
  all_goals
   clear l d1 d2 X Z TD
   go_wp2_with fail
   refine (uh y _ _ _ I.at').mono ?_;rintro e w6 ⟨rfl,C6,L6,R⟩;have J:=I.gG R;have d3:w6.cell? ⟨w.heap.size,4,none⟩=some (.int .u16 (p.block:Nat)):=(aF J.o1 4).trans rfl;have E7:=J.lay (.cells (tv [p.block]).toArray 167);have Hm:=ah (ahv (w6.alloc (.cells (tv [p.block]).toArray 167)) (some ⟨w6.heap.size,0,none⟩) 1 1);have j:=E7.lay (.cells #[.slice (some ⟨w6.heap.size,0,none⟩) 1 1] 260);simp only [jV] at j;have Hg:=ah (uh TF _ C6 L6 (w6.heap.size+1) w6.heap.size j.at' j.o0 j.o1 (j.qo (w6.heap.size,.cells (tv [p.block]).toArray 167 (0,0)) sm).2.2);have j:=ah j;clear R J E7 I y TF
   go_wp2_with fail
   refine Hm.mono ?_;rintro e w8 ⟨rfl,rfl⟩;simp only [jV]
   go_wp2_with fail
   refine Hg.mono ?_;rintro e w9 ⟨rfl,C9,L9,al⟩;have E9:=ah (j.gG al).step;go_wp2;go_ret;exact ⟨rfl,C9,L9,uh E9⟩
 ·simp only [ak f];have an:F.length=0:=om
  go_enter Tryz.func107,Tryz.ntmps107
  go_wp2_with fail
  refine A.mono ?_;rintro e E ⟨x,rfl,i,r⟩;obtain ⟨g,cap,rfl⟩:=gQ i;rw [an];have ao:=ah (B.trans (r.mono B.size));go_wp2;go_ret;exact ⟨rfl,uh ao⟩
end
end Go.Proofs.YtknjjjenklfeoaaGreatDoor
