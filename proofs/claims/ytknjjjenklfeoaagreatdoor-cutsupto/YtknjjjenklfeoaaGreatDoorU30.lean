import Derived.Test.YtknjjjenklfeoaaGreatDoorU29
set_option maxHeartbeats 8000000
set_option maxRecDepth 100000
set_option linter.all false
namespace Go.Proofs.YtknjjjenklfeoaaGreatDoor
open Go.RowKit
section
attribute [local go_sem ↓] dw fP fV kU mZ nC jR kP kJ kF lG lI kR kQ kV ng nD l9 nJ jE pW qM qO qA xM ED EF EC DW
attribute [local go_sem] dM fO fU gW gB aV kY mP mW mQ mO gX jT kN kH lq kX iM kG lu lD lC kM jc jd nH nK kW kZ mX nT mV mM nN qc qI qK qJ qH xU Et Ew Eu Es Dy
attribute [local go_sem] pU pR Oper.semAt_some
attribute [local go_sem ↓] IY Jh
attribute [local go_sem] Jc Jf Je
def Tryz.adb:(Tryz.prog.info? 9).map (fun i=>(i.zero,i.size,i.bytes))=some (some (.string ⟨#[]⟩),1,16):=kr
def sv (N:List (List UInt8)):List Value:=N.map fun s=> .string (bM s)
def awk (N:List (List UInt8)):(sv N).length=N.length:=by simp [sv]
def amA (N:List (List UInt8)) (s:List UInt8):sv (N++[s])=sv N++[.string (bM s)]:=by simp [sv]
def I7 (E:List aW) (k:Nat):List (List UInt8):=(E.take k).map (·.name)
def asT (E:List aW) (k:Nat) (hk:k≤E.length):(I7 E k).length=k:=by simp [I7];omega
def asU (E:List aW) (k:Nat) (hk:k<E.length):I7 E (k+1)=I7 E k++[(E.getD k ze).name]:=by
 unfold I7;rw [x9 hk,rQ,aN,bJ hk];rfl
def awj {w:World} {b base n:Nat} {x:Value} {xs:List Value} {cs:Array Value} (hr:w.ownsRow base 9 1 x n xs) (d:w.heap[b]? = some (.cells cs 144 (0,0))): ∀ g,x.ownBlock=some g→g≠b:=by
 obtain ⟨_,f⟩:=hr;rcases f with ⟨rfl,_⟩ | ⟨i,h,cur,rfl,_,c,_⟩
 ·intro g a;cases a
 ·intro g a e;simp only [Value.ownBlock,jH] at a;rw [a,e,d] at c;cases c
def axc (w:World) (v:Nat) (Cv Lv:Value) (V:aB) (h:aP w v Cv Lv V) (R:5<V.C.length):
  Calls Tryz.prog 51 #[.pointer (some ⟨v,0,none⟩)] w fun e d=> ∃ x,e= .returned x∧d.ownsRow w.heap.size 9 1 x (lenOf (aZ (cl V.C 5))) (sv (I7 (aZ (cl V.C 5)) (lenOf (aZ (cl V.C 5)))))∧aC w d:=by
 obtain ⟨S,K,L,M,N⟩:=qw Tryz.adb;have B:=ah (Lc w v Cv Lv V h R);have r:=Ea (cl V.C 5);have hle:=AQ (aZ (cl V.C 5));have D:Hid (∀ W,_):=fun W=>O7 W (aZ (cl V.C 5)) r;have SL:zl.length=4:=rfl;clear h;generalize aZ (cl V.C 5)=E at*;generalize lenOf E=n0 at*;have Ee:(n0:Int)≤4:=om
 go_enter Tryz.func51,Tryz.ntmps51
 go_wp2_with fail
 refine B.mono ?_;rintro e a ⟨rfl,m⟩;have Z:=m.size;have s:=ah (m.alloc m.size (.cells (lv E).toArray 144));have b1:(a.alloc (.cells (lv E).toArray 144)).heap[a.heap.size]? = some (.cells (lv E).toArray 144 (0,0)):=aX _ _;have F:=fH b1 (n:=8) (by rw [dX,r]);have G:=fM b1 (n:=8) (by rw [dX,r]);have b1:=ah b1;clear m B
 go_wp2_with fail
 refine (uh D _).mono ?_;rintro e T ⟨rfl,o⟩;have aa:a.heap.size<T.heap.size:=by have:=o.size;simp at this;omega
 have U:=ah (s.trans (o.mono s.size));have b2:=ah ((o.block _ (aK b1)).trans b1);clear o D s b1 F G;go_wp2
 go_loopw [3,6,13] (fun f _ i d=> ∃ k:Nat,k≤n0∧i= .int .i64 k∧d.ownsRow w.heap.size 9 1 f k (sv (I7 E k))∧aC w d∧d.heap[a.heap.size]? = some (.cells (lv E).toArray 144 (0,0))) (fun _ _ i _=>n0 - (intOf i).toNat)
 case atStart=>exact ⟨0,om,rfl,wH _ _ _ _,uh U,uh b2⟩
 case round=>
  obtain ⟨k,hk,rfl,b,l,c⟩:=hrel;obtain ⟨H,I,rfl⟩:=gQ b
  by_cases ab:k<n0
  ·have ad:(k:Int)<(n0:Int):=om;have u:k<E.length:=om;have F:=sU (n:=2) (Gw c k u) rfl;have G:=qU (n:=2) (Gw c k u) rfl;have hs:=asU E k u;have ae:=asT E k om;generalize E.getD k ze=p at*;have c5:(wr.alloc (.cells (ev p).toArray 142)).cell? ⟨wr.heap.size,0,none⟩=some (.string (bM p.name)):=(wM wr _ _ _ 0).trans rfl;have q:=ah (b.alloc (.cells (ev p).toArray 142));have j:=ah (l.alloc l.size (.cells (ev p).toArray 142));have y:Hid ((wr.alloc (.cells (ev p).toArray 142)).heap[a.heap.size]? = some (.cells (lv E).toArray 144 (0,0))):=(WH _ _ (aK c)).trans c;have O: ∀ g,(Value.slice H k I).ownBlock=some g→g≠a.heap.size:=awj b c;clear b l c;generalize af:wr.alloc (.cells (ev p).toArray 142)=z at*
   go_wp2_with (at_builtin;refine yc _ rfl _ _ _ rfl w.heap.size 9 S _ 1 16 Tryz.underlying34 K L M N rfl om (.slice H k I) k (sv (I7 E k)) rfl (q.alloc _) ⟨z.heap.size,0,none⟩ 1 1 [.string (bM p.name)] rfl rfl (pJ (cs:= #[.string (bM p.name)]) (t:=9) (fr:=(0,0)) (aX z _)) (by simp [Value.oneCell']) om (by unfold maxLen;omega) om (by have:=j.size;simp;omega) (z.heap.size+1) sm ?_;intro g5 cap5 X J A ag uP)
   have Y:=ah ((j.alloc j.size (.cells #[.string (bM p.name)] 9)).grown A (by have:=j.size;simp;omega) (fun k hk=>(q.lt k hk).1));have P:X.heap[a.heap.size]? = some (.cells (lv E).toArray 144 (0,0)):=by
    rw [A.block _ (by have:=aK (uh y);simp;omega) (fun e=>O _ e.symm rfl),WH _ _ (aK (uh y))];exact uh y
   go_roundw
   case rel=>exact ⟨k+1,om,gn,by rw [hs,amA];exact J,uh Y,P⟩
   case measure=>exact bW
  ·have Q:k=n0:=om;subst Q;have q:=ah b;have j:=ah l;clear b l;go_wp2;go_ret;exact ⟨_,rfl,uh q,uh j⟩
def aqd (w:World) (d v:Nat) (Cv Lv:Value) (V:aB) (h:pK w d v Cv Lv V) (i:5<V.C.length):
  Calls Tryz.prog 21 #[.pointer (some ⟨d,0,none⟩)] w fun e a=> ∃ x,e= .returned x∧a.ownsRow w.heap.size 9 1 x (lenOf (aZ (cl V.C 5))) (sv (I7 (aZ (cl V.C 5)) (lenOf (aZ (cl V.C 5)))))∧aC w a:=by
 have b:=ah (I4 _ d v Cv Lv V h);have c0:=h.c0;have c:=ah (axc w v Cv Lv V h.bH i);clear h
 go_enter Tryz.func21,Tryz.ntmps21
 go_wp2_with fail
 refine b.mono ?_;rintro e k ⟨rfl,rfl⟩
 go_wp2_with fail
 refine c.mono ?_;rintro e l ⟨x,rfl,f,g⟩;have Hx:=ah f;have j:=ah g;clear f g c b;go_wp2;go_ret;exact ⟨x,rfl,uh Hx,uh j⟩
attribute [local go_sem] acw acy
def afg (s:ByteArray):bM s.data.toList=s:=by
 cases s;simp [bM]
def amh (c:aj):ER (aZ c):=fun k=>by
 unfold aZ;rw [aN,jK]
 by_cases hk:k<4
 ·rw [yR hk];refine ⟨?_,iK _ _⟩;show (EZ c k).name.length≤12;unfold EZ nameBytes;simp only [yg,List.length_drop];omega
 ·rw [eG (by simpa using hk)];exact ⟨by simp [ze],by simp [ze]⟩
def ER.set {L:List aW} (h:ER L) (i:Nat) (e:aW) (a:e.name.length≤12) (b:e.first<65536):ER (L.set i e):=fun k=>by
 rw [aN,uI];split
 ·split
  ·exact ⟨a,b⟩
  ·decide
 ·have:=h k
  rw [aN] at this;exact this
def ER.less {L:List aW} (h:ER L) (i:Nat):ER (jJ L i):=fun k=>by
 unfold jJ;have a: ∀ e ∈ L.eraseIdx i++[ze],e.name.length≤12∧e.first<65536:=by
  intro e he;rcases fK.1 he with x | x
  ·obtain ⟨j,hj,rfl⟩:=Tf (aaM x)
   have:=h j
   rw [aN,bJ hj] at this;exact this
  ·rw [iP.1 x];decide
 rw [aN]
 by_cases hk:k<(L.eraseIdx i++[ze]).length
 ·rw [bJ hk];exact a _ (o9 hk)
 ·rw [eG om]
  decide
def ap0 (V:aB) (f n:Nat) (y:V.C.length≤256) (z:5<V.C.length) (l:gU V f) (hn:n<256):(copyV V f n).C.length≤256∧5<(copyV V f n).C.length∧(copyV V f n).L.length≤V.L.length+100:=by
 have m:=Vf V [n] om;have A:=Yx V [n];have h:gU (dS V [n]) f:=l.same m (fun t o=>ahl V [n] t o om);have H1:Hid (jP V f n=fF (rM uX (dS V [n]) (tH (dS V [n]) f))):=rfl;have p:Hid (copyV V f n=fF (bQ (lT (jP V f n) (sS V.C f n) 4) n (cl (lT (jP V f n) (sS V.C f n) 4).C f))):=rfl;generalize dS V [n]=a at*;have r:=(RY aeG (tH a f) a (Z5 h)).len;have s:=VI uX (tH a f) a;have u:=aeV a f;generalize rM uX a (tH a f)=c at*;have i:=zn c;have q:(fF c).C.length=c.C.length:=by rw [zX]
 rw [← uh H1] at i q;generalize jP V f n=d at*;generalize sS V.C f n=e at*;have B:=Zg d e om;have v:=Px d e 4;generalize lT d e 4=b at*;have w:=uH b n (cl b.C f);have x:=zL b n (cl b.C f);generalize bQ b n (cl b.C f)=g at*;have j:=zn g;have k:(fF g).C.length=g.C.length:=by rw [zX]
 rw [← uh p] at j k;omega
def ahG (V:aB) (f:Nat) (c:V.C.length≤256) (d:5<V.C.length) (g:gU V f):(iH V f).1.C.length≤256∧5<(iH V f).1.C.length∧(iH V f).1.L.length≤V.L.length+100∧(iH V f).2.1<256:=by
 by_cases a:0<(dD (aJ V.C) 1).length∧oH (aJ V.C) (jA V.C f)=true
 ·obtain ⟨n,hn,b,_⟩:=Nq a.1;have e:iH V f=(copyV V f n,n,0):=by
   unfold iH;rw [au a,hn,EG]
  rw [e]
  have:=ap0 V f n c d g b
  exact ⟨this.1,this.2.1,this.2.2,b⟩
 ·have e:iH V f=(V,0,5):=by
   unfold iH;rw [ak a]
  rw [e];exact ⟨c,d,by simp only;omega,by simp only;omega⟩
def vP (V:aB) (s:ByteArray):aB × Nat:=
 if nZ s.data.toList=false then (V,2)
 else if 0≤rY (aZ (cl V.C 5)) s then (V,3)
 else if lenOf (aZ (cl V.C 5))=4 then (V,5)
 else if (iH V (num (cl V.C 0) 6)).2.2=0 then (fF (bQ (iH V (num (cl V.C 0) 6)).1 5 (mJ ((aZ (cl V.C 5)).set (lenOf (aZ (cl V.C 5))) ⟨s.data.toList,(iH V (num (cl V.C 0) 6)).2.1⟩) 4)),0)
 else ((iH V (num (cl V.C 0) 6)).1,(iH V (num (cl V.C 0) 6)).2.2)
def axo (w:World) (v:Nat) (Cv Lv:Value) (V:aB) (h:aP w v Cv Lv V) (u:5<V.C.length) (Y:V.C.length≤256) (hL:V.L.length≤400000000) (Z:gU V (num (cl V.C 0) 6)) (s:ByteArray) (hs:s.size≤maxLen):
  Calls Tryz.prog 47 #[.pointer (some ⟨v,0,none⟩),.string s] w fun e w'=>e= .returned (.int .i64 ((vP V s).2:Nat))∧ ∃ b c,dF w w' v Cv Lv b c (vP V s).1:=by
 have j:=ah (adY s w hs);have H:=ah h;clear h
 by_cases r:nZ s.data.toList=false
 ·have hR:vP V s=(V,2):=by unfold vP;rw [au r]
  rw [hR];dsimp only;rw [r] at j
  go_enter Tryz.func47,Tryz.ntmps47
  go_wp2_with fail
  refine j.mono ?_;rintro e w1 ⟨rfl,o⟩;have B1:=ah ((dF.refl H).later o);clear o j;go_wp2;go_ret;exact ⟨rfl,_,_,uh B1⟩
 have G:nZ s.data.toList=true:=by cases e:nZ s.data.toList;exact absurd e r;rfl
 have aa:=(adL G).2;rw [G] at j;have Hl:Hid (∀ W,aP W v Cv Lv V→_):=fun W d=>Lc W v Cv Lv V d u;have a:=Ea (cl V.C 5);have hle:=AQ (aZ (cl V.C 5));have Gj:Hid (∀ W,_):=fun W=>acC W (aZ (cl V.C 5)) a s;have MJ:Hid (∀ W,_):=fun W=>O7 W (aZ (cl V.C 5)) a;have Hh:Hid (∀ W,aP W v Cv Lv V→_):=fun W d=>JD W v Cv Lv V d om;have x:Hid (∀ W,aP W v Cv Lv V→_):=fun W d=>ahF W v Cv Lv V d u Y hL (num (cl V.C 0) 6) Z;obtain ⟨q1,q2,q3,q4⟩:=ahG V (num (cl V.C 0) 6) Y u Z;have ab:=amh (cl V.C 5);have f:Hid (vP V s=if 0≤rY (aZ (cl V.C 5)) s then (V,3) else if lenOf (aZ (cl V.C 5))=4 then (V,5) else if (iH V (num (cl V.C 0) 6)).2.2=0 then (fF (bQ (iH V (num (cl V.C 0) 6)).1 5 (mJ ((aZ (cl V.C 5)).set (lenOf (aZ (cl V.C 5))) ⟨s.data.toList,(iH V (num (cl V.C 0) 6)).2.1⟩) 4)),0) else ((iH V (num (cl V.C 0) 6)).1,(iH V (num (cl V.C 0) 6)).2.2)):=by
  show _=_;unfold vP;rw [ak r]
 generalize iH V (num (cl V.C 0) 6)=R at*;generalize aZ (cl V.C 5)=E at*;generalize num (cl V.C 0) 6=n0 at*;generalize num (cl V.C 0) 4=cc at*;obtain ⟨g,n,y⟩:=R;dsimp only at q1 q2 q3 q4 f x
 go_enter Tryz.func47,Tryz.ntmps47
 go_wp2_with fail
 refine j.mono ?_;rintro e w1 ⟨rfl,o⟩;have z:=ah ((Env.start H).later o);clear o j
 go_wp2_with fail
 refine (uh Hl _ z.at').mono ?_;rintro e w2 ⟨rfl,I⟩;have k:=(z.later I).lay (.cells (lv E).toArray 144);have l1:=fH k.o0 (n:=8) (by rw [dX,a]);have l2:=fM k.o0 (n:=8) (by rw [dX,a]);have k:=ah k;have SL:zl.length=4:=rfl;clear I Hl z
 go_wp2_with fail
 refine (uh Gj _).mono ?_;rintro e w3 ⟨rfl,J⟩;have l:=ah (k.later J);clear J Gj k l1 l2;generalize rY E s=A at*
 by_cases t:0≤A
 ·have hR:Hid (vP V s=(V,3)):=by show _=_;rw [uh f,au t]
  have df:decide (A≥0)=true:=dZ t;have i:=ah l.step;clear l;go_wp2;go_ret;rw [uh hR];exact ⟨rfl,_,_,uh i⟩
 rw [ak t] at f;have df:decide (A≥0)=false:=gK t;have l3:=fH l.o0 (n:=8) (by rw [dX,a]);have l4:=fM l.o0 (n:=8) (by rw [dX,a])
 go_wp2_with fail
 refine (uh MJ _).mono ?_;rintro e w4 ⟨rfl,K⟩;have q:=ah (l.later K);clear K MJ l l3 l4
 by_cases M:lenOf E=4
 ·have hR:Hid (vP V s=(V,5)):=by show _=_;rw [uh f,au M]
  have dl:(((lenOf E:Nat):Int) == 4)=true:=by rw [Tt];omega
  have i:=ah q.step;clear q;go_wp2;go_ret;rw [uh hR];exact ⟨rfl,_,_,uh i⟩
 rw [ak M] at f;have dl:(((lenOf E:Nat):Int) == 4)=false:=by rw [lY];omega
 have Hw:Hid (∀ W p,_):=fun W p=>axr W E a p om;have ad:=ab.set (lenOf E) ⟨s.data.toList,n⟩ (by exact aa) (by simp only;omega);have Yk:(E.set (lenOf E) ⟨s.data.toList,n⟩).length=4:=by rw [rV,a]
 have yj:Hid (∀ W b c,aP W v b c g→_):=fun W b c d=>alv W v b c g d (E.set (lenOf E) ⟨s.data.toList,n⟩) Yk ad om om;have ae:=uH g 5 (mJ (E.set (lenOf E) ⟨s.data.toList,n⟩) 4);have N:Hid (∀ W,_):=fun W=>uh Hw W ⟨s.data.toList,n⟩;generalize lenOf E=le at*;generalize E.set le ⟨s.data.toList,n⟩=E' at*;generalize mJ E' 4=lb at*;have Jp:Hid (∀ W b c,aP W v b c (bQ g 5 lb)→_):=fun W b c d=>Az W v b c (bQ g 5 lb) d om;generalize bQ g 5 lb=V2 at*;clear Hw
 go_wp2_with fail
 refine (uh Hh _ q.at').mono ?_;rintro e w5 ⟨rfl,O⟩;have B:=ah (q.later O);clear O Hh q
 go_wp2_with fail
 refine (uh x _ B.at').mono ?_;rintro e w6 ⟨rfl,C6,L6,P⟩;have m:=ah (B.gG P);clear P x B
 by_cases Q:y=0
 ·subst Q;have hR:Hid (vP V s=(fF V2,0)):=by show _=_;rw [uh f,au rfl]
  have l5:=fH m.o0 (n:=8) (by rw [dX,a]);have l6:=fM m.o0 (n:=8) (by rw [dX,a]);have S:=Dy s.data.toList n w6;rw [afg] at S;clear f
  go_wp2_with fail
  refine (uh N _).mono ?_;rintro e w7 ⟨rfl,T⟩;have D:=ah (m.later T);clear T N m l5 l6 S
  go_wp2_with fail
  refine (uh yj _ _ _ D.at').mono ?_;rintro e w8 ⟨rfl,C8,L8,U⟩;have F:=ah (D.gG U);clear U yj D
  go_wp2_with fail
  refine (uh Jp _ _ _ F.at').mono ?_;rintro e w9 ⟨rfl,C9,L9,X⟩;have i:=ah (F.gG X).step;clear X Jp F;go_wp2;go_ret;rw [uh hR];exact ⟨rfl,_,_,uh i⟩
 ·have hR:Hid (vP V s=(g,y)):=by show _=_;rw [uh f,ak Q]
  have de:(((y:Nat):Int) != 0)=true:=by rw [ou];omega
  have i:=ah m.step;clear m f;go_wp2;go_ret;rw [uh hR];exact ⟨rfl,_,_,uh i⟩
def ai8 (v:Nat) (V:aB) (q:5<V.C.length) (l:V.C.length≤256) (hL:V.L.length≤600000000) (f:Nat) (n:gU V f) (r: ∀ g ∈ bP (iq V (mF V.C f)),gU (iq V (mF V.C f)) g) (W:World) (a b:Value) (bv c:Nat)
  (m:aP W v a b V) (i:W.heap[bv]? = some (.cells #[.pointer (some ⟨v,0,none⟩)] 82 (0,0))) (j:W.heap[c]? = some (.cells #[.int .i64 (f:Nat)] 3 (0,0))) (o: ¬ eX v a b c) (p: ¬ eX v a b bv):
  Calls Tryz.prog 110 #[.pointer (some ⟨v,0,none⟩),.func (.func 166) #[] #[.pointer (some ⟨c,0,none⟩),.pointer (some ⟨bv,0,none⟩)]] W fun e s=>e= .returned (.tuple #[])∧ ∃ t u,dF W s v a b t u (jQ V (mF V.C f)):=
 fE.1 (ajT W v a b V m q l hL 166 #[.pointer (some ⟨c,0,none⟩),.pointer (some ⟨bv,0,none⟩)] (mF V.C f) 1057 (enters_of Tryz.func166 kr rfl)
  (fun X B d=>ai9 99 om X v bv c f B V a b W m l i j (fun h=>by have:=(d _ h).1;have:=aK j;omega) (fun h=>by have:=(d _ h).1;have:=aK i;omega) o p (fun k hk=>(d k hk).2) n) r)
def Aw (V:aB) (i:Nat):aB:=fF (bQ V 5 (mJ (jJ (aZ (cl V.C 5)) i) 4))
def jf (V:aB) (s:ByteArray):Nat:=((aZ (cl V.C 5)).getD (oz V s).1.toNat ze).first
structure J9 (V:aB) (f:Nat):Prop where
 len:V.C.length≤256
 own:gU V f
 all: ∀ g ∈ bP (iq V (mF V.C f)),gU (iq V (mF V.C f)) g
def zf (V:aB) (s:ByteArray):aB × Nat:=
 if (oz V s).2=0 then (jQ (Aw V (oz V s).1.toNat) (mF (Aw V (oz V s).1.toNat).C (jf V s)),0) else (V,(oz V s).2)
def axa (w:World) (v:Nat) (Cv Lv:Value) (V:aB) (h:aP w v Cv Lv V) (I:5<V.C.length) (hC:V.C.length≤256) (hL:V.L.length≤400000000) (s:ByteArray) (hs:s.size≤maxLen)
  (c:(oz V s).2=0→J9 (Aw V (oz V s).1.toNat) (jf V s)):
  Calls Tryz.prog 56 #[.pointer (some ⟨v,0,none⟩),.string s] w fun e U=>e= .returned (.int .i64 ((zf V s).2:Nat))∧ ∃ a b,dF w U v Cv Lv a b (zf V s).1:=by
 have f:=ah (XQ w v Cv Lv V h I s hs);have H:=ah h;clear h;rcases (show (∃ m,m≠0∧oz V s=(0,m))∨ ∃ i,i<lenOf (aZ (cl V.C 5))∧oz V s=(((i:Nat):Int),0) by
  rcases XP V s with (e | e) | ⟨i,hi,e,_⟩
  ·exact aA ⟨2,dc,e⟩
  ·exact aA ⟨4,dc,e⟩
  ·exact ay ⟨i,hi,e⟩) with ⟨m,hm,e⟩ | ⟨i,hi,e⟩
 ·have hR:zf V s=(V,m):=by unfold zf;rw [e,ak hm]
  rw [hR];rw [e] at f;dsimp only at f ⊢;have d0:(((m:Nat):Int) != 0)=true:=by rw [ou];omega
  clear c hR e
  go_enter Tryz.func56,Tryz.ntmps56
  go_wp2_with fail
  refine f.mono ?_;rintro e X ⟨rfl,k⟩;have Y:=ah ((dF.refl H).later k);clear k f;go_wp2;go_ret;exact ⟨rfl,_,_,uh Y⟩
 ·have c:=c (by rw [e]);have hR:zf V s=(jQ (Aw V i) (mF (Aw V i).C (jf V s)),0):=by unfold zf;rw [e];rfl
  have y:jf V s=((aZ (cl V.C 5)).getD i ze).first:=by unfold jf;rw [e];rfl
  rw [hR];rw [e] at f c;dsimp only at f c ⊢;have c:J9 (Aw V i) (jf V s):=c;have J:Hid (∀ W,aP W v Cv Lv V→_):=fun W g=>Lc W v Cv Lv V g I;have l:=Ea (cl V.C 5);have hle:=AQ (aZ (cl V.C 5));have z:Hid (∀ W,_):=fun W=>axt W (aZ (cl V.C 5)) l i om;have Q:=(amh (cl V.C 5)).less i;have R:(jJ (aZ (cl V.C 5)) i).length=4:=by unfold jJ;rw [oL,List.length_eraseIdx,l,au om];rfl
  have K:Hid (∀ W a b,aP W v a b V→_):=fun W a b g=>alv W v a b V g (jJ (aZ (cl V.C 5)) i) R Q om om;have M:Hid (Aw V i=fF (bQ V 5 (mJ (jJ (aZ (cl V.C 5)) i) 4))):=rfl;have aa:=uH V 5 (mJ (jJ (aZ (cl V.C 5)) i) 4);have U8:=zL V 5 (mJ (jJ (aZ (cl V.C 5)) i) 4);generalize mJ (jJ (aZ (cl V.C 5)) i) 4=lb at*;generalize jJ (aZ (cl V.C 5)) i=E' at*;have p:Hid (∀ W a b,aP W v a b (bQ V 5 lb)→_):=fun W a b g=>Az W v a b (bQ V 5 lb) g om;have S:=zn (bQ V 5 lb);have T:(fF (bQ V 5 lb)).C.length=(bQ V 5 lb).C.length:=by rw [zX]
  rw [← uh M] at p S T;generalize bQ V 5 lb=V1 at*;generalize Aw V i=o at*;have q:Hid (∀ W a b bv N,aP W v a b o→_→_→_→_→_):=fun W a b bv N g=>ai8 v o om c.len om (jf V s) c.own c.all W a b bv N g;generalize jQ o (mF o.C (jf V s))=V3 at*;rw [y] at q;clear c y hR e M;generalize aZ (cl V.C 5)=E at*
  go_enter Tryz.func56,Tryz.ntmps56
  go_wp2_with fail
  refine f.mono ?_;rintro e X ⟨rfl,k⟩;have r:=ah ((Env.start H).later k);clear k f
  go_wp2_with fail
  refine (uh J _ r.at').mono ?_;rintro e w2 ⟨rfl,A⟩;have j:=(r.later A).lay (.cells (lv E).toArray 144);have Z:=fH j.o0 (n:=8) (by rw [dX,l]);have l2:=fM j.o0 (n:=8) (by rw [dX,l]);have j:=ah j;have SL:zl.length=4:=rfl;clear A J r
  go_wp2_with fail
  refine (uh z _).mono ?_;rintro e w3 ⟨rfl,B⟩;have t:=ah (j.later B);clear B z j Z l2
  go_wp2_with fail
  refine (uh K _ _ _ t.at').mono ?_;rintro e w4 ⟨rfl,C4,L4,D⟩;have u:=ah (t.gG D);clear D K t
  go_wp2_with fail
  refine (uh p _ _ _ u.at').mono ?_;rintro e w5 ⟨rfl,C5,L5,F⟩;have x:=u.gG F;have c5:=ah0 x.o0 i om;have ab:(i:Int)<4:=om;have d:=(x.lay (.cells #[.pointer (some ⟨v,0,none⟩)] 82)).lay (.cells #[.int .i64 ((E.getD i ze).first:Nat)] 3);simp only [jV] at d;have O:=ah (acV w5 v (E.getD i ze).first);have d:=ah d;clear F p u x;generalize (E.getD i ze).first=ff at*
  go_wp2_with fail
  refine O.mono ?_;rintro e w6 ⟨rfl,rfl⟩;have P:=ah (uh q _ _ _ _ _ d.at' d.o1 d.o0 d.n0 d.n1);clear q O c5
  go_wp2_with fail
  refine P.mono ?_;rintro e w7 ⟨rfl,C7,L7,G⟩;have ES:=ah (d.gG G).step;clear G d P;go_wp2;go_ret;exact ⟨rfl,_,_,uh ES⟩
def FT (V:aB) (n:Nat):aB:=fF (bQ V 0 (fG (num (cl V.C 0) 4) n))
def wW (V:aB) (s:ByteArray):aB × Nat:=
 if (oz V s).2=0 then
  if (iH V (jf V s)).2.2=0 then (jQ (FT (iH V (jf V s)).1 (iH V (jf V s)).2.1) (mF (FT (iH V (jf V s)).1 (iH V (jf V s)).2.1).C (num (cl (iH V (jf V s)).1.C 0) 6)),0)
  else ((iH V (jf V s)).1,(iH V (jf V s)).2.2)
 else (V,(oz V s).2)
def axn (w:World) (v:Nat) (Cv Lv:Value) (V:aB) (h:aP w v Cv Lv V) (x:5<V.C.length) (Y:V.C.length≤256) (hL:V.L.length≤400000000) (s:ByteArray) (hs:s.size≤maxLen)
  (o:(oz V s).2=0→gU V (jf V s))
  (f:(oz V s).2=0→(iH V (jf V s)).2.2=0→J9 (FT (iH V (jf V s)).1 (iH V (jf V s)).2.1) (num (cl (iH V (jf V s)).1.C 0) 6)):
  Calls Tryz.prog 55 #[.pointer (some ⟨v,0,none⟩),.string s] w fun e w'=>e= .returned (.int .i64 ((wW V s).2:Nat))∧ ∃ b c,dF w w' v Cv Lv b c (wW V s).1:=by
 have k:=ah (XQ w v Cv Lv V h x s hs);have H:=ah h;clear h;rcases (show (∃ m,m≠0∧oz V s=(0,m))∨ ∃ i,i<lenOf (aZ (cl V.C 5))∧oz V s=(((i:Nat):Int),0) by
  rcases XP V s with (e | e) | ⟨i,hi,e,_⟩
  ·exact aA ⟨2,dc,e⟩
  ·exact aA ⟨4,dc,e⟩
  ·exact ay ⟨i,hi,e⟩) with ⟨m,hm,e⟩ | ⟨i,hi,e⟩
 ·have hR:wW V s=(V,m):=by unfold wW;rw [e,ak hm]
  rw [hR];rw [e] at k;dsimp only at k ⊢;have d0:(((m:Nat):Int) != 0)=true:=by rw [ou];omega
  clear f o hR e
  go_enter Tryz.func55,Tryz.ntmps55
  go_wp2_with fail
  refine k.mono ?_;rintro e w1 ⟨rfl,r⟩;have B1:=ah ((dF.refl H).later r);clear r k;go_wp2;go_ret;exact ⟨rfl,_,_,uh B1⟩
 ·have h0:(oz V s).2=0:=by rw [e]
  have o:=o h0;have f:=f h0;have t:Hid (wW V s=if (iH V (jf V s)).2.2=0 then (jQ (FT (iH V (jf V s)).1 (iH V (jf V s)).2.1) (mF (FT (iH V (jf V s)).1 (iH V (jf V s)).2.1).C (num (cl (iH V (jf V s)).1.C 0) 6)),0) else ((iH V (jf V s)).1,(iH V (jf V s)).2.2)):=by
   show _=_;unfold wW;rw [au h0]
  have N:jf V s=((aZ (cl V.C 5)).getD i ze).first:=by unfold jf;rw [e];rfl
  rw [e] at k;dsimp only at k;have Z:Hid (∀ W,aP W v Cv Lv V→_):=fun W d=>Lc W v Cv Lv V d x;have aa:=Ea (cl V.C 5);have hle:=AQ (aZ (cl V.C 5));have Hx:Hid (∀ W,_):=fun W=>Sj W (aZ (cl V.C 5)) aa i om;have y:Hid (∀ W,aP W v Cv Lv V→_):=fun W d=>ahF W v Cv Lv V d x Y hL (jf V s) o;obtain ⟨q1,q2,q3,q4⟩:=ahG V (jf V s) Y x o;generalize iH V (jf V s)=R at*;rw [N] at y;obtain ⟨a,n,D⟩:=R;dsimp only at q1 q2 q3 q4 t y f;clear e h0 o N;generalize (aZ (cl V.C 5)).getD i ze=af at*;generalize aZ (cl V.C 5)=E at*
  go_enter Tryz.func55,Tryz.ntmps55
  go_wp2_with fail
  refine k.mono ?_;rintro e w1 ⟨rfl,r⟩;have F:=ah ((Env.start H).later r);clear r k
  go_wp2_with fail
  refine (uh Z _ F.at').mono ?_;rintro e w2 ⟨rfl,O⟩;have G:=ah (F.later O);have ab:=uh Hx w2;clear O Z F Hx
  go_wp2_with fail
  refine (uh y _ G.at').mono ?_;rintro e w3 ⟨rfl,C3,L3,P⟩;have p:=ah (G.gG P);clear P y G ab
  by_cases Q:D=0
  ·subst Q;have f:=f rfl;have hR:Hid (wW V s=(jQ (FT a n) (mF (FT a n).C (num (cl a.C 0) 6)),0)):=by show _=_;rw [uh t,au rfl]
   have HD:Hid (FT a n=fF (bQ a 0 (fG (num (cl a.C 0) 4) n))):=rfl;have Hh:Hid (∀ W b c,aP W v b c a→_):=fun W b c d=>JD W v b c a d om;have ag:=iK (cl a.C 0) 4;have S:Hid (∀ W b c,aP W v b c a→_):=fun W b c d=>ad8 W v b c a d (num (cl a.C 0) 4) n om om om om;have ai:=uH a 0 (fG (num (cl a.C 0) 4) n);have U8:=zL a 0 (fG (num (cl a.C 0) 4) n);generalize fG (num (cl a.C 0) 4) n=q at*;have I:Hid (∀ W b c,aP W v b c (bQ a 0 q)→_):=fun W b c d=>Az W v b c (bQ a 0 q) d om;have ad:=zn (bQ a 0 q);have ae:(fF (bQ a 0 q)).C.length=(bQ a 0 q).C.length:=by rw [zX]
   rw [← uh HD] at I ad ae;generalize bQ a 0 q=V2 at*;generalize FT a n=z at*;generalize num (cl a.C 0) 6=j at*;generalize num (cl a.C 0) 4=u at*;have Qq:Hid (∀ W b c bv bt,aP W v b c z→_→_→_→_→_):=fun W b c bv bt d=>ai8 v z om f.len om j f.own f.all W b c bv bt d;generalize jQ z (mF z.C j)=V4 at*;clear f t HD
   go_wp2_with fail
   refine (uh Hh _ _ _ p.at').mono ?_;rintro e A ⟨rfl,B⟩;have J:=(p.later B).lay (.cells (hv u j).toArray 128);have c4:(A.alloc (.cells (hv u j).toArray 128)).cell? ⟨A.heap.size,1,none⟩=some (.int .i64 (j:Nat)):=(aF J.o0 1).trans rfl;have f4:=eY J.o0;have l:=(p.later B).lay (.cells ((hv u j).set 1 (.int .i64 (n:Nat))).toArray 128);have l1:=fH l.o0 (n:=2) (by rw [rV];exact sV _ _);have l2:dO (A.alloc (.cells ((hv u j).set 1 (.int .i64 (n:Nat))).toArray 128)) A.heap.size 0 2=hv u n:=(fM l.o0 (n:=2) (by rw [rV];exact sV _ _)).trans rfl;have l:=ah l;clear B Hh p J
   go_wp2_with fail
   refine (uh S _ _ _ l.at').mono ?_;rintro e w6 ⟨rfl,C6,L6,T⟩;have K:=ah (l.gG T);clear T S l l1 l2 c4 f4
   go_wp2_with fail
   refine (uh I _ _ _ K.at').mono ?_;rintro e w7 ⟨rfl,C7,L7,U⟩;have g:=((K.gG U).lay (.cells #[.pointer (some ⟨v,0,none⟩)] 82)).lay (.cells #[.int .i64 (j:Nat)] 3);simp only [jV] at g;have Hm:=ah (acV w7 v j);have g:=ah g;clear U I K
   go_wp2_with fail
   refine Hm.mono ?_;rintro e w8 ⟨rfl,rfl⟩;have Hg:=ah (uh Qq _ _ _ _ _ g.at' g.o1 g.o0 g.n0 g.n1);clear Qq Hm
   go_wp2_with fail
   refine Hg.mono ?_;rintro e w9 ⟨rfl,C9,L9,X⟩;have M:=ah (g.gG X).step;clear X g Hg;go_wp2;go_ret;rw [uh hR];exact ⟨rfl,_,_,uh M⟩
  ·have hR:Hid (wW V s=(a,D)):=by show _=_;rw [uh t,ak Q]
   have de:(((D:Nat):Int) != 0)=true:=by rw [ou];omega
   have M:=ah p.step;clear p t;go_wp2;go_ret;rw [uh hR];exact ⟨rfl,_,_,uh M⟩
def aqh (w:World) (d v:Nat) (Cv Lv:Value) (V:aB) (h:pK w d v Cv Lv V) (g:5<V.C.length) (i:V.C.length≤256) (hL:V.L.length≤400000000) (c:gU V (num (cl V.C 0) 6)) (s:ByteArray) (hs:s.size≤maxLen):
  Calls Tryz.prog 17 #[.pointer (some ⟨d,0,none⟩),.string s] w fun e j=>e= .returned (.int .i64 ((vP V s).2:Nat))∧ ∃ k l,dF w j v Cv Lv k l (vP V s).1:=by
 have f:=ah (I4 _ d v Cv Lv V h);have c0:=h.c0;have a:=ah (axo w v Cv Lv V h.bH g i hL c s hs);clear h c;generalize vP V s=R at*;obtain ⟨p,R2⟩:=R;dsimp only at a ⊢
 go_enter Tryz.func17,Tryz.ntmps17
 go_wp2_with fail
 refine f.mono ?_;rintro e q ⟨rfl,rfl⟩
 go_wp2_with fail
 refine a.mono ?_;rintro e r ⟨rfl,m,n,b⟩;have o:=ah b;clear b a f;go_wp2;go_ret;exact ⟨rfl,m,n,uh o⟩
def aqg (w:World) (d v:Nat) (Cv Lv:Value) (V:aB) (h:pK w d v Cv Lv V) (i:5<V.C.length) (j:V.C.length≤256) (hL:V.L.length≤400000000) (s:ByteArray) (hs:s.size≤maxLen)
  (c:(oz V s).2=0→gU V (jf V s))
  (f:(oz V s).2=0→(iH V (jf V s)).2.2=0→J9 (FT (iH V (jf V s)).1 (iH V (jf V s)).2.1) (num (cl (iH V (jf V s)).1.C 0) 6)):
  Calls Tryz.prog 28 #[.pointer (some ⟨d,0,none⟩),.string s] w fun e k=>e= .returned (.int .i64 ((wW V s).2:Nat))∧ ∃ l m,dF w k v Cv Lv l m (wW V s).1:=by
 have g:=ah (I4 _ d v Cv Lv V h);have c0:=h.c0;have a:=ah (axn w v Cv Lv V h.bH i j hL s hs c f);clear h c f;generalize wW V s=R at*;obtain ⟨q,R2⟩:=R;dsimp only at a ⊢
 go_enter Tryz.func28,Tryz.ntmps28
 go_wp2_with fail
 refine g.mono ?_;rintro e r ⟨rfl,rfl⟩
 go_wp2_with fail
 refine a.mono ?_;rintro e t ⟨rfl,n,o,b⟩;have p:=ah b;clear b a g;go_wp2;go_ret;exact ⟨rfl,n,o,uh p⟩
def aqc (w:World) (d v:Nat) (Cv Lv:Value) (V:aB) (h:pK w d v Cv Lv V) (g:5<V.C.length) (i:V.C.length≤256) (hL:V.L.length≤400000000) (s:ByteArray) (hs:s.size≤maxLen)
  (c:(oz V s).2=0→J9 (Aw V (oz V s).1.toNat) (jf V s)):
  Calls Tryz.prog 29 #[.pointer (some ⟨d,0,none⟩),.string s] w fun e j=>e= .returned (.int .i64 ((zf V s).2:Nat))∧ ∃ k l,dF w j v Cv Lv k l (zf V s).1:=by
 have f:=ah (I4 _ d v Cv Lv V h);have c0:=h.c0;have a:=ah (axa w v Cv Lv V h.bH g i hL s hs c);clear h c;generalize zf V s=R at*;obtain ⟨p,R2⟩:=R;dsimp only at a ⊢
 go_enter Tryz.func29,Tryz.ntmps29
 go_wp2_with fail
 refine f.mono ?_;rintro e q ⟨rfl,rfl⟩
 go_wp2_with fail
 refine a.mono ?_;rintro e r ⟨rfl,m,n,b⟩;have o:=ah b;clear b a f;go_wp2;go_ret;exact ⟨rfl,m,n,uh o⟩
end
section
attribute [local go_sem ↓] dw fP fV Np PS Qa OB Ut Yy Xt XT Xv
attribute [local go_sem] dM fO fU gW gB aV NM PI PK RZ Zw Zt Si
def fB.ZC {w:World} {d:Nat} {Pv:Value} {C:List aj} {L:List kD} (h:fB w d Pv ⟨C,L⟩) {C':List aj} (a:uJ C'):fB (w.setCells d 0 (aS C')) d Pv ⟨C',L⟩:=by
 have hk:Kept (fun x=>x=d) w (w.setCells d 0 (aS C')):=Kept.BL _ _ _ _;refine ⟨?_,bV hk h.row (fun g b=>h.neP g b),a,h.zK⟩
 have:=KU (aS C') 0 w d _ _ _ h.aG
 rw [this]
 congr 2
 show mY (aS C++[Pv]).toArray 0 (aS C')=(aS C'++[Pv]).toArray;exact PN _ _ _ (by have c:=h.cont.flat;have e:=a.flat;simp only at c;omega)
def Jb (D:dR) (s:ByteArray):dR × Nat:=if (qh D s).2=0 then (⟨(iU D.L (qh D s).1.toNat).C,D.L⟩,0) else (D,(qh D s).2)
def auT (w:World) (d:Nat) (Pv:Value) (D:dR) (h:fB w d Pv D) (o:D.L.length≤1000) (s:ByteArray) (hs:s.size≤maxLen):
  Calls Tryz.prog 121 #[.pointer (some ⟨d,0,none⟩),.string s] w fun e p=>e= .returned (.int .i64 ((Jb D s).2:Nat))∧fB p d Pv (Jb D s).1∧Kept (fun x=>x=d) w p:=by
 obtain ⟨C,L⟩:=D;have c:=ah (ae1 w d Pv ⟨C,L⟩ h o s hs);have H:=ah h;obtain ⟨a,cap,u⟩:=gQ h.row;subst u;simp only at o;have f:Hid (Jb ⟨C,L⟩ s=if (qh ⟨C,L⟩ s).2=0 then (⟨(iU L (qh ⟨C,L⟩ s).1.toNat).C,L⟩,0) else (⟨C,L⟩,(qh ⟨C,L⟩ s).2)):=rfl;clear h;rcases (show (∃ m,m≠0∧qh ⟨C,L⟩ s=(-1,m))∨ ∃ i,i<L.length∧qh ⟨C,L⟩ s=(((i:Nat):Int),0) by
  rcases ae0 ⟨C,L⟩ s with (e | e) | ⟨i,hi,e⟩
  ·exact aA ⟨2,dc,e⟩
  ·exact aA ⟨4,dc,e⟩
  ·exact ay ⟨i,hi,e⟩) with ⟨m,hm,e⟩ | ⟨i,hi,e⟩
 ·rw [e,ak hm] at f;rw [e] at c;dsimp only at c f;have B:(((m:Nat):Int) == 0)=false:=by rw [lY];omega
  clear e
  go_enter Tryz.func121,Tryz.ntmps121
  go_wp2_with fail
  refine c.mono ?_;rintro e g ⟨rfl,b⟩;have H1:=ah (H.below b);have l:Hid (Kept (fun x=>x=d) w g):=⟨b.os,b.tape,b.output,b.size,fun k hk _=>b.block k hk⟩;clear b c;go_wp2;go_ret;rw [uh f];exact ⟨rfl,uh H1,uh l⟩
 ·rw [e,au rfl] at f;rw [e] at c;dsimp only at c f;rw [tZ] at f;have A:(i:Int)<(L.length:Int):=om;obtain ⟨q,t,r,_⟩:=gy H.row (show 0<L.length by omega);obtain ⟨rfl,rfl⟩:a=some ⟨q,0,none⟩∧cap=t:=by injection r with v E y;exact ⟨v,y⟩
  clear e r
  go_enter Tryz.func121,Tryz.ntmps121
  go_wp2_with fail
  refine c.mono ?_;rintro e g ⟨rfl,b⟩;have H1:=H.below b;have j:=H1.zK _ (Nz hi);have rg:=aui (NC H1.row H1.zK i hi);have c1:g.cell? ⟨d,4096,none⟩=some (.slice (some ⟨q,0,none⟩) L.length cap):=H1.xE;have F:=sU (n:=4096) rg j.flat;have G:=qU (n:=4096) rg j.flat;have I:=iW H1.aG 0 4096 (by have:=H1.cont.flat;simp only at this;simp [wP,this]);have J:=j.all;have K:=j.len;generalize (iU L i).C=C' at*;have z:=ah (H1.ZC j);have l:Hid (Kept (fun x=>x=d) w (g.setCells d 0 (aS C'))):=(show Kept (fun x=>x=d) w g from ⟨b.os,b.tape,b.output,b.size,fun k hk _=>b.block k hk⟩).trans (Kept.BL g d 0 (aS C'));clear b c H1 rg;go_wp2;go_ret;rw [uh f];exact ⟨rfl,uh z,uh l⟩
def Ls (a:List kD) (k:Nat):List (List UInt8):=(a.take k).map (·.name)
def aug (a:List kD) (k:Nat) (hk:k<a.length):Ls a (k+1)=Ls a k++[(iU a k).name]:=by
 unfold Ls iU;rw [x9 hk,rQ,aN,bJ hk];rfl
def auQ (w:World) (d:Nat) (Pv:Value) (D:dR) (h:fB w d Pv D) (A:D.L.length≤1000):
  Calls Tryz.prog 128 #[.pointer (some ⟨d,0,none⟩)] w fun e j=> ∃ x,e= .returned x∧j.ownsRow w.heap.size 9 1 x D.L.length (sv (Ls D.L D.L.length))∧aC w j:=by
 obtain ⟨B,u,v,y,z⟩:=qw Tryz.adb;obtain ⟨C,L⟩:=D;obtain ⟨a,cap,E⟩:=gQ h.row;subst E;have N:=h.lt;simp only at A;have H:=ah h;clear h
 go_enter Tryz.func128,Tryz.ntmps128
 go_wp2
 go_loopw [3,4] (fun f i j=> ∃ k:Nat,k≤L.length∧i= .int .i64 k∧j.ownsRow w.heap.size 9 1 f k (sv (Ls L k))∧aC w j) (fun _ i _=>L.length - (intOf i).toNat)
 case atStart=>exact ⟨0,om,rfl,wH _ _ _ _,bG _ _⟩
 case round=>
  obtain ⟨k,hk,rfl,g,l⟩:=hrel;obtain ⟨F,G,rfl⟩:=gQ g;have b:=H.below l;have c0:wr.cell? ⟨d,4096,none⟩=some (.slice a L.length cap):=b.xE
  by_cases n:k<L.length
  ·obtain ⟨I,s,p,_⟩:=gy b.row (show 0<L.length by omega);obtain ⟨rfl,rfl⟩:a=some ⟨I,0,none⟩∧cap=s:=by injection p with J Q K;exact ⟨J,K⟩
   have c1:=alh (NC b.row b.zK k n);have O:(k:Int)<(L.length:Int):=om;have hs:=aug L k n;generalize (iU L k).name=nm at*;have m:=ah g;have c:=ah l;clear g l b p
   go_wp2_with (at_builtin;refine yc _ rfl _ _ _ rfl w.heap.size 9 B _ 1 16 Tryz.underlying34 u v y z rfl om (.slice F k G) k (sv (Ls L k)) rfl (m.alloc _) ⟨wr.heap.size,0,none⟩ 1 1 [.string (bM nm)] rfl rfl (pJ (cs:= #[.string (bM nm)]) (t:=9) (fr:=(0,0)) (aX wr _)) (by simp [Value.oneCell']) om (by unfold maxLen;omega) om (by have:=c.size;simp;omega) (wr.heap.size+1) sm ?_;intro g5 cap5 R q r P S)
   have M:=ah ((c.alloc c.size (.cells #[.string (bM nm)] 9)).grown r (by have:=c.size;simp;omega) (fun k hk=>(m.lt k hk).1));go_roundw
   case rel=>exact ⟨k+1,om,gn,by rw [hs,amA];exact q,uh M⟩
   case measure=>exact bW
  ·have o:k=L.length:=om;have m:=ah g;have c:=ah l;clear g l b;rw [o] at m;go_wp2;go_ret;refine ⟨_,rfl,?_,uh c⟩
   have:=uh m
   rw [← o] at this ⊢;exact this
end
end Go.Proofs.YtknjjjenklfeoaaGreatDoor
