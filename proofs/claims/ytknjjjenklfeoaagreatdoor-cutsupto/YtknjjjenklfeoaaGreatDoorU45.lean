import Derived.Test.YtknjjjenklfeoaaGreatDoorU44
set_option maxHeartbeats 8000000
set_option maxRecDepth 100000
set_option linter.all false
namespace Go.Proofs.YtknjjjenklfeoaaGreatDoor
section
open Go.RowKit Go.Shelf
attribute [local go_sem ↓] dw fP fV kU mZ nC jR kP kJ kF lG lI kR kQ kV ng nD l9 nJ jE pW qM qO qA
attribute [local go_sem] dM fO fU gW gB aV kY mP mW mQ mO gX jT kN kH lq kX iM kG lu lD lC kM jc jd nH nK kW kZ mX nT mV mM nN qc qI qK qJ qH
attribute [local go_sem] pU pR Oper.semAt_some
attribute [local go_sem ↓] Xu
attribute [local go_sem] Zr
attribute [local go_sem ↓] awi axL apc
attribute [local go_sem] avv avz avj ane
def aol (F:Bool × aU) (e:Ending):Prop:=(F.1=true∧e= .returned .nilIface)∨(F.1=false∧ ∃ (n:Nat) (x:Value),F.2.bad=(n:Int)∧isIface x∧e= .returned (kS n x))
def Kt (w W:World) (v a bi T:Nat) (F:Bool × aU):Prop:=F.1=false∧ ∃ (n:Nat) (x:Value) (M:List Nat) (m:Nat),F.2.bad=(n:Int)∧isIface x∧uO w W v a bi (kS n x) T M m
def Kt.qj {w W a:World} {v b bi T B:Nat} {F:Bool × aU} {row:Option Nat} (h:Kt w W v b bi T F) (hB:bi<B) (c:W.grownBy a row) (hr: ∀ r,row=some r→B≤r∧ ∃ o:Obj,W.heap[r]? = some o∧o.isCells=false):Kt w a v b bi T F:=by
 obtain ⟨d,n,x,M,m,e,f,g⟩:=h;exact ⟨d,n,x,M,m,e,f,g.qj hB c hr⟩
def apD (w:World) (v:Nat) (Cv Lv:Value) (V:aB) (h:aP w v Cv Lv V) (hG:oN w) (h5:5<V.C.length) (hC:V.C.length≤256) (hT:num (cl V.C 0) 4=V.C.length) (R:aU) (b5:R.L=V.C) (QU:R.told=zM):
  CallsIn Fence.wide 100 Tryz.prog 94 #[.pointer (some ⟨v,0,none⟩)] w fun e w'=>aol (nY (bP V) 0 R) e∧aC w w':=by
 have H:=ah h;have HG:=ah hG;have cw:v<w.heap.size:=h.lt;have bh: ∀ j,eX v Cv Lv j→j<w.heap.size:=h.qV;clear h hG;refine callsIn_of_wp_marks Tryz.func94 rfl trivial ?_ rfl;simp only [Tryz.ntmps94,jm,iO,vV,Nat.reduceAdd,Nat.reduceSub,BX,BZ,Cb,Cc,qy,rU];have L0:=ah (dW.two w (.cells #[.pointer (some ⟨v,0,none⟩)] 82) (.cells #[.nilIface] 98));have Hh:=ah (JD _ v Cv Lv V (H.below L0.below) om);rw [hT] at Hh;have bj:=ah (fun W=>Uu W v)
 gi_wp2_with fail
 refine ⟨trivial,(fE.2 Hh).mono ?_⟩;rintro e Z ⟨rfl,al⟩;have L1:=L0.later al;have cx:w.heap.size+1<Z.heap.size:=aK L1.o1;have L2:=(L1.alloc (.cells (wX V.C.length zM).toArray 212)).alloc (.cells #[.int .i64 0] 3);have N2:uO w ((Z.alloc (.cells (wX V.C.length zM).toArray 212)).alloc (.cells #[.int .i64 0] 3)) v Z.heap.size (Z.heap.size+1) .nilIface V.C.length zM 0:=by
  refine ⟨L2.below,L2.o0,L2.o1,⟨(jX _ _ _ sm).trans (aX _ _),ane⟩,?_,om,om⟩
  have:=aX (Z.alloc (.cells (wX V.C.length zM).toArray 212)) (.cells #[.int .i64 0] 3)
  rwa [jV] at this
 have b6:((Z.alloc (.cells (wX V.C.length zM).toArray 212)).alloc (.cells #[.int .i64 0] 3)).cell? ⟨w.heap.size,0,none⟩=some (.pointer (some ⟨v,0,none⟩)):=(aF N2.bv 0).trans rfl;have cy:Z.heap.size+1<((Z.alloc (.cells (wX V.C.length zM).toArray 212)).alloc (.cells #[.int .i64 0] 3)).heap.size:=sm;have N2:=ah N2;clear Hh al L0 L1 L2
 gi_wp2_with fail
 generalize (Z.alloc (.cells (wX V.C.length zM).toArray 212)).alloc (.cells #[.int .i64 0] 3)=wr at*;generalize b7:Z.heap.size+1=bi at*;generalize Z.heap.size=d at*;have cz:d<bi:=om;clear b7;refine ⟨trivial,(fE.2 (uh bj wr)).mono ?_⟩;rintro e f ⟨rfl,av⟩;have cA:wr.heap.size+1≤f.heap.size:=by rw [av];simp
 have bl:aC wr f:=by rw [av];exact fC
 have ab:f.heap[wr.heap.size]? = some (.cells #[.pointer (some ⟨v,0,none⟩)] 82 (0,0)):=by rw [av];exact aX _ _
 have N3:=N2.later bl;have bm:=H.below N3.below;have a1: ∀ t ∈ bP V,t<65536:=by
  intro t ht;unfold bP AZ at ht;rcases cO.1 ht with rfl | ht
  ·exact iK _ _
  ·obtain ⟨e,he,rfl⟩:=gY.1 ht;have he:=List.mem_of_mem_take he;unfold aZ at he;obtain ⟨i,_,rfl⟩:=gY.1 he;exact iK _ _
 have xH:=aik (Pc:=fun t=>t<65536) 99 om (fun j=>j=w.heap.size+1∨j=d∨j=bi) v wr.heap.size (f.heap.size+2) V Cv Lv f bm ab om (fun q=>by have:=bh _ q;omega) (fun j hj=>by rcases hj with rfl | rfl | rfl <;> omega) h5 a1;have N3:=ah N3;clear N2 bm ab bl av bj b6 a1
 gi_wp2_with fail
 generalize (hv V.C.length (num (cl V.C 0) 6)).toArray=bn at*;generalize (wX V.C.length zM).toArray=rc at*;have HT:=ah (rfl:V.C.length=V.C.length);refine aee om (gf:=173) (lb:= #[.pointer (some ⟨wr.heap.size,0,none⟩)]) rfl (enters_of Tryz.func173 kr rfl) xH
  (fun A B C h k=>aT.trans (R:=bK) (fun _ _ _ a b=>a.trans b) h k) (fun W o o' hl hc=>aT.turn bK.refl W _ o o' hl hc om) (bG _ _) (fun _=>rfl)
  (fun pre c=>uO w c v d bi .nilIface V.C.length (nY (lV pre) 0 R).2.told (if pre.length=0 then 0 else 5)∧(nY (lV pre) 0 R).1=true∧Small (nY (lV pre) 0 R).2.told)
  (fun pre c=>Kt w c v d bi V.C.length (nY (lV pre) 0 R))
  (fun _ _ _ _ hs E hr=>⟨uO.qj hs.1 om E hr,hs.2⟩)
  (fun _ _ _ _ hs E hr=>Kt.qj hs om E hr)
  ⟨by
   show uO w f v d bi .nilIface V.C.length R.told 0;rw [QU];exact uh N3,rfl,by
   show Small R.told;rw [QU];exact axH⟩
  (fun x a' c=> ∃ X,bi<X∧c.heap[X]? = some (.cells #[.int .i64 ((x.1:Nat):Int)] 3 (0,0))∧a'={ tmps:= #[.pointer (some ⟨v,0,none⟩),.pointer (some ⟨w.heap.size,0,none⟩),.pointer (some ⟨w.heap.size+1,0,none⟩),.pointer (some ⟨d,0,none⟩),.pointer (some ⟨bi,0,none⟩),.pointer (some ⟨X,0,none⟩),undef,undef,undef,.pointer (some ⟨v,0,none⟩),.agg bn,.int .i64 ((V.C.length:Nat):Int),.agg rc,.pointer (some ⟨v,0,none⟩),.func (.func 173) #[] #[.pointer (some ⟨wr.heap.size,0,none⟩)],.int .i64 ((x.1:Nat):Int),undef,undef,undef,undef,undef,undef,undef,undef,undef,undef,undef,undef,undef,undef,undef,undef,undef,undef,undef,undef,undef,undef],defers:=[] })
  (fun y b8 _ A' B' row hs E hr=>by
   obtain ⟨ad,h0,O,h3⟩:=hs;refine ⟨ad,h0,?_,h3⟩;rw [E.block ad (aK O) (fun e=>by
    obtain ⟨_,o,ho,hc⟩:=hr ad e.symm;rw [O] at ho;injection ho with ho;subst ho;cases hc)]
   exact O)
  ?assign ?body ?done ?stop
 case assign=>
  rintro l pre x c K ⟨p,bo,bp⟩ hK;have hb:Below c.heap.size c (c.alloc (.cells #[.int .i64 ((x.1:Nat):Int)] 3)):=fC;have b9:=aK p.bin;have J:=ah (p.later hb);have P:=ah bo;have S:=ah bp;clear p bo bp
  gi_wp2
  exact hK _ _ ((KeepsOthers.alloc _ _).from _) (aT.below bK.refl hb) ⟨uh J,uh P,uh S⟩ ⟨_,b9,aX _ _,rfl⟩
 case done=>
  rintro D ys c hD hS ⟨hM,q,_⟩ hK;have an:lV ys=bP V:=hS;rw [an] at q;have uK:=ah q;have r1:c.cell? ⟨w.heap.size+1,0,none⟩=some .nilIface:=(aF hM.br 0).trans rfl;have f2:=eY hM.br;have M5:=hM.answer .nilIface;have cb:(c.setCell ⟨w.heap.size+1,0,none⟩ .nilIface).heap[D]? = some (.deferred (some [])):=(Kept.only c (w.heap.size+1) 0 .nilIface).aG om hK;have bq:=M5.br;have HB:=ah (TW (D:=D) M5.below om);have cc:=ah bq;clear hM hS an q xH N3 M5 bq
  gi_wp2
  refine ⟨sm,.inl ⟨_,_,rfl,run_takeDeferred cb,?_⟩⟩;have OQ:((c.setCell ⟨w.heap.size+1,0,none⟩ .nilIface).putObj D (.deferred none)).heap[w.heap.size+1]? = some (.cells #[.nilIface] 98 (0,0)):=(World.putObj_heap_other om).trans cc;refine ⟨_,qZ rfl ⟨w.heap.size+1,0,none⟩ rfl (Yz OQ),aA ⟨uh uK,rfl⟩,uh HB⟩
 case stop=>
  rintro D pre c hD aw ⟨h1,n,x,M,m,O,h3,hM⟩ hK;obtain ⟨rr,ax⟩:=aw;have q:=aiw (lV pre) rr 0 R h1;rw [show lV pre++rr=bP V from ax] at q;rw [← q] at h1 O;have HB:=ah (TW (D:=D) hM.below om);have cd:=hM.br;have H1:=ah h1;have H2:=ah O;clear xH N3 q h1 O hM ax
  gi_wp2
  refine ⟨sm,.inl ⟨_,_,rfl,run_takeDeferred hK,?_⟩⟩;have OQ:(c.putObj D (.deferred none)).heap[w.heap.size+1]? = some (.cells #[kS n x] 98 (0,0)):=(World.putObj_heap_other om).trans cd;refine ⟨_,qZ rfl ⟨w.heap.size+1,0,none⟩ rfl (Yz OQ),ay ⟨uh H1,n,x,uh H2,h3,rfl⟩,uh HB⟩
 case body=>
  rintro l pre x a' W hl ⟨r,hr⟩ ⟨p,a3,ao⟩ ⟨X,cB,az,rfl⟩ hlen;obtain ⟨x,hx⟩:=x;have OI:(nY (lV pre) 0 R).2.L=V.C:=by rw [aiu];exact b5
  have aq:=aix x (lV pre) 0 R a3;rw [show (lV pre).length=pre.length from tY _,show lV pre++[x]=lV (pre++[⟨x,hx⟩]) from (aal pre ⟨x,hx⟩).symm] at aq;generalize (nY (lV pre) 0 R).2=Q at*;generalize (if pre.length=0 then 0 else 5)=zF at*;have cf:W.cell? ⟨X,0,none⟩=some (.int .i64 ((x:Nat):Int)):=(aF az 0).trans rfl;have cC:=aK p.bin;have yF:=H.below p.below;have nf: ∀ j,w.heap.size≤j→ ¬ eX v Cv Lv j:=fun j hj q=>by have:=bh j q;omega
  have cD:=p.lo
  by_cases N:JK Q.told V.C.length x 1=true
  ·have aa:(rO x zF Q).1=false∧(rO x zF Q).2.bad=((zF:Nat):Int):=by
    have:=aeY (R:=Q) (n:=x) (kind:=1) (a:=zF) (by rw [OI];exact N)
    unfold rO;rw [this];exact ⟨rfl,rfl⟩
   rw [← aq] at aa;have Ht:=ah (aek W d V.C.length Q.told x 1 p.FU (HG.below p.below) hC hx om ao N);have ci:W.cell? ⟨bi,0,none⟩=some (.int .i64 ((zF:Nat):Int)):=(aF p.bin 0).trans rfl;have c3:W.cell? ⟨w.heap.size+1,0,none⟩=some .nilIface:=(aF p.br 0).trans rfl;have f3:=eY p.br;have HN:=ah p;have a4:=ah aa;have K3:=ah (fun z=>(aT.own yF (Kept.only W (w.heap.size+1) 0 z) (by rintro j rfl;exact ⟨aA rfl,nf _ om,_,p.br,rfl⟩) (bK.refl _):aT (fun j=>j=w.heap.size+1∨j=d∨j=bi) (fun k=>f.heap.size+2≤k) v bK W (W.setCell ⟨w.heap.size+1,0,none⟩ z)));clear p a3 ao OI aq yF aa xH N3
   gi_wp2_with fail
   refine ⟨trivial,(CallsIn.inRound l (fE.2 Ht)).mono ?_⟩;rintro e u ⟨⟨z,⟨tz,vz,rfl⟩,rfl⟩,rfl⟩;have hex:Kt w (u.setCell ⟨w.heap.size+1,0,none⟩ (kS zF (.iface tz vz))) v d bi V.C.length (nY (lV (pre++[⟨x,hx⟩])) 0 R):=
    ⟨a4.1,zF,_,_,_,a4.2,⟨_,_,rfl⟩,HN.answer _⟩
   have a5:=ah hex;have q:=ah ((KeepsOthers.setCell u ⟨w.heap.size+1,0,none⟩ (kS zF (.iface tz vz))).from f.heap.size);have K4:=ah (uh K3 (kS zF (.iface tz vz)));clear hex a4 Ht
   gi_wp2
   repeat (first | exact uh a5 | exact uh q | exact uh K4 | refine ⟨?_,?_⟩)
  ·have N:JK Q.told V.C.length x 1=false:=by simpa using N
   obtain ⟨a6,a7⟩:=aeZ (R:=Q) (n:=x) (kind:=1) (a:=zF) (by rw [OI];exact N);have cg:x<V.C.length:=by have:=(JW a6).2;rw [OI] at this;exact this
   have aa:rO x zF Q=jZ x (jB V.C x 32 0) (tell Q x 1 zF).2:=by unfold rO;rw [au a6,OI]
   rw [← aq] at aa;have bt:(tell Q x 1 zF).2.L=V.C:=by rw [Af];exact OI
   generalize (tell Q x 1 zF).2=F at*;have Ht:=ah (ael W d V.C.length Q.told x 1 p.FU hC om ao N);have Na:uO w (W.setCell ⟨d,1+x,none⟩ (.int .u8 ((1:Nat):Int))) v d bi .nilIface V.C.length F.told zF:=by
    rw [a7];exact p.role (p.FU.put x 1) (Kept.only _ _ _ _)
   have Ka:aT (fun j=>j=w.heap.size+1∨j=d∨j=bi) (fun k=>f.heap.size+2≤k) v bK W (W.setCell ⟨d,1+x,none⟩ (.int .u8 ((1:Nat):Int))):=
    aT.own yF (Kept.only _ _ _ _) (by rintro j rfl;exact ⟨ay (aA rfl),nf _ om,_,p.FU.aG,rfl⟩) (bK.refl _)
   have Fa:KeepsFrom f.heap.size W (W.setCell ⟨d,1+x,none⟩ (.int .u8 ((1:Nat):Int))):=(KeepsOthers.setCell _ _ _).from _
   have ch:Small F.told:=by rw [a7];exact ao.set _ om
   have bw:(W.setCell ⟨d,1+x,none⟩ (.int .u8 ((1:Nat):Int))).heap[X]? = some (.cells #[.int .i64 ((x:Nat):Int)] 3 (0,0)):=(Kept.only _ _ _ _).aG om az;have bA:(W.setCell ⟨d,1+x,none⟩ (.int .u8 ((1:Nat):Int))).heap[l]? = some (.loop r):=Fa.same l _ hl hr rfl;have Na:=ah Na;have Ka:=ah Ka;have Fa:=ah Fa;have a8:=ah bw;have a9:=ah bA;have cE:=aK az;clear p a3 ao OI aq yF xH N3 a6 a7 N bw bA az hr
   gi_wp2_with fail
   refine ⟨trivial,(CallsIn.inRound l (fE.2 Ht)).mono ?_⟩;rintro e I ⟨rfl,bB⟩;rw [← bB] at Na Ka Fa a8 a9;have UK:=H.below Na.below;have ca:I.cell? ⟨bi,0,none⟩=some (.int .i64 ((zF:Nat):Int)):=(aF Na.bin 0).trans rfl;have fa:=eY Na.bin;have N5:=Na.place 5;have K5:aT (fun j=>j=w.heap.size+1∨j=d∨j=bi) (fun k=>f.heap.size+2≤k) v bK I (I.setCell ⟨bi,0,none⟩ (.int .i64 ((5:Nat):Int))):=
    aT.own UK (Kept.only _ _ _ _) (by rintro j rfl;exact ⟨ay (ay rfl),nf _ om,_,Na.bin,rfl⟩) (bK.refl _)
   have K5:=Ka.trans (fun _ _ _ a b=>a.trans b) K5;have F5:=Fa.trans ((KeepsOthers.setCell I ⟨bi,0,none⟩ (.int .i64 ((5:Nat):Int))).from f.heap.size);have Yg:(I.setCell ⟨bi,0,none⟩ (.int .i64 ((5:Nat):Int))).heap[X]? = some (.cells #[.int .i64 ((x:Nat):Int)] 3 (0,0)):=(Kept.only _ _ _ _).aG om a8;have bE:(I.setCell ⟨bi,0,none⟩ (.int .i64 ((5:Nat):Int))).heap[l]? = some (.loop r):=((KeepsOthers.setCell I ⟨bi,0,none⟩ (.int .i64 ((5:Nat):Int))).from f.heap.size).same l _ hl a9 rfl;have cj:(I.setCell ⟨bi,0,none⟩ (.int .i64 5)).cell? ⟨w.heap.size,0,none⟩=some (.pointer (some ⟨v,0,none⟩)):=(aF N5.bv 0).trans rfl;have ck:(I.setCell ⟨bi,0,none⟩ (.int .i64 5)).cell? ⟨X,0,none⟩=some (.int .i64 ((x:Nat):Int)):=(aF Yg 0).trans rfl;have Hm:=ah (V9 (I.setCell ⟨bi,0,none⟩ (.int .i64 5)) v x);have N5:=ah N5;have K5:=ah K5;have F5:=ah F5;have TI:=ah Yg;have aD:=ah bE
   clear Na Ka Fa a8 a9 UK Ht bB Yg bE cf
   gi_wp2_with fail
   change Hid (uO w (I.setCell ⟨bi,0,none⟩ (.int .i64 5)) v d bi .nilIface V.C.length F.told 5) at N5;change Hid (aT _ _ v bK W (I.setCell ⟨bi,0,none⟩ (.int .i64 5))) at K5;change Hid (KeepsFrom f.heap.size W (I.setCell ⟨bi,0,none⟩ (.int .i64 5))) at F5;change Hid ((I.setCell ⟨bi,0,none⟩ (.int .i64 5)).heap[X]? = _) at TI;change Hid ((I.setCell ⟨bi,0,none⟩ (.int .i64 5)).heap[l]? = _) at aD;generalize I.setCell ⟨bi,0,none⟩ (.int .i64 5)=W5 at*;refine ⟨trivial,(CallsIn.inRound l (fE.2 Hm)).mono ?_⟩;rintro e wc ⟨rfl,ar⟩;have cF:W5.heap.size+2≤wc.heap.size:=by rw [ar];simp
   have ai:aC W5 wc:=by rw [ar];exact (fC).alloc sm _
   have al:wc.heap[W5.heap.size]? = some (.cells #[.pointer (some ⟨v,0,none⟩)] 82 (0,0)):=by rw [ar];exact (jX _ _ _ sm).trans (aX _ _)
   have bL:wc.heap[W5.heap.size+1]? = some (.cells #[.int .i64 (x:Nat)] 3 (0,0)):=by rw [ar];have:=aX (W5.alloc (.cells #[.pointer (some ⟨v,0,none⟩)] 82)) (.cells #[.int .i64 (x:Nat)] 3);rwa [jV] at this
   have N6:=N5.later ai;have bN:=H.below N6.below;have yF:=H.below N5.below;have cm:wc.heap[l]? = some (.loop r):=(ai.block _ (aK aD)).trans aD;have cp:=(ai.block _ (aK TI)).trans TI;have cG:=aK N5.bin;have Yg:=aK TI;have Fg:=awK 97 om (fun j=>j=w.heap.size+1∨j=d∨j=bi) v W5.heap.size (W5.heap.size+1) x (wc.heap.size+1) V Cv Lv wc bN al bL om om (fun q=>by have:=yF.qV _ q;omega) (fun q=>by have:=yF.qV _ q;omega) (fun k hk=>om) cg;have Gx:KeepsFrom f.heap.size W wc:=F5.trans ⟨ai.size,fun k o _ hk _=>(ai.block k (aK hk)).trans hk⟩;have cq:aT (fun j=>j=w.heap.size+1∨j=d∨j=bi) (fun k=>f.heap.size+2≤k) v bK W wc:=K5.trans (fun _ _ _ a b=>a.trans b) (aT.below bK.refl ai);have Yf:W.heap.size≤wc.heap.size:=Gx.size;have N6:=ah N6;clear N5 bN al bL ar Hm cj ck yF K5 F5 TI aD
   gi_wp2_with fail
   refine auG (G:=fun s:Ip=>s.number%32768<V.C.length) (l₀:=l) (r₀:=r) cm om (gf:=174) (lb:= #[.pointer (some ⟨W5.heap.size,0,none⟩),.pointer (some ⟨W5.heap.size+1,0,none⟩)]) rfl (enters_of Tryz.func174 kr rfl) Fg
    (fun A B C h k=>aT.trans (R:=dK) (fun _ _ _ a b=>tX a b) h k) (fun W o o' hl hc=>aT.turn (R:=dK) (fun _=>rfl) W _ o o' hl hc om) (bG _ _) (fun _=>rfl)
    (fun ip c=>(uO w c v d bi .nilIface V.C.length (jZ x (uj ip) F).2.told 5∧(jZ x (uj ip) F).1=true∧Small (jZ x (uj ip) F).2.told∧c.heap[X]? = some (.cells #[.int .i64 ((x:Nat):Int)] 3 (0,0)))∧KeepsFrom f.heap.size W c∧aT (fun j=>j=w.heap.size+1∨j=d∨j=bi) (fun k=>f.heap.size+2≤k) v bK W c)
    (fun ip c=>Kt w c v d bi V.C.length (jZ x (uj ip) F)∧KeepsFrom f.heap.size W c∧aT (fun j=>j=w.heap.size+1∨j=d∨j=bi) (fun k=>f.heap.size+2≤k) v bK W c)
    (fun ip y c hs=>by
     have h1:=hs.1.2.1;rw [aeK] at h1;have O:=aqO h1;have h3:=(awr O.2).2;rw [XZ,bt] at h3;exact h3)
    (fun s A B row hs E hr=>⟨⟨uO.qj hs.1.1 om E hr,hs.1.2.1,hs.1.2.2.1,sQ E hr hs.1.2.2.2 om⟩,ownFrom_keepsFrom (β:=Unit) Yf () A B row hs.2.1 E hr,RI (R:=bK) bK.refl (fun _ _ _ a b=>a.trans b) (β:=Unit) Yf () A B row hs.2.2 E hr⟩)
    (fun s A B row hs E hr=>⟨Kt.qj hs.1 om E hr,ownFrom_keepsFrom (β:=Unit) Yf () A B row hs.2.1 E hr,RI (R:=bK) bK.refl (fun _ _ _ a b=>a.trans b) (β:=Unit) Yf () A B row hs.2.2 E hr⟩)
    ⟨⟨uh N6,rfl,ch,cp⟩,Gx,cq⟩
    (fun y a' c=> ∃ bx,c.heap[bx]? = some (.cells #[.int .i64 ((y.table:Nat):Int),.int .i64 ((y.index:Nat):Int),.int .u16 ((y.number:Nat):Int)] 219 (0,0))∧a'={ tmps:= #[.pointer (some ⟨v,0,none⟩),.pointer (some ⟨w.heap.size,0,none⟩),.pointer (some ⟨w.heap.size+1,0,none⟩),.pointer (some ⟨d,0,none⟩),.pointer (some ⟨bi,0,none⟩),.pointer (some ⟨X,0,none⟩),.nilIface,.pointer (some ⟨bx,0,none⟩),undef,.pointer (some ⟨v,0,none⟩),.agg bn,.int .i64 ((V.C.length:Nat):Int),.agg rc,.pointer (some ⟨v,0,none⟩),.func (.func 173) #[] #[.pointer (some ⟨wr.heap.size,0,none⟩)],.int .i64 ((x:Nat):Int),.int .i64 ((x:Nat):Int),.nilIface,.nilIface,.bool false,undef,undef,undef,undef,.pointer (some ⟨v,0,none⟩),.int .i64 ((x:Nat):Int),.func (.func 174) #[] #[.pointer (some ⟨W5.heap.size,0,none⟩),.pointer (some ⟨W5.heap.size+1,0,none⟩)],oK y,undef,undef,undef,undef,undef,undef,undef,undef,undef,undef],defers:=[] })
    (fun y b8 _ A' B' row hs E hr=>by
     obtain ⟨ad,O,h3⟩:=hs;refine ⟨ad,?_,h3⟩;rw [E.block ad (aK O) (fun e=>by
      obtain ⟨_,o,ho,hc⟩:=hr ad e.symm;rw [O] at ho;injection ho with ho;subst ho;cases hc)]
     exact O) ?assign2 ?body2 ?done2 ?stop2
   case assign2=>
    rintro l2 ip y c K ⟨⟨g,g4,g5,g6⟩,T,U⟩ hK;have hb:Below c.heap.size c (c.alloc (.cells #[.int .i64 ((y.table:Nat):Int),.int .i64 ((y.index:Nat):Int),.int .u16 ((y.number:Nat):Int)] 219)):=fC;have J:=ah (g.later hb);have P:=ah (T.trans ((KeepsOthers.alloc c (.cells #[.int .i64 ((y.table:Nat):Int),.int .i64 ((y.index:Nat):Int),.int .u16 ((y.number:Nat):Int)] 219)).from _));have S:=ah (U.trans (fun _ _ _ a b=>a.trans b) (aT.below bK.refl hb));have G4:=ah g4;have G5:=ah g5;have G6:=ah ((hb.block _ (aK g6)).trans g6);clear g T U g4 g5 g6;unfold oK
    gi_wp2
    exact hK _ _ ((KeepsOthers.alloc _ _).from _) (aT.below (R:=dK) (fun _=>rfl) hb) ⟨⟨uh J,uh G4,uh G5,uh G6⟩,uh P,uh S⟩ ⟨_,aX _ _,rfl⟩
   case done2=>
    rintro ip c hS ⟨⟨g,g4,g5,_⟩,T,U⟩;have an:uj ip=jB V.C x 32 0:=by rw [hS];exact aiE V x
    rw [an,← aa] at g g4 g5;have cr: ¬ (pre++[(⟨x,hx⟩:UM fun t=>t<65536)]).length=0:=sm;have J:Hid (uO w c v d bi .nilIface V.C.length (nY (lV (pre++[⟨x,hx⟩])) 0 R).2.told (if (pre++[(⟨x,hx⟩:UM fun t=>t<65536)]).length=0 then 0 else 5)):=by rw [ak cr];exact g
    have G0:=ah g;have P:=ah T;have S:=ah U;have G4:=ah g4;have G5:=ah g5;clear g T U g4 g5 hS an aa
    gi_wp2
    repeat (first | exact uh G0 | exact uh J | exact uh P | exact uh S | exact uh G4 | exact uh G5 | (rw [ak sm];exact uh G0) | refine ⟨?_,?_⟩)
   case stop2=>
    rintro ip c aw ⟨g,T,U⟩;have a2:uj ip <+: jB V.C x 32 0:=by
     rw [← aiE V x];obtain ⟨rr,ax⟩:=aw;exact ⟨uj rr,by rw [← ax];simp [uj]⟩
    have bO:=aqP (R:=F) (first:=x) a2 g.1;rw [← bO,← aa] at g;have J:=ah g;have P:=ah T;have S:=ah U;clear g T U aw a2 bO aa
    gi_wp2
    repeat (first | exact uh J | exact uh P | exact uh S | refine ⟨?_,?_⟩)
   case body2=>
    rintro l2 ip y a' c cH _ ⟨⟨g,g4,g5,g6⟩,T,U⟩ ⟨bx,ab,rfl⟩ cI;have aE:=H.below g.below;have hn:=y.hn;have aL:(jZ x (uj ip) F).2.L=V.C:=by rw [XZ];exact bt
    have aM:jZ x (uj (ip++[y])) F=qN (jZ x (uj ip) F).2 x (yQ y):=by rw [aeK,aiz x (uj ip) (yQ y) F g4]
    have c0:c.cell? ⟨bx,0,none⟩=some (.int .i64 ((y.table:Nat):Int)):=(aF ab 0).trans rfl;have c1:c.cell? ⟨bx,1,none⟩=some (.int .i64 ((y.index:Nat):Int)):=(aF ab 1).trans rfl;have c2:c.cell? ⟨bx,2,none⟩=some (.int .u16 ((y.number:Nat):Int)):=(aF ab 2).trans rfl;have cf:c.cell? ⟨X,0,none⟩=some (.int .i64 ((x:Nat):Int)):=(aF g6 0).trans rfl;generalize (jZ x (uj ip) F).2=Q2 at*;have cu:=aK g.bin
    by_cases N:JU Q2.told V.C.length x y.table y.index y.number=true
    ·have aR:=awt (R:=Q2) (first:=x) (s:=yQ y) (by rw [aL];exact N);have ba:=aeW aR;rw [← aM] at aR ba;have Ht:=ah (avZ c d V.C.length Q2.told x y.table y.index y.number g.FU (HG.below g.below) hC hn g5 N);have J:=ah g;have P:=ah T;have S:=ah U;have bR:=ah aR;have bS:=ah ba;have HV:=ah aE;have pO:=ah ab;clear g T U g4 g5 g6 aM aR ba aE aL Fg;generalize oK y=sv at*
     gi_wp2_with fail
     refine ⟨trivial,(CallsIn.inRound l2 (fE.2 Ht)).mono ?_⟩;rintro e u ⟨⟨z,⟨tz,vz,rfl⟩,rfl⟩,ae⟩;have Y:=J.later ae;have c3:u.cell? ⟨w.heap.size+1,0,none⟩=some .nilIface:=(aF Y.br 0).trans rfl;have f3:=eY Y.br;have c7:u.cell? ⟨bx,0,none⟩=some (.int .i64 ((y.table:Nat):Int)):=(aF ((ae.block _ (aK pO)).trans pO) 0).trans rfl;have bb:=H.below Y.below;have hex:Kt w (u.setCell ⟨w.heap.size+1,0,none⟩ (kS y.table (.iface tz vz))) v d bi V.C.length (jZ x (uj (ip++[y])) F):=
      ⟨uh bR,y.table,_,_,_,uh bS,⟨_,_,rfl⟩,Y.answer _⟩
     have a5:=ah hex;have KA:aT (fun j=>j=w.heap.size+1∨j=d∨j=bi) (fun k=>wc.heap.size+1≤k) v dK u (u.setCell ⟨w.heap.size+1,0,none⟩ (kS y.table (.iface tz vz))):=
      aT.own bb (Kept.only _ _ _ _) (by rintro j rfl;exact ⟨aA rfl,nf _ om,_,Y.br,rfl⟩) rfl
     have KB:aT (fun j=>j=w.heap.size+1∨j=d∨j=bi) (fun k=>f.heap.size+2≤k) v bK u (u.setCell ⟨w.heap.size+1,0,none⟩ (kS y.table (.iface tz vz))):=
      aT.own bb (Kept.only _ _ _ _) (by rintro j rfl;exact ⟨aA rfl,nf _ om,_,Y.br,rfl⟩) (bK.refl _)
     have K1:=ah (aT.trans (R:=dK) (fun _ _ _ a b=>tX a b) (aT.below (R:=dK) (fun _=>rfl) ae) KA);have K2:=ah (S.trans (fun _ _ _ a b=>a.trans b) ((aT.below bK.refl ae).trans (fun _ _ _ a b=>a.trans b) KB));have af: ∀ B,KeepsFrom B c u:=fun B=>⟨ae.size,fun k o _ hk _=>(ae.block k (aK hk)).trans hk⟩;have F1:=ah ((af wc.heap.size).trans ((KeepsOthers.setCell u ⟨w.heap.size+1,0,none⟩ (kS y.table (.iface tz vz))).from wc.heap.size));have F2:=ah (P.trans ((af f.heap.size).trans ((KeepsOthers.setCell u ⟨w.heap.size+1,0,none⟩ (kS y.table (.iface tz vz))).from f.heap.size)));clear hex KA KB af Y bb ae Ht J P S bR bS c0 c1 c2 cf
     gi_wp2
     repeat (first | exact uh a5 | exact uh F1 | exact uh F2 | exact uh K1 | exact uh K2 | refine ⟨?_,?_⟩)
    ·have N:JU Q2.told V.C.length x y.table y.index y.number=false:=by simpa using N
     obtain ⟨bd,a0⟩:=awu (R:=Q2) (first:=x) (s:=yQ y) (by rw [aL];exact N);rw [← aM] at bd a0;have Ht:=ah (av2 c d V.C.length Q2.told x y.table y.index y.number g.FU hC hn g5 N);have bX:Small (jZ x (uj (ip++[y])) F).2.told:=by
      rw [a0];refine g5.set _ ?_;unfold Sv
      split <;> decide
     have J:=ah g;have P:=ah T;have S:=ah U;have G6:=ah g6;have Ap:=ah bd;have b3:=ah a0;have ct:=ah bX;have HV:=ah aE;clear g T U g4 g5 g6 aM bd a0 aE aL Fg bX ab;generalize oK y=sv at*
     gi_wp2_with fail
     refine ⟨trivial,(CallsIn.inRound l2 (fE.2 Ht)).mono ?_⟩;rintro e u ⟨rfl,b4,ag⟩;have Y:=J.role b4 ag;rw [show Q2.told.set (y.number%32768) (Sv x y.table)=(jZ x (uj (ip++[y])) F).2.told from b3.symm] at Y;have KA:aT (fun j=>j=w.heap.size+1∨j=d∨j=bi) (fun k=>wc.heap.size+1≤k) v dK c u:=
      aT.own HV ag (by rintro j rfl;exact ⟨ay (aA rfl),nf _ om,_,J.FU.aG,rfl⟩) rfl
     have KB:aT (fun j=>j=w.heap.size+1∨j=d∨j=bi) (fun k=>f.heap.size+2≤k) v bK c u:=
      aT.own HV ag (by rintro j rfl;exact ⟨ay (aA rfl),nf _ om,_,J.FU.aG,rfl⟩) (bK.refl _)
     have K1:=ah KA;have K2:=ah (S.trans (fun _ _ _ a b=>a.trans b) KB);have af: ∀ B,d<B→KeepsFrom B c u:=fun B hB=>⟨ag.size,fun k o cJ hk _=>ag.aG om hk⟩;have F1:=ah (af wc.heap.size om);have F2:=ah (P.trans (af f.heap.size om));have B7:=ah (ag.aG om G6);have Y:=ah Y;clear KA KB af b4 ag Ht J P S G6 b3 c0 c1 c2 cf
     gi_wp2
     repeat (first | exact uh Y | exact uh Ap | exact uh ct | exact uh B7 | exact uh F1 | exact uh F2 | exact uh K1 | exact uh K2 | refine ⟨?_,?_⟩)
end
section
open Go.RowKit Go.Shelf
attribute [local go_sem ↓] dw fP fV kU mZ nC jR kP kJ kF lG lI kR kQ kV ng nD l9 nJ jE
attribute [local go_sem] dM fO fU gW gB aV kY mP mW mQ mO gX jT kN kH lq kX iM kG lu lD lC kM jc jd nH nK kW kZ mX nT mV mM nN
attribute [local go_sem] Oper.semAt_some
attribute [local go_sem] pU pR
def ai4 {file:List aj} (e: ∀ c ∈ file,c.length=64):mD file=true↔Qx file:=by
 constructor
 ·intro h;obtain ⟨f,_,g,i,j,b,d⟩:=UO h;have hc:(cl file 0).length=64:=je e om;have a:UN (cl file 0)=true:=by rw [acT hc,d,dZ g];rfl
  exact ⟨f,aaO a,i,j,b⟩
 ·intro h;have b:=h.qp;have d:=h.seven;have k:=h.most;have l:=h.le;have hc:(cl file 0).length=64:=je e om;have a:UN (cl file 0)=true:=dZ h.same;rw [acT hc,wI,DI] at a;unfold mD;simp only [wI,DI];exact ⟨b,om,a.1,d,k,l,a.2⟩
section
variable {file:List aj}
def atA (a:mD file=true) (b:xK (cl (dP file).C 5)=false):qY file=5:=by
 unfold qY;rw [ak (by rw [a];decide),au b]
def atB (a:mD file=true) (b:xK (cl (dP file).C 5)=true) (c:(nY (bP (dP file)) 0 (qR file)).1=false):qY file=(nY (bP (dP file)) 0 (qR file)).2.bad:=by
 unfold qY;rw [ak (by rw [a];decide),ak (by rw [b];decide),au c]
def atC (a:mD file=true) (b:xK (cl (dP file).C 5)=true) (c:(nY (bP (dP file)) 0 (qR file)).1=true) (d:0≤BA (iw (dP file)) (aJ (dP file).C) (dP file).C.length 256 0):
  qY file=BA (iw (dP file)) (aJ (dP file).C) (dP file).C.length 256 0:=by
 unfold qY;rw [ak (by rw [a];decide),ak (by rw [b];decide),ak (by rw [c];decide),au d]
def ak5 (a:mD file=true) (b:xK (cl (dP file).C 5)=true) (c:(nY (bP (dP file)) 0 (qR file)).1=true) (d:BA (iw (dP file)) (aJ (dP file).C) (dP file).C.length 256 0= -1):
  qY file=GL (dP file).C (aJ (dP file).C) (bP (dP file)):=by
 unfold qY;rw [ak (by rw [a];decide),ak (by rw [b];decide),ak (by rw [c];decide),ak (by rw [d];decide)]
def atF (e: ∀ c ∈ file,c.length=64) (g:mD file=true) (h:xK (cl (dP file).C 5)=true) (i:(nY (bP (dP file)) 0 (qR file)).1=true): ∀ f ∈ bP (dP file),gU (dP file) f:=by
 obtain ⟨E,a⟩:=acz g e h;have j:(iQ file).1=true:=by rw [a.nums,← a.Y6];exact i
 have b:=(a.trees j).1;rw [← a.VD] at b;intro f d;rw [a.Y6] at d;exact b.BF d
end
structure TT (file:List aj) (j:Nat):Prop where
 s1:1≤j→xK (cl (dP file).C 5)=true
 s2:2≤j→(nY (bP (dP file)) 0 (qR file)).1=true
 s3:3≤j→BA (iw (dP file)) (aJ (dP file).C) (dP file).C.length 256 0= -1
 s4:4≤j→GL (dP file).C (aJ (dP file).C) (bP (dP file))= -1
def ahh (v:Nat):Array Value:= #[.func (.func 93) #[.pointer (some ⟨v,0,none⟩)] #[],.func (.func 94) #[.pointer (some ⟨v,0,none⟩)] #[],.func (.func 95) #[.pointer (some ⟨v,0,none⟩)] #[],.func (.func 96) #[.pointer (some ⟨v,0,none⟩)] #[]]
def QA (file:List aj) (e:Ending):Prop:= ∃ (n:Nat) (x:Value),qY file=(n:Int)∧isIface x∧e= .returned (.tuple #[.pointer none,kS n x])
def abq (w a:World) (file:List aj) (e:Ending):Prop:=qY file= -1∧ ∃ v Cv Lv,e= .returned (.tuple #[.pointer (some ⟨v,0,none⟩),.nilIface])∧aP a v Cv Lv (dP file)∧ ∀ k,eX v Cv Lv k→w.heap.size≤k
def axg (w:World) (a:Value) (file:List aj) (c:kK w a file) (d:oN w) (hm:file.length≤1000000) (g: ¬ Qx file):
  Calls Tryz.prog 48 #[a] w fun e h=>(∃ x,isIface x∧e= .returned (.tuple #[.pointer none,kS 0 x]))∧aC w h:=by
 have f:=ah (aps w a file c d hm g);clear c d
 go_enter Tryz.func48,Tryz.ntmps48
 go_wp2_with fail
 refine f.mono ?_;rintro e j ⟨⟨x,⟨t,y,rfl⟩,rfl⟩,b⟩;have i:=ah b;clear f b;unfold kS;go_wp2;refine iy (Ob rfl _ _ _) rfl ?_;exact ⟨⟨_,⟨_,_,rfl⟩,rfl⟩,uh i⟩
def axh (w:World) (N:Value) (file:List aj) (p:kK w N file) (Y:oN w) (B:Qx file):
  Calls Tryz.prog 48 #[N] w fun e w'=>(QA file e∨abq w w' file e)∧aC w w':=by
 have D:=(ai4 p.lens).2 B;have Hh:=ah (apu w N file p Y B);have h6:=B.qp;have h7:=B.seven;have h8:=B.most;have h9:=B.le;have aa:=je p.lens (k:=0) om;have ab:=ah (fun W=>OU W (cl file 0) aa);have O:=ah (fun W (P:aC w W)=>atr W N file (p.kept (S:=fun _=>False) (Kept.dQ P) (fun _ _=>id)) (num (cl file 0) 4) om h9 h8);obtain ⟨g,cap,rfl,ar⟩:=gy p.row om;have Q:=ah (fun W (P:aC w W)=>(⟨oQ (p.kept (S:=fun _=>False) (Kept.dQ P) (fun _ _=>id)).row p.lens 0 om,oP (p.kept (S:=fun _=>False) (Kept.dQ P) (fun _ _=>id)).row p.lens 0 om⟩:_∧_));simp only [zS] at Q;have Ee:(0:Int)<(file.length:Int):=om
 go_enter Tryz.func48,Tryz.ntmps48
 go_wp2_with fail
 refine Hh.mono ?_;rintro e w1 ⟨rfl,ad⟩;have K:=ah ad;clear Hh ad;have l1:=(uh Q _ K).1;have l2:=(uh Q _ K).2
 go_wp2_with fail
 refine (uh ab _).mono ?_;rintro e w2 ⟨rfl,ae⟩;have L:=ah (K.trans (ae.mono K.size));clear ae K l1 l2 ab Q;have O:=ah (uh O w2 L)
 go_wp2_with fail
 refine O.mono ?_;rintro e a ⟨gc,an,rfl,V,X⟩;have M:=ah (L.trans (X.mono L.size));have ao:w.heap.size≤gc:=jL L.size an;have av:gc<a.heap.size:=(V.lt gc rfl).2;have HR:=ah V;have aw:=X.size;clear X V O;have af:(a.alloc (.cells #[.slice (some ⟨gc,0,none⟩) (num (cl file 0) 4) (num (cl file 0) 4),.slice none 0 0,.bool false,.bool (decide (file.length<num (cl file 0) 4))] 121)).heap[a.heap.size]? = some (.cells (P5 (.slice (some ⟨gc,0,none⟩) (num (cl file 0) 4) (num (cl file 0) 4)) (.slice none 0 0) (dP file)).toArray 121 (0,0)):=aX _ _;have ag:aC a (a.alloc (.cells #[.slice (some ⟨gc,0,none⟩) (num (cl file 0) 4) (num (cl file 0) 4),.slice none 0 0,.bool false,.bool (decide (file.length<num (cl file 0) 4))] 121)):=fC
 have UK:aP (a.alloc (.cells #[.slice (some ⟨gc,0,none⟩) (num (cl file 0) 4) (num (cl file 0) 4),.slice none 0 0,.bool false,.bool (decide (file.length<num (cl file 0) 4))] 121)) a.heap.size (.slice (some ⟨gc,0,none⟩) (num (cl file 0) 4) (num (cl file 0) 4)) (.slice none 0 0) (dP file):=by
  refine ⟨af,?_,wH _ _ _ _,Po p.lens,fun x l=>(by cases l),fun _=>by rw [I9];omega⟩;rw [I9];exact bV (S:=fun _=>False) (Kept.dQ ag) HR (fun _ _=>id)
 have R:=UK.alloc (.cells #[.func (.func 93) #[.pointer (some ⟨a.heap.size,0,none⟩)] #[],.func (.func 94) #[.pointer (some ⟨a.heap.size,0,none⟩)] #[],.func (.func 95) #[.pointer (some ⟨a.heap.size,0,none⟩)] #[],.func (.func 96) #[.pointer (some ⟨a.heap.size,0,none⟩)] #[]] 154);have z:=(M.alloc M.size (.cells #[.slice (some ⟨gc,0,none⟩) (num (cl file 0) 4) (num (cl file 0) 4),.slice none 0 0,.bool false,.bool (decide (file.length<num (cl file 0) 4))] 121));have z:=z.alloc z.size (.cells #[.func (.func 93) #[.pointer (some ⟨a.heap.size,0,none⟩)] #[],.func (.func 94) #[.pointer (some ⟨a.heap.size,0,none⟩)] #[],.func (.func 95) #[.pointer (some ⟨a.heap.size,0,none⟩)] #[],.func (.func 96) #[.pointer (some ⟨a.heap.size,0,none⟩)] #[]] 154)
 have I:=aX (a.alloc (.cells #[.slice (some ⟨gc,0,none⟩) (num (cl file 0) 4) (num (cl file 0) 4),.slice none 0 0,.bool false,.bool (decide (file.length<num (cl file 0) 4))] 121)) (.cells #[.func (.func 93) #[.pointer (some ⟨a.heap.size,0,none⟩)] #[],.func (.func 94) #[.pointer (some ⟨a.heap.size,0,none⟩)] #[],.func (.func 95) #[.pointer (some ⟨a.heap.size,0,none⟩)] #[],.func (.func 96) #[.pointer (some ⟨a.heap.size,0,none⟩)] #[]] 154);rw [jV] at I;have R:=ah R;have z:=ah z;have I:=ah I;have aq:w.heap.size≤a.heap.size:=M.size;have ai:num (cl (dP file).C 0) 4=(dP file).C.length:=by rw [Y7 D 0 om,I9]
 have T:5<(dP file).C.length:=by rw [I9];omega
 have Z:(dP file).C.length≤256:=by rw [I9];exact h8
 have al:=atF p.lens D;have U:=ah Y;clear UK af ag HR M Y B;unfold P5
 go_wp2_with fail
 change Hid (_=some (Obj.cells (ahh a.heap.size) 154 (0,0))) at I;generalize World.alloc _ _=wb at*
 go_loopw [7,8,33] (fun _ _ i wr=> ∃ j:Nat,j≤4∧i= .int .i64 j∧aC w wr∧aP wr a.heap.size (.slice (some ⟨gc,0,none⟩) (num (cl file 0) 4) (num (cl file 0) 4)) (.slice none 0 0) (dP file)∧wr.heap[a.heap.size+1]? = some (.cells (ahh a.heap.size) 154 (0,0))∧TT file j) (fun _ _ i _=>4 - (intOf i).toNat)
 case atStart=>exact ⟨0,om,rfl,uh z,uh R,uh I,⟨fun h=>om,fun h=>om,fun h=>om,fun h=>om⟩⟩
 case round=>
  obtain ⟨j,hj,rfl,hB,m,o,c⟩:=hrel;clear z R I
  by_cases j0:j=0
  ·subst j0;have E:wr.cell? ⟨a.heap.size+1,0,none⟩=some (.func (.func 93) #[.pointer (some ⟨a.heap.size,0,none⟩)] #[]):=(aF o 0).trans rfl;have q:=ah (apA wr a.heap.size _ _ (dP file) m (U.below hB) T);have f:=ah hB;have r:=ah m;have b:=ah o;clear hB m o
   go_wp2_with fail
   refine q.mono ?_;rintro e wn ⟨v,d⟩;have s:=ah (f.trans (d.mono f.size));have F:=ah (r.below d);have G:=ah ((d.block _ (aK b)).trans b);clear f r b q d E;rcases v with ⟨u,rfl⟩ | ⟨u,x,⟨t,y,rfl⟩,rfl⟩
   ·have A:TT file 1:=⟨fun _=>u,fun h=>om,fun h=>om,fun h=>om⟩;have H:=ah A;go_wp2;go_roundw
    case rel=>exact ⟨1,om,gn,uh s,uh F,uh G,uh H⟩
    case measure=>simp [intOf]
   ·have l:QA file (.returned (.tuple #[.pointer none,kS 5 (.iface t y)])):=⟨5,_,atA D u,⟨_,_,rfl⟩,rfl⟩;unfold kS at l ⊢;have b:=ah l;go_wp2;refine iy (Ob rfl _ _ _) rfl ?_;exact ⟨aA b,uh s⟩
  by_cases j1:j=1
  ·subst j1;have E:wr.cell? ⟨a.heap.size+1,1,none⟩=some (.func (.func 94) #[.pointer (some ⟨a.heap.size,0,none⟩)] #[]):=(aF o 1).trans rfl;have q:=ah (fE.1 (apD wr a.heap.size _ _ (dP file) m (U.below hB) T Z ai (qR file) rfl rfl));have f:=ah hB;have r:=ah m;have b:=ah o;clear hB m o
   go_wp2_with fail
   refine q.mono ?_;rintro e wn ⟨v,d⟩;have s:=ah (f.trans (d.mono f.size));have F:=ah (r.below d);have G:=ah ((d.block _ (aK b)).trans b);clear f r b q d E;rcases v with ⟨u,rfl⟩ | ⟨u,n,x,J,⟨t,y,rfl⟩,rfl⟩
   ·have A:TT file 2:=⟨fun _=>c.s1 om,fun _=>u,fun h=>om,fun h=>om⟩;have H:=ah A;go_wp2;go_roundw
    case rel=>exact ⟨2,om,gn,uh s,uh F,uh G,uh H⟩
    case measure=>simp [intOf]
   ·have l:QA file (.returned (.tuple #[.pointer none,kS n (.iface t y)])):=⟨n,_,(atB D (c.s1 om) u).trans J,⟨_,_,rfl⟩,rfl⟩;unfold kS at l ⊢;have b:=ah l;go_wp2;refine iy (Ob rfl _ _ _) rfl ?_;exact ⟨aA b,uh s⟩
  by_cases j2:j=2
  ·subst j2;have E:wr.cell? ⟨a.heap.size+1,2,none⟩=some (.func (.func 95) #[.pointer (some ⟨a.heap.size,0,none⟩)] #[]):=(aF o 2).trans rfl;have q:=ah (apr wr a.heap.size _ _ (dP file) m (U.below hB) T Z (al (c.s1 om) (c.s2 om)) ai);have f:=ah hB;have r:=ah m;have b:=ah o;clear hB m o
   go_wp2_with fail
   refine q.mono ?_;rintro e wn ⟨v,d⟩;have s:=ah (f.trans (d.mono f.size));have F:=ah (r.below d);have G:=ah ((d.block _ (aK b)).trans b);clear f r b q d E;rcases v with ⟨u,rfl⟩ | ⟨n,x,J,⟨t,y,rfl⟩,rfl⟩
   ·have A:TT file 3:=⟨fun _=>c.s1 om,fun _=>c.s2 om,fun _=>u,fun h=>om⟩;have H:=ah A;go_wp2;go_roundw
    case rel=>exact ⟨3,om,gn,uh s,uh F,uh G,uh H⟩
    case measure=>simp [intOf]
   ·have l:QA file (.returned (.tuple #[.pointer none,kS n (.iface t y)])):=⟨n,_,(atC D (c.s1 om) (c.s2 om) (by rw [J];omega)).trans J,⟨_,_,rfl⟩,rfl⟩;unfold kS at l ⊢;have b:=ah l;go_wp2;refine iy (Ob rfl _ _ _) rfl ?_;exact ⟨aA b,uh s⟩
  by_cases j3:j=3
  ·subst j3;have E:wr.cell? ⟨a.heap.size+1,3,none⟩=some (.func (.func 96) #[.pointer (some ⟨a.heap.size,0,none⟩)] #[]):=(aF o 3).trans rfl;have q:=ah (fE.1 (apC wr a.heap.size _ _ (dP file) m (U.below hB) T Z (al (c.s1 om) (c.s2 om))));have f:=ah hB;have r:=ah m;have b:=ah o;clear hB m o
   go_wp2_with fail
   refine q.mono ?_;rintro e wn ⟨v,d⟩;have s:=ah (f.trans (d.mono f.size));have F:=ah (r.below d);have G:=ah ((d.block _ (aK b)).trans b);clear f r b q d E;rcases v with ⟨u,rfl⟩ | ⟨n,x,J,⟨t,y,rfl⟩,rfl⟩
   ·have A:TT file 4:=⟨fun _=>c.s1 om,fun _=>c.s2 om,fun _=>c.s3 om,fun _=>u⟩;have H:=ah A;go_wp2;go_roundw
    case rel=>exact ⟨4,om,gn,uh s,uh F,uh G,uh H⟩
    case measure=>simp [intOf]
   ·have l:QA file (.returned (.tuple #[.pointer none,kS n (.iface t y)])):=⟨n,_,(ak5 D (c.s1 om) (c.s2 om) (c.s3 om)).trans J,⟨_,_,rfl⟩,rfl⟩;unfold kS at l ⊢;have b:=ah l;go_wp2;refine iy (Ob rfl _ _ _) rfl ?_;exact ⟨aA b,uh s⟩
  have j4:j=4:=om;subst j4;have l:abq w wr file (.returned (.tuple #[.pointer (some ⟨a.heap.size,0,none⟩),.nilIface])):=by
   refine ⟨(ak5 D (c.s1 om) (c.s2 om) (c.s3 om)).trans (c.s4 om),_,_,_,rfl,m,?_⟩;rintro k (rfl | hk | hk)
   ·exact aq
   ·injection hk with hk;rw [← hk];exact ao
   ·cases hk
  have f:=ah hB;have b:=ah l;clear hB m o l c;go_wp2;refine iy (Ob rfl _ _ _) rfl ?_;exact ⟨ay b,uh f⟩
end
end Go.Proofs.YtknjjjenklfeoaaGreatDoor
