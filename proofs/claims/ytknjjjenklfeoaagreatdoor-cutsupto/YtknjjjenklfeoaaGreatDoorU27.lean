import Derived.Test.YtknjjjenklfeoaaGreatDoorU26
set_option maxHeartbeats 8000000
set_option maxRecDepth 100000
set_option linter.all false
namespace Go.Proofs.YtknjjjenklfeoaaGreatDoor
section
open Go.RowKit Go.Shelf
def akU (T:List Nat): ∀ v ∈ nv T,v.oneCell'=true:=by
 intro v hv;simp only [nv,gY] at hv;obtain ⟨b,_,rfl⟩:=hv;rfl
def aj9 (a:Addr):Sem Value:=loadVar 161 a
def Vj (a:Addr):loadVar 161 a=aj9 a:=rfl
def VP {w:World} {b o:Nat} (h:dU w b o 256):(aj9 ⟨b,o,none⟩).run Tryz.prog w= .ok (.agg (dO w b o 256).toArray) w:=
 BQ h 161 _ Tryz.underlying161 rfl kr
def ZU (a:Addr) (v:Value):Sem Unit:=storeVar 161 a v
def ZV (a:Addr) (v:Value):storeVar 161 a v=ZU a v:=rfl
def Zy {w:World} {z T:List Nat} (b:z.length=256) (a:T.length=256):
  (ZU ⟨w.heap.size,0,none⟩ (.agg (nv T).toArray)).run Tryz.prog (w.alloc (.cells (nv z).toArray 161))= .ok () (w.alloc (.cells (nv T).toArray 161)):=
 Ic w 161 (nv z).toArray (nv T).toArray (by simp only [jm,FH,a];kernel_rfl) (by simp [FH,b,a]) (vU (akU T))
def Zx {w:World} {b o:Nat} {T:List Nat} (c:w.there b o 256) (a:T.length=256):(ZU ⟨b,o,none⟩ (.agg (nv T).toArray)).run Tryz.prog w= .ok () (w.setCells b o (nv T)):=by
 have:=Ib (P:=Tryz.prog) w b o 161 (nv T).toArray (by simpa [FH,a] using c) (by simp only [jm,FH,a];kernel_rfl) (vU (akU T))
 simpa [ZU] using this
def TU {w:World} {b:Nat} {cs:List Value} {vs:List Value} {t:TypeId} {fr:Nat × Nat} (h:w.heap[b]? = some (.cells cs.toArray t fr)) (a:cs.length=vs.length):(w.setCells b 0 vs).heap[b]? = some (.cells vs.toArray t fr):=by
 rw [KU _ _ _ _ _ _ _ h]
 congr 2
 apply Jl;intro i;rw [Ey _ _ _ _ (by simp [a]),bZ,bZ]
 by_cases hi:i<vs.length
 ·rw [au om,WJ]
 ·rw [ak om,eG om,eG om]
def anu:Sem Value:=zeroValue 161
def aat:zeroValue 161=anu:=rfl
def Zz (w:World):anu.run Tryz.prog w= .ok (.agg (nv zI).toArray) w:=
 (uZ (P:=Tryz.prog) (t:=161) (v:= .agg (nv zI).toArray) (n:=256) kr).1 w
attribute [local go_sem ↓] Vj ZV aat
attribute [local go_sem] VP Zx Zy Zz P8
attribute [local go_sem] Oper.semAt_some
def FI (k:Nat):List Nat:=List.replicate k 1++List.replicate (256 - k) 0
def Y0 (k:Nat) (hk:k≤256):(FI k).length=256:=by simp [FI];omega
def atx (k:Nat) (hk:k<256):(FI k).set k 1=FI (k+1):=by
 unfold FI;rw [J7 _ _ sm,Ai,Bg,show 256 - k=(256 - (k+1))+1 by omega,Wu,oq,LV,tV];rfl
def Ar (M:List Nat) (us:List Nat):List Nat:=us.foldl bump M
def ape (M us:List Nat) (u:Nat):Ar M (us++[u])=bump (Ar M us) u:=by simp [Ar]
def ag9 (M us:List Nat):(Ar M us).length=M.length:=by
 unfold Ar
 induction us generalizing M with
 | nil=>rfl
 | cons a r ih=>simp only [WL];rw [ih,QG]
def aha {b:Nat} (us:List Nat): ∀ {M:List Nat},Jo b M→Jo (b+us.length) (Ar M us):=by
 induction us generalizing b with
 | nil=>intro M h;exact h
 | cons a r ih=>
  intro M h
  have:=ih (Xw h a)
  rw [iO,show b+(r.length+1)=b+1+r.length by omega];exact this
def Ag (V:aB) (fs:List Nat):List Nat:=Ar (FI 6) (fs.flatMap (mF V.C))
def iw (V:aB):List Nat:=Ag V (bP V)
def aw1 (V:aB) (fs:List Nat) (f:Nat):Ag V (fs++[f])=Ar (Ag V fs) (mF V.C f):=by
 unfold Ag Ar;rw [Td,afv,qx,Qi,sN]
def PX (V:aB) (fs:List Nat):(Ag V fs).length=256:=by unfold Ag;rw [ag9];exact Y0 6 om
def atw (k:Nat):Jo 1 (FI k):=fun n=>by
 unfold FI;rw [aN]
 by_cases h:n<k
 ·rw [nV (by simpa using h),rG,au h];exact aO _
 ·rw [nP (by simpa using h),rG]
  split <;> simp
def TY {w W b:World} {row:Option Nat} (h:aC w W) (a:W.grownBy b row) (hr: ∀ r,row=some r→w.heap.size≤r):aC w b:=
 ⟨a.os.trans h.os,a.tape.trans h.tape,a.output.trans h.output,jL h.size a.size,fun i hi=>by
  rw [a.block i (iL hi h.size) (fun e=>by have:=hr i e.symm;omega)];exact h.block i hi⟩
def RI {X Y:Nat→Prop} {v:Nat} {R:aB→aB→Prop} (hR: ∀ a,R a a) (l: ∀ a b c,R a b→R b c→R a c) {β:Type} {f:World} {g:Nat} (hB:f.heap.size≤g):OwnFrom g (fun (_:β) W=>aT X Y v R f W):=
 fun _ A B row hs d hr=>⟨jL hs.1 d.size,fun k o i hc m=>by
   have j:=hs.2.1 k o i hc m;rw [d.block k (aK j) (fun e=>by have:=(hr k e.symm).1;have:=aK i;omega)];exact j,
  ((hs.P6 (Y':=fun _=>False) (fun _ h=>False.elim h)).trans l (aT.qj hR d (fun r e=>(hr r e).2))).2.2⟩
def lV {Pc:Nat→Prop} (pre:List (UM Pc)):List Nat:=pre.map fun y=>y.1
def aal {Pc:Nat→Prop} (pre:List (UM Pc)) (x:UM Pc):lV (pre++[x])=lV pre++[x.1]:=by simp [lV]
def arl {V:aB} {f:Nat} (h:gU V f):(mF V.C f).length≤1057:=by
 have c:=XW (vO V f h.2);have d:=ZK V f h.2;have a:=aae V f h;have b:(jA V.C f).length=(G8 V f h).length:=by rw [← a];simp [wV]
 unfold mF;rw [iO,b];unfold G8;omega
def aaj {V:aB}: ∀ fs:List Nat,(∀ f ∈ fs,gU V f)→Jo (1+1057*fs.length) (Ag V fs):=by
 intro fs b;have d:(fs.flatMap (mF V.C)).length≤1057*fs.length:=by
  induction fs with
  | nil=>simp
  | cons a r ih=>
   have e:=ih (fun f c=>b f (LX _ c));have g:=arl (b a (Oa ..));rw [qx,oL,iO];omega
 intro n
 have:=aha (fs.flatMap (mF V.C)) (atw 6) n
 unfold Ag;omega
structure xw (w W:World) (v:Nat) (M:List Nat) (R:List Nat:=zI):Prop where
 below:aC w W
 bv:W.heap[w.heap.size]? = some (.cells #[.pointer (some ⟨v,0,none⟩)] 82 (0,0))
 br:W.heap[w.heap.size+1]? = some (.cells (nv R).toArray 161 (0,0))
 bu:W.heap[w.heap.size+1+1]? = some (.cells (nv M).toArray 161 (0,0))
def xw.later {w W b:World} {v:Nat} {M:List Nat} (h:xw w W v M) (a:aC W b):xw w b v M:=
 ⟨h.below.trans (a.mono h.below.size),(a.block _ (aK h.bv)).trans h.bv,(a.block _ (aK h.br)).trans h.br,(a.block _ (aK h.bu)).trans h.bu⟩
def xw.qj {w W b:World} {v B:Nat} {M:List Nat} {row:Option Nat} (h:xw w W v M) (hB:w.heap.size+3≤B) (a:W.grownBy b row) (hr: ∀ r,row=some r→B≤r∧ ∃ o:Obj,W.heap[r]? = some o∧o.isCells=false):xw w b v M:=
 ⟨TY h.below a (fun r e=>by have:=(hr r e).1;omega),sQ a hr h.bv om,sQ a hr h.br om,sQ a hr h.bu om⟩
def xw.answer {w W:World} {v:Nat} {M:List Nat} (h:xw w W v M) (a:M.length=256):xw w (W.setCells (w.heap.size+1) 0 (nv M)) v M M:=by
 have hk:=Kept.BL W (w.heap.size+1) 0 (nv M);refine ⟨?_,hk.aG om h.bv,TU h.br (by rw [FH,FH,P8,a]),hk.aG om h.bu⟩;exact ⟨hk.os.trans h.below.os,hk.tape.trans h.below.tape,hk.output.trans h.below.output,jL h.below.size hk.size,fun i hi=>by
   rw [hk.block i (iL hi h.below.size) om];exact h.below.block i hi⟩
def xw.shut {w W:World} {v D:Nat} {M R:List Nat} (h:xw w W v M R) (b:w.heap.size+3≤D):xw w (W.putObj D (.deferred none)) v M R:=by
 have a:=grownBy_putObj' W D (.deferred none);have hk:Kept (fun k=>k=D) W (W.putObj D (.deferred none)):=⟨a.os,a.tape,a.output,a.size,fun k hk hs=>a.block k hk (fun e=>hs (by injection e))⟩;refine ⟨?_,hk.aG om h.bv,hk.aG om h.br,hk.aG om h.bu⟩;exact ⟨hk.os.trans h.below.os,hk.tape.trans h.below.tape,hk.output.trans h.below.output,jL h.below.size hk.size,fun i hi=>by
   rw [hk.block i (iL hi h.below.size) om];exact h.below.block i hi⟩
def xw.put {w W:World} {v:Nat} {M:List Nat} (h:xw w W v M) (x:Nat) (n:Nat):xw w (W.setCell ⟨w.heap.size+1+1,x,none⟩ (.int .i64 (n:Nat))) v (M.set x n):=by
 have hk:=Kept.only W (w.heap.size+1+1) x (.int .i64 (n:Nat));refine ⟨?_,hk.aG om h.bv,hk.aG om h.br,?_⟩
 ·exact ⟨hk.os.trans h.below.os,hk.tape.trans h.below.tape,hk.output.trans h.below.output,jL h.below.size hk.size,fun i hi=>by
   rw [hk.block i (iL hi h.below.size) om];exact h.below.block i hi⟩
 ·rw [heap_setCell_same _ _ _ _ _ _ _ h.bu,Bh];unfold nv;rw [Og];rfl
def afi (w:World) (v:Nat) (Cv Lv:Value) (V:aB) (h:aP w v Cv Lv V) (h5:5<V.C.length) (hC:V.C.length≤256) (hF: ∀ f ∈ bP V,gU V f):
  CallsIn Fence.wide 100 Tryz.prog 99 #[.pointer (some ⟨v,0,none⟩)] w fun e w'=>e= .returned (.agg (nv (iw V)).toArray)∧aC w w':=by
 refine callsIn_of_wp_marks Tryz.func99 rfl trivial ?_ rfl;simp only [Tryz.ntmps99,jm,iO,vV,Nat.reduceAdd,Nat.reduceSub,BX,BZ,Cb,Cc,qy,rU];have T:xw w (((w.alloc (.cells #[.pointer (some ⟨v,0,none⟩)] 82)).alloc (.cells (nv zI).toArray 161)).alloc (.cells (nv zI).toArray 161)) v (FI 0):=by
  refine ⟨((((bG _ w).alloc (aO _) _).alloc sm _).alloc (by simp;omega) _),?_,?_,?_⟩
  ·exact (jX _ _ _ (by simp;omega)).trans ((jX _ _ _ sm).trans (aX w _))
  ·exact (jX _ _ _ sm).trans (by have:=aX (w.alloc (.cells #[.pointer (some ⟨v,0,none⟩)] 82)) (.cells (nv zI).toArray 161);rwa [jV] at this)
  ·have:=aX ((w.alloc (.cells #[.pointer (some ⟨v,0,none⟩)] 82)).alloc (.cells (nv zI).toArray 161)) (.cells (nv zI).toArray 161)
   rwa [jV,jV] at this
 have T:=ah T;have H:=ah h;clear h
 gi_wp2
 generalize ((w.alloc (.cells #[.pointer (some ⟨v,0,none⟩)] 82)).alloc (.cells (nv zI).toArray 161)).alloc (.cells (nv zI).toArray 161)=wa at*
 gi_loopw [4,7] (fun _ i wr=> ∃ k:Nat,k≤6∧i= .int .i64 k∧xw w wr v (FI k)) (fun _ i _=>6 - (intOf i).toNat)
 case atStart=>exact ⟨0,om,rfl,uh T⟩
 case round=>
  obtain ⟨k,hk,rfl,c⟩:=hrel;clear T
  by_cases az:k<6
  ·have aD:(k:Int)<6:=om;have Yj:(k:Int)<256:=om;have p:=ah (by have:=c.put k 1;rwa [atx k om] at this);have cu:wr.cell? ⟨w.heap.size+1+1,k,none⟩=some (.int .i64 (((FI k).getD k 0:Nat):Int)):=by
    rw [aF c.bu,bZ,Lm _ _ (by rw [Y0 k om];omega)]
   have fu:=eY c.bu;clear c
   gi_wp2
   go_roundw
   case rel=>exact ⟨k+1,om,gn,uh p⟩
   case measure=>exact bW
  ·have aq:k=6:=om;subst aq;have aa:wr.cell? ⟨w.heap.size,0,none⟩=some (.pointer (some ⟨v,0,none⟩)):=(aF c.bv 0).trans rfl;have F:=ah (Uu wr v);have aE:=aK c.bu;have p:=ah c;clear c
   gi_wp2_with fail
   refine ⟨trivial,(fE.2 F).mono ?_⟩;rintro e j ⟨rfl,P⟩;have aL:wr.heap.size+1≤j.heap.size:=by rw [P];simp
   have ae:aC wr j:=by rw [P];exact fC
   have af:j.heap[wr.heap.size]? = some (.cells #[.pointer (some ⟨v,0,none⟩)] 82 (0,0)):=by rw [P];exact aX _ _
   have G:=p.later ae;have ag:=H.below G.below;have xH:=acD (Pc:=gU V) 99 om (fun k=>k=w.heap.size+1+1) v wr.heap.size (j.heap.size+2) V Cv Lv j ag af om (fun m=>by have:=(H.below p.below).qV _ m;omega) (fun k hk=>by rw [hk];omega) h5 hF;have G:=ah G;clear p ag af ae P F aa
   gi_wp2_with fail
   refine RU om (gf:=173) (lb:= #[.pointer (some ⟨wr.heap.size,0,none⟩)]) rfl (enters_of Tryz.func173 kr rfl) xH
    (fun A B C h k=>aT.trans (R:=bK) (fun _ _ _ a b=>a.trans b) h k) (fun W o o' U hc=>aT.turn bK.refl W _ o o' U hc om) (bG _ _) (fun _=>rfl)
    (fun pre d=>xw w d v (Ag V (lV pre)))
    (fun _ _ _ _ hs I hr=>xw.qj hs om I hr)
    G
    (fun x J _=>J={ tmps:= #[.pointer (some ⟨v,0,none⟩),.pointer (some ⟨w.heap.size,0,none⟩),.pointer (some ⟨w.heap.size+1,0,none⟩),.pointer (some ⟨w.heap.size+1+1,0,none⟩),u4,.int .i64 ((x.1:Nat):Int),undef,.int .i64 ((6:Nat):Int),.bool false,u9,u10,u11,u12,.pointer (some ⟨v,0,none⟩),.func (.func 173) #[] #[.pointer (some ⟨wr.heap.size,0,none⟩)],.int .i64 ((x.1:Nat):Int),undef,undef,undef,undef,undef,undef,undef,undef,undef,undef],defers:=[] })
    (fun _ _ _ _ _ _ hs _ _=>hs)
    ?assign ?body ?done
   case assign=>
    rintro l pre x d K hi z
    gi_wp2
    exact z _ _ (KeepsFrom.refl _ _) (aT.below bK.refl (bG _ _)) hi rfl
   case done=>
    rintro D ys d hD X c z;have Q:lV ys=bP V:=X;rw [Q] at c;have l1:=fH c.bu (n:=256) (by rw [FH,PX]);have l2:=fM c.bu (n:=256) (by rw [FH,PX]);have ht:=iW c.br 0 256 (by simp [FH,P8]);have S:=PX V (bP V);have t:=ah ((c.answer S).shut (D:=D) om);have ab:(d.setCells (w.heap.size+1) 0 (nv (Ag V (bP V)))).heap[D]? = some (.deferred (some [])):=(Kept.BL d (w.heap.size+1) 0 (nv (Ag V (bP V)))).aG om z;have hR:Hid (iw V=Ag V (bP V)):=rfl;clear c z X Q xH G;generalize Ag V (bP V)=M at*
    gi_wp2
    refine ⟨sm,.inl ⟨_,_,rfl,run_takeDeferred ab,?_⟩⟩;have n3:=fH t.br (n:=256) (by rw [FH,S]);have n4:=fM t.br (n:=256) (by rw [FH,S]);refine ⟨_,qZ rfl ⟨w.heap.size+1,0,none⟩ rfl (v:= .agg (nv M).toArray) (by rw [Vj,VP n3,n4]),?_,t.below⟩;rw [uh hR]
   case body=>
    rintro l pre x J W U ⟨r,hr⟩ c rfl hlen;obtain ⟨x,hx⟩:=x;have aa:W.cell? ⟨w.heap.size,0,none⟩=some (.pointer (some ⟨v,0,none⟩)):=(aF c.bv 0).trans rfl;have F:=ah (acV W v x);have p:=ah c;have aM:=aK c.bu;clear c xH;dsimp only
    gi_wp2_with fail
    refine ⟨trivial,(CallsIn.inRound l (fE.2 F)).mono ?_⟩;rintro e wc ⟨rfl,E⟩;have aR:W.heap.size+2≤wc.heap.size:=by rw [E];simp
    have u:aC W wc:=by rw [E];exact (fC).alloc sm _
    have ai:wc.heap[W.heap.size]? = some (.cells #[.pointer (some ⟨v,0,none⟩)] 82 (0,0)):=by rw [E];exact (jX _ _ _ sm).trans (aX _ _)
    have al:wc.heap[W.heap.size+1]? = some (.cells #[.int .i64 (x:Nat)] 3 (0,0)):=by rw [E];have:=aX (W.alloc (.cells #[.pointer (some ⟨v,0,none⟩)] 82)) (.cells #[.int .i64 (x:Nat)] 3);rwa [jV] at this
    have t:=p.later u;have an:=H.below t.below;have yF:=H.below p.below;have ar:wc.heap[l]? = some (.loop r):=(u.block _ (aK hr)).trans hr;have Fg:=ai9 97 om (fun k=>k=w.heap.size+1+1) v W.heap.size (W.heap.size+1) x (wc.heap.size+1) V Cv Lv wc an hC ai al om om (fun m=>by have:=yF.qV _ m;omega) (fun m=>by have:=yF.qV _ m;omega) (fun k hk=>by rw [hk];omega) hx;have UE:KeepsFrom j.heap.size W wc:=⟨u.size,fun k o _ hk _=>(u.block k (aK hk)).trans hk⟩;have ab:aT (fun k=>k=w.heap.size+1+1) (fun k=>j.heap.size+2≤k) v bK W wc:=aT.below bK.refl u;have qm:=aaj (V:=V) (lV pre) (fun f m=>by obtain ⟨y,_,rfl⟩:=gY.1 m;exact y.2);have a0:(lV pre).length≤4:=by have:(lV pre).length=pre.length:=tY _;omega
    have av:Ag V (lV (pre++[⟨x,hx⟩]))=Ar (Ag V (lV pre)) (mF V.C x):=by rw [aal,aw1]
    have S:=PX V (lV pre);have t:=ah t;clear p an ai al E F aa hr yF;generalize Ag V (lV pre)=M at*
    gi_wp2_with fail
    refine alG (l₀:=l) (r₀:=r) ar om (gf:=166) (lb:= #[.pointer (some ⟨W.heap.size+1,0,none⟩),.pointer (some ⟨W.heap.size,0,none⟩)]) rfl (enters_of Tryz.func166 kr rfl) Fg
     (fun A B C h k=>aT.trans (R:=dK) (fun _ _ _ a b=>tX a b) h k) (fun W o o' U hc=>aT.turn (R:=dK) (fun _=>rfl) W _ o o' U hc om) (bG _ _) (fun _=>rfl)
     (fun ip d=>xw w d v (Ar M (Bf ip))∧KeepsFrom j.heap.size W d∧aT (fun k=>k=w.heap.size+1+1) (fun k=>j.heap.size+2≤k) v bK W d)
     (fun s A B row hs I hr=>⟨xw.qj hs.1 om I hr,ownFrom_keepsFrom (β:=Unit) u.size () A B row hs.2.1 I hr,RI (R:=bK) bK.refl (fun _ _ _ a b=>a.trans b) (β:=Unit) u.size () A B row hs.2.2 I hr⟩)
     ⟨uh t,UE,ab⟩
     (fun y J _=>J={ tmps:= #[.pointer (some ⟨v,0,none⟩),.pointer (some ⟨w.heap.size,0,none⟩),.pointer (some ⟨w.heap.size+1,0,none⟩),.pointer (some ⟨w.heap.size+1+1,0,none⟩),u4,.int .i64 ((x:Nat):Int),.int .i64 ((y.1:Nat):Int),.int .i64 ((6:Nat):Int),.bool false,u9,u10,u11,u12,.pointer (some ⟨v,0,none⟩),.func (.func 173) #[] #[.pointer (some ⟨wr.heap.size,0,none⟩)],.int .i64 ((x:Nat):Int),.pointer (some ⟨v,0,none⟩),.int .i64 ((x:Nat):Int),.func (.func 166) #[] #[.pointer (some ⟨W.heap.size+1,0,none⟩),.pointer (some ⟨W.heap.size,0,none⟩)],.int .i64 ((y.1:Nat):Int),undef,undef,undef,undef,undef,undef],defers:=[] })
     (fun _ _ _ _ _ _ hs _ _=>hs) ?assign2 ?body2 ?done2
    case assign2=>
     rintro l2 ip y d K hi z
     gi_wp2
     exact z _ _ (KeepsFrom.refl _ _) (aT.below (R:=dK) (fun _=>rfl) (bG _ _)) hi rfl
    case done2=>
     rintro ip d X ⟨g,L,O⟩;have Q:Bf ip=mF V.C x:=X;rw [Q] at g;have G0:=ah g;rw [← av] at g;have G1:=ah g;have G2:=ah L;have G3:=ah O;clear g L O
     gi_wp2
     repeat (first | exact uh G0 | exact uh G1 | exact uh G2 | exact uh G3 | refine ⟨?_,?_⟩)
    case body2=>
     rintro l2 ip ⟨y,hy⟩ J d a1 _ ⟨g,L,O⟩ rfl a2;have aw:=aha (Bf ip) qm y;have a3:(Bf ip).length=ip.length:=tY _;have ao:Ar M (Bf (ip++[⟨y,hy⟩]))=bump (Ar M (Bf ip)) y:=by rw [am2,ape]
     have a4:=ag9 M (Bf ip);have a5:(y:Int)<256:=om;have ad:=H.below g.below;generalize Ar M (Bf ip)=N at*;have c1:d.cell? ⟨w.heap.size+1+1,y,none⟩=some (.int .i64 ((N.getD y 0:Nat):Int)):=by
      rw [aF g.bu,bZ,Lm _ _ om]
     have f1:=eY g.bu;have a6:((N.getD y 0:Nat):Int)≤10000:=om;have Y:=g.put y (N.getD y 0+1);rw [show N.set y (N.getD y 0+1)=bump N y from rfl,← ao,show ((N.getD y 0+1:Nat):Int)=((N.getD y 0:Nat):Int)+1 by omega] at Y;have Z: ∀ k,k=w.heap.size+1+1→k=w.heap.size+1+1∧ ¬ eX v Cv Lv k∧ ∃ o,d.heap[k]? = some o∧o.isCells=true:=fun k e=>by
      subst e;exact ⟨rfl,fun m=>by have:=H.qV _ m;omega,_,g.bu,rfl⟩
     have K3:aT (fun k=>k=w.heap.size+1+1) (fun k=>wc.heap.size+1≤k) v dK d (d.setCell ⟨w.heap.size+1+1,y,none⟩ (.int .i64 (((N.getD y 0:Nat):Int)+1))):=aT.own ad (Kept.only _ _ _ _) Z rfl;have K4:aT (fun k=>k=w.heap.size+1+1) (fun k=>j.heap.size+2≤k) v bK d (d.setCell ⟨w.heap.size+1+1,y,none⟩ (.int .i64 (((N.getD y 0:Nat):Int)+1))):=aT.own ad (Kept.only _ _ _ _) Z (bK.refl _);have K5:=ah (O.trans (fun _ _ _ a b=>a.trans b) K4);have m:=ah ((KeepsOthers.setCell d ⟨w.heap.size+1+1,y,none⟩ (.int .i64 (((N.getD y 0:Nat):Int)+1))).from wc.heap.size);have ax:=ah (L.trans ((KeepsOthers.setCell d ⟨w.heap.size+1+1,y,none⟩ (.int .i64 (((N.getD y 0:Nat):Int)+1))).from j.heap.size));have Y:=ah Y;have K3:=ah K3;clear g L O K4 Z ao ad aw qm Fg;generalize N.getD y 0=q at*
     gi_wp2
     repeat (first | exact uh m | exact uh K3 | exact uh Y | exact uh ax | exact uh K5 | refine ⟨?_,?_⟩)
def BN (a:List Nat):List Nat:=a.filter (· != 0)
def FN (C:List aj) (f:Nat):List Nat:=(BN (numsOf (cl C f))).flatMap fun s=>s :: BN (numsOf (cl C (s%32768)))
def amn {Pc:Nat→Prop} (t:Nat) (T:List Nat) (a: ∀ i,EP Pc (T.getD i 0)) (c:T.length=32): ∀ k hk,(tu t T a k hk).map (fun s=>s.number)=BN (T.take k)
 | 0,_=>rfl
 | k+1,hk=>by
  have ih:=amn t T a c k om;have b:k<T.length:=om;have d:T.getD k 0=T[k]:=by rw [aN,bJ b];rfl
  have e:BN (T.take (k+1))=BN (T.take k)++(if T.getD k 0=0 then [] else [T.getD k 0]):=by
   rw [x9 b,d];unfold BN;rw [Qe]
   congr 1
   by_cases h:T[k]=0
   ·simp [h]
   ·simp [h]
  rw [e]
  by_cases h0:T.getD k 0=0
  ·rw [VU t T a k hk h0,ih,au h0,sN]
  ·rw [VT t T a k hk h0,rQ,ih,ak h0];rfl
def amm {Pc:Nat→Prop} (V:aB) (t:Nat) (a:Bo Pc V.C t):(vO V t a).map (fun s=>s.number)=BN (numsOf (cl V.C t)):=by
 have:=amn t (numsOf (cl V.C t)) a (numsOf_length _) 32 (aO _)
 rw [J4 (by rw [numsOf_length];exact aO _)] at this;exact this
def En {V:aB} (a:List (nS (uq V))):List Nat:=a.map fun s=>s.number
def auJ {V:aB} (a:List (nS (uq V))) (s:nS (uq V)):En (a++[s])=En a++[s.number]:=by simp [En]
def ais {V:aB}: ∀ a:List (nS (rJ V)),En (pV a)=(a.map fun s=>s.number).flatMap fun s=>s :: BN (numsOf (cl V.C (s%32768)))
 | []=>rfl
 | s :: a=>by
  have c:pV (s :: a)=(BD s :: vO V (s.number%32768) s.hc.2)++pV a:=by simp [pV]
  have b:=ais a;have d:=amm V (s.number%32768) s.hc.2;unfold En at b ⊢;rw [c,rQ,b,jU,jU,qx,d];rfl
def amK (V:aB) (first:Nat) (h:gU V first):En (G8 V first h)=FN V.C first:=by
 unfold G8 FN;rw [ais,amm]
def AP (M:List Nat) (n:Nat):Bool:=decide (M.getD (n%32768) 0=1) && !decide (32768≤n)
def wR (M:List Nat) (a:List Nat):Nat:=(a.filter (AP M)).length
def ar5 (M a:List Nat) (n:Nat):wR M (a++[n])=wR M a+(if AP M n then 1 else 0):=by
 unfold wR;rw [Qe,oL];cases h:AP M n <;> simp [h]
def adg (M a b:List Nat):wR M (a++b)=wR M a+wR M b:=by simp [wR]
def ajJ (M a:List Nat):wR M a≤a.length:=afn _ _
def xJ (V:aB) (M:List Nat) (fs:List Nat):Nat:=wR M (fs.flatMap (FN V.C))
def ajH (V:aB) (M fs:List Nat) (f:Nat):xJ V M (fs++[f])=xJ V M fs+wR M (FN V.C f):=by
 unfold xJ;rw [Td,adg,qx,Qi,sN]
def auH {V:aB} {f:Nat} (h:gU V f):(FN V.C f).length≤1056:=by
 have c:=XW (vO V f h.2);have d:=ZK V f h.2;have a:=amK V f h;have b:(FN V.C f).length=(G8 V f h).length:=by rw [← a];simp [En]
 rw [b];unfold G8;omega
def ajG {V:aB} (M:List Nat): ∀ fs:List Nat,(∀ f ∈ fs,gU V f)→xJ V M fs≤1056*fs.length:=by
 intro fs b;have d:(fs.flatMap (FN V.C)).length≤1056*fs.length:=by
  induction fs with
  | nil=>simp
  | cons a r ih=>
   have e:=ih (fun f c=>b f (LX _ c));have g:=auH (b a (Oa ..));rw [qx,oL,iO];omega
 have:=ajJ M (fs.flatMap (FN V.C))
 unfold xJ;omega
structure DT (w W:World) (v:Nat) (M:List Nat) (c:Nat):Prop where
 below:aC w W
 bv:W.heap[w.heap.size]? = some (.cells #[.pointer (some ⟨v,0,none⟩)] 82 (0,0))
 bu:W.heap[w.heap.size+1]? = some (.cells (nv M).toArray 161 (0,0))
 bc:W.heap[w.heap.size+1+1]? = some (.cells #[.int .i64 (c:Nat)] 3 (0,0))
def DT.later {w W b:World} {v c:Nat} {M:List Nat} (h:DT w W v M c) (a:aC W b):DT w b v M c:=
 ⟨h.below.trans (a.mono h.below.size),(a.block _ (aK h.bv)).trans h.bv,(a.block _ (aK h.bu)).trans h.bu,(a.block _ (aK h.bc)).trans h.bc⟩
def DT.qj {w W b:World} {v B c:Nat} {M:List Nat} {row:Option Nat} (h:DT w W v M c) (hB:w.heap.size+3≤B) (a:W.grownBy b row) (hr: ∀ r,row=some r→B≤r∧ ∃ o:Obj,W.heap[r]? = some o∧o.isCells=false):DT w b v M c:=
 ⟨TY h.below a (fun r e=>by have:=(hr r e).1;omega),sQ a hr h.bv om,sQ a hr h.bu om,sQ a hr h.bc om⟩
def DT.put {w W:World} {v c:Nat} {M:List Nat} (h:DT w W v M c) (n:Nat):DT w (W.setCell ⟨w.heap.size+1+1,0,none⟩ (.int .i64 (n:Nat))) v M n:=by
 have hk:=Kept.only W (w.heap.size+1+1) 0 (.int .i64 (n:Nat));refine ⟨?_,hk.aG om h.bv,hk.aG om h.bu,?_⟩
 ·exact ⟨hk.os.trans h.below.os,hk.tape.trans h.below.tape,hk.output.trans h.below.output,jL h.below.size hk.size,fun i hi=>by
   rw [hk.block i (iL hi h.below.size) om];exact h.below.block i hi⟩
 ·rw [heap_setCell_same _ _ _ _ _ _ _ h.bc];rfl
def TW {w W:World} {D:Nat} (h:aC w W) (b:w.heap.size≤D):aC w (W.putObj D (.deferred none)):=by
 have a:=grownBy_putObj' W D (.deferred none);exact TY h a (fun r e=>by injection e with e;omega)
def aw0 (w:World) (v:Nat) (Cv Lv:Value) (V:aB) (h:aP w v Cv Lv V) (h5:5<V.C.length) (hC:V.C.length≤256) (hF: ∀ f ∈ bP V,gU V f) (M:List Nat) (hM:M.length=256):
  CallsIn Fence.wide 100 Tryz.prog 100 #[.pointer (some ⟨v,0,none⟩),.agg (nv M).toArray] w fun e w'=>e= .returned (.int .i64 ((xJ V M (bP V):Nat):Int))∧aC w w':=by
 refine callsIn_of_wp_marks Tryz.func100 rfl trivial ?_ rfl;simp only [Tryz.ntmps100,jm,iO,vV,Nat.reduceAdd,Nat.reduceSub,BX,BZ,Cb,Cc,qy,rU];have L:DT w (((w.alloc (.cells #[.pointer (some ⟨v,0,none⟩)] 82)).alloc (.cells (nv M).toArray 161)).alloc (.cells #[.int .i64 0] 3)) v M 0:=by
  refine ⟨((((bG _ w).alloc (aO _) _).alloc sm _).alloc (by simp;omega) _),?_,?_,?_⟩
  ·exact (jX _ _ _ (by simp;omega)).trans ((jX _ _ _ sm).trans (aX w _))
  ·exact (jX _ _ _ sm).trans (by have:=aX (w.alloc (.cells #[.pointer (some ⟨v,0,none⟩)] 82)) (.cells (nv M).toArray 161);rwa [jV] at this)
  ·have:=aX ((w.alloc (.cells #[.pointer (some ⟨v,0,none⟩)] 82)).alloc (.cells (nv M).toArray 161)) (.cells #[.int .i64 0] 3)
   rwa [jV,jV] at this
 have L:=ah L;have H:=ah h;have af:=ah (fun W=>Uu W v);clear h
 gi_wp2_with fail
 generalize ((w.alloc (.cells #[.pointer (some ⟨v,0,none⟩)] 82)).alloc (.cells (nv M).toArray 161)).alloc (.cells #[.int .i64 0] 3)=wr at*;have aD:=aK L.bc;refine ⟨trivial,(fE.2 (uh af wr)).mono ?_⟩;rintro e j ⟨rfl,aa⟩;have aE:wr.heap.size+1≤j.heap.size:=by rw [aa];simp
 have ag:aC wr j:=by rw [aa];exact fC
 have ab:j.heap[wr.heap.size]? = some (.cells #[.pointer (some ⟨v,0,none⟩)] 82 (0,0)):=by rw [aa];exact aX _ _
 have U:=L.later ag;have ai:=H.below U.below;have xH:=acD (Pc:=gU V) 99 om (fun k=>k=w.heap.size+1+1) v wr.heap.size (j.heap.size+2) V Cv Lv j ai ab om (fun n=>by have:=(H.below L.below).qV _ n;omega) (fun k hk=>by rw [hk];omega) h5 hF;have U:=ah U;clear L ai ab ag aa af
 gi_wp2_with fail
 refine RU om (gf:=173) (lb:= #[.pointer (some ⟨wr.heap.size,0,none⟩)]) rfl (enters_of Tryz.func173 kr rfl) xH
  (fun A B C h k=>aT.trans (R:=bK) (fun _ _ _ a b=>a.trans b) h k) (fun W o o' hl hc=>aT.turn bK.refl W _ o o' hl hc om) (bG _ _) (fun _=>rfl)
  (fun pre c=>DT w c v M (xJ V M (lV pre)))
  (fun _ _ _ _ hs E hr=>DT.qj hs om E hr)
  U
  (fun x X _=>X={ tmps:= #[.pointer (some ⟨v,0,none⟩),.agg (nv M).toArray,.pointer (some ⟨w.heap.size,0,none⟩),.pointer (some ⟨w.heap.size+1,0,none⟩),.int .i64 0,.pointer (some ⟨w.heap.size+1+1,0,none⟩),.int .i64 ((x.1:Nat):Int),undef,.pointer (some ⟨v,0,none⟩),.func (.func 173) #[] #[.pointer (some ⟨wr.heap.size,0,none⟩)],.int .i64 ((x.1:Nat):Int),undef,undef,undef,undef,undef,undef,undef,undef,undef,undef,undef,undef,undef,undef,undef,undef,undef,undef,undef],defers:=[] })
  (fun _ _ _ _ _ _ hs _ _=>hs)
  ?assign ?body ?done
 case assign=>
  rintro l pre x c K hi Y
  gi_wp2
  exact Y _ _ (KeepsFrom.refl _ _) (aT.below bK.refl (bG _ _)) hi rfl
 case done=>
  rintro D ys c hD hS t Y;have ad:lV ys=bP V:=hS;rw [ad] at t;have c1:c.cell? ⟨w.heap.size+1+1,0,none⟩=some (.int .i64 ((xJ V M (bP V):Nat):Int)):=(aF t.bc 0).trans rfl;have N:=ah (TW (D:=D) t.below om);clear t hS ad xH U;generalize hq:xJ V M (bP V)=q at c1;have Hq:=ah hq;clear hq
  gi_wp2
  refine ⟨sm,.inl ⟨_,_,rfl,run_takeDeferred Y,?_⟩⟩;refine ⟨_,aaG rfl _ _ _,?_,uh N⟩;rw [uh Hq];rfl
 case body=>
  rintro l pre x X W hl ⟨r,hr⟩ t rfl hlen;obtain ⟨x,hx⟩:=x;have av:W.cell? ⟨w.heap.size,0,none⟩=some (.pointer (some ⟨v,0,none⟩)):=(aF t.bv 0).trans rfl;have Hm:=ah (V9 W v x);have U1:=ah t;have aL:=aK t.bc;clear t xH;dsimp only
  gi_wp2_with fail
  refine ⟨trivial,(CallsIn.inRound l (fE.2 Hm)).mono ?_⟩;rintro e wc ⟨rfl,Q⟩;have aM:W.heap.size+2≤wc.heap.size:=by rw [Q];simp
  have z:aC W wc:=by rw [Q];exact (fC).alloc sm _
  have al:wc.heap[W.heap.size]? = some (.cells #[.pointer (some ⟨v,0,none⟩)] 82 (0,0)):=by rw [Q];exact (jX _ _ _ sm).trans (aX _ _)
  have an:wc.heap[W.heap.size+1]? = some (.cells #[.int .i64 (x:Nat)] 3 (0,0)):=by rw [Q];have:=aX (W.alloc (.cells #[.pointer (some ⟨v,0,none⟩)] 82)) (.cells #[.int .i64 (x:Nat)] 3);rwa [jV] at this
  have N:=U1.later z;have ao:=H.below N.below;have yF:=H.below U1.below;have aw:wc.heap[l]? = some (.loop r):=(z.block _ (aK hr)).trans hr;have Fg:=(aac 97 om (fun k=>k=w.heap.size+1+1) v W.heap.size (W.heap.size+1) x (wc.heap.size+1) V Cv Lv wc ao al an om om (fun n=>by have:=yF.qV _ n;omega) (fun n=>by have:=yF.qV _ n;omega) (fun k hk=>by rw [hk];omega) hx).all;have UE:KeepsFrom j.heap.size W wc:=⟨z.size,fun k o _ hk _=>(z.block k (aK hk)).trans hk⟩;have ax:aT (fun k=>k=w.heap.size+1+1) (fun k=>j.heap.size+2≤k) v bK W wc:=aT.below bK.refl z;have qm:=ajG (V:=V) M (lV pre) (fun f n=>by obtain ⟨y,_,rfl⟩:=gY.1 n;exact y.2);have aR:(lV pre).length≤4:=by have:(lV pre).length=pre.length:=tY _;omega
  have aq:xJ V M (lV (pre++[⟨x,hx⟩]))=xJ V M (lV pre)+wR M (FN V.C x):=by rw [aal,ajH]
  have N:=ah N;clear U1 ao al an Q Hm av hr yF;generalize xJ V M (lV pre)=c0 at*
  gi_wp2_with fail
  refine alG (l₀:=l) (r₀:=r) aw om (gf:=174) (lb:= #[.pointer (some ⟨W.heap.size,0,none⟩),.pointer (some ⟨W.heap.size+1,0,none⟩)]) rfl (enters_of Tryz.func174 kr rfl) Fg
   (fun A B C h k=>aT.trans (R:=dK) (fun _ _ _ a b=>tX a b) h k) (fun W o o' hl hc=>aT.turn (R:=dK) (fun _=>rfl) W _ o o' hl hc om) (bG _ _) (fun _=>rfl)
   (fun ip c=>DT w c v M (c0+wR M (En ip))∧KeepsFrom j.heap.size W c∧aT (fun k=>k=w.heap.size+1+1) (fun k=>j.heap.size+2≤k) v bK W c)
   (fun s A B row hs E hr=>⟨DT.qj hs.1 om E hr,ownFrom_keepsFrom (β:=Unit) z.size () A B row hs.2.1 E hr,RI (R:=bK) bK.refl (fun _ _ _ a b=>a.trans b) (β:=Unit) z.size () A B row hs.2.2 E hr⟩)
   ⟨uh N,UE,ax⟩
   (fun y X c=> ∃ bx,c.heap[bx]? = some (.cells #[.int .i64 ((y.table:Nat):Int),.int .i64 ((y.index:Nat):Int),.int .u16 ((y.number:Nat):Int)] 219 (0,0))∧X={ tmps:= #[.pointer (some ⟨v,0,none⟩),.agg (nv M).toArray,.pointer (some ⟨w.heap.size,0,none⟩),.pointer (some ⟨w.heap.size+1,0,none⟩),.int .i64 0,.pointer (some ⟨w.heap.size+1+1,0,none⟩),.int .i64 ((x:Nat):Int),.pointer (some ⟨bx,0,none⟩),.pointer (some ⟨v,0,none⟩),.func (.func 173) #[] #[.pointer (some ⟨wr.heap.size,0,none⟩)],.int .i64 ((x:Nat):Int),.pointer (some ⟨v,0,none⟩),.int .i64 ((x:Nat):Int),.func (.func 174) #[] #[.pointer (some ⟨W.heap.size,0,none⟩),.pointer (some ⟨W.heap.size+1,0,none⟩)],oK y,undef,undef,undef,undef,undef,undef,undef,undef,undef,undef,undef,undef,undef,undef,undef],defers:=[] })
   (fun y a0 _ A' B' row hs E hr=>by
    obtain ⟨ae,h2,h3⟩:=hs;refine ⟨ae,?_,h3⟩;rw [E.block ae (aK h2) (fun e=>by
     obtain ⟨_,o,ho,hc⟩:=hr ae e.symm;rw [h2] at ho;injection ho with ho;subst ho;cases hc)]
    exact h2) ?assign2 ?body2 ?done2
  case assign2=>
   rintro O ip y c K ⟨d,g,i⟩ Y;have hb:Below c.heap.size c (c.alloc (.cells #[.int .i64 ((y.table:Nat):Int),.int .i64 ((y.index:Nat):Int),.int .u16 ((y.number:Nat):Int)] 219)):=fC;have u:=ah (d.later hb);have F:=ah (g.trans ((KeepsOthers.alloc c (.cells #[.int .i64 ((y.table:Nat):Int),.int .i64 ((y.index:Nat):Int),.int .u16 ((y.number:Nat):Int)] 219)).from _));have G:=ah (i.trans (fun _ _ _ a b=>a.trans b) (aT.below bK.refl hb));clear d g i;unfold oK
   gi_wp2
   exact Y _ _ ((KeepsOthers.alloc _ _).from _) (aT.below (R:=dK) (fun _=>rfl) hb) ⟨uh u,uh F,uh G⟩ ⟨_,aX _ _,rfl⟩
  case done2=>
   rintro ip c hS ⟨d,g,i⟩;have ad:En ip=FN V.C x:=by rw [hS];exact amK V x hx
   rw [ad] at d;have I:=ah d;rw [← aq] at d;have u:=ah d;have F:=ah g;have G:=ah i;clear d g i
   gi_wp2
   repeat (first | exact uh I | exact uh u | exact uh F | exact uh G | refine ⟨?_,?_⟩)
  case body2=>
   rintro O ip y X c a1 _ ⟨d,g,i⟩ ⟨bx,ab,rfl⟩ a2;have a3:(En ip).length=ip.length:=tY _;have a4:=ajJ M (En ip);have p:wR M (En (ip++[y]))=wR M (En ip)+(if AP M y.number then 1 else 0):=by rw [auJ,ar5]
   have ar:=H.below d.below;have hn:=y.hn;have hc:=y.hc.2;have a5:((y.number%32768:Nat):Int)<256:=om;have c1:c.cell? ⟨bx,2,none⟩=some (.int .u16 ((y.number:Nat):Int)):=(aF ab 2).trans rfl;have c2:c.cell? ⟨w.heap.size+1,y.number%32768,none⟩=some (.int .i64 ((M.getD (y.number%32768) 0:Nat):Int)):=by
    rw [aF d.bu,bZ,Lm _ _ om]
   have DR:=ah (fun W=>CW y.number y.hn W);have uK:=ah (fun W=>YL y.number y.hn W);have J:AP M y.number=(decide (M.getD (y.number%32768) 0=1) && !decide (32768≤y.number)):=rfl;generalize wR M (En ip)=q at*;have c3:c.cell? ⟨w.heap.size+1+1,0,none⟩=some (.int .i64 ((c0+q:Nat):Int)):=(aF d.bc 0).trans rfl;have f3:=eY d.bc;have a6:((c0+q:Nat):Int)≤100000:=om;have P: ∀ k,k=w.heap.size+1+1→k=w.heap.size+1+1∧ ¬ eX v Cv Lv k∧ ∃ o,c.heap[k]? = some o∧o.isCells=true:=fun k e=>by
    subst e;exact ⟨rfl,fun n=>by have:=H.qV _ n;omega,_,d.bc,rfl⟩
   generalize M.getD (y.number%32768) 0=m at*;generalize y.number%32768=cc at*;generalize AP M y.number=bb at*;generalize oK y=sv at*;generalize y.number=nn at*
   by_cases S:m=1
   ·by_cases hk:32768≤nn
    ·have T:bb=false:=by rw [J];simp [S,hk]
     rw [T,ak dc,jW] at p;rw [← p] at d;have dm:(((m:Nat):Int) == 1)=true:=by rw [S];rfl
     have dk:decide (32768≤nn)=true:=dZ hk;rw [dk] at uK;have I:=ah d;rw [p] at d;have u:=ah d;have F:=ah g;have G:=ah i;clear d g i P J qm Fg c3 f3
     gi_wp2_with fail
     refine ⟨trivial,(CallsIn.inRound O (fE.2 (uh DR _))).mono ?_⟩;rintro e w5 ⟨rfl,rfl⟩
     gi_wp2_with fail
     refine ⟨trivial,(CallsIn.inRound O (fE.2 (uh uK _))).mono ?_⟩;rintro e w5 ⟨rfl,rfl⟩
     gi_wp2
     repeat (first | exact uh I | exact uh u | exact uh F | exact uh G | exact KeepsFrom.refl _ _ | exact aT.below (R:=dK) (fun _=>rfl) (bG _ _) | refine ⟨?_,?_⟩)
    ·have T:bb=true:=by rw [J];simp [S,hk]
     rw [T,au rfl] at p;have dm:(((m:Nat):Int) == 1)=true:=by rw [S];rfl
     have dk:decide (32768≤nn)=false:=gK hk;rw [dk] at uK;have Z:=d.put (c0+q+1);rw [show ((c0+q+1:Nat):Int)=((c0+q:Nat):Int)+1 by omega] at Z;have I:=ah Z;rw [LW c0 q 1,← p] at Z;have u:=ah Z;have K3:aT (fun k=>k=w.heap.size+1+1) (fun k=>wc.heap.size+1≤k) v dK c (c.setCell ⟨w.heap.size+1+1,0,none⟩ (.int .i64 (((c0+q:Nat):Int)+1))):=aT.own ar (Kept.only _ _ _ _) P rfl;have K4:aT (fun k=>k=w.heap.size+1+1) (fun k=>j.heap.size+2≤k) v bK c (c.setCell ⟨w.heap.size+1+1,0,none⟩ (.int .i64 (((c0+q:Nat):Int)+1))):=aT.own ar (Kept.only _ _ _ _) P (bK.refl _);have K5:=ah (i.trans (fun _ _ _ a b=>a.trans b) K4);have n:=ah ((KeepsOthers.setCell c ⟨w.heap.size+1+1,0,none⟩ (.int .i64 (((c0+q:Nat):Int)+1))).from wc.heap.size);have az:=ah (g.trans ((KeepsOthers.setCell c ⟨w.heap.size+1+1,0,none⟩ (.int .i64 (((c0+q:Nat):Int)+1))).from j.heap.size));have K3:=ah K3
     have Xg:=ah p;clear d g i P J qm Fg K4 Z p aq;generalize c0+q=cq at*
     gi_wp2_with fail
     refine ⟨trivial,(CallsIn.inRound O (fE.2 (uh DR _))).mono ?_⟩;rintro e w5 ⟨rfl,rfl⟩
     gi_wp2_with fail
     refine ⟨trivial,(CallsIn.inRound O (fE.2 (uh uK _))).mono ?_⟩;rintro e w5 ⟨rfl,rfl⟩
     gi_wp2
     repeat (first | exact uh I | exact uh u | exact uh n | exact uh az | exact uh K3 | exact uh K5 | refine ⟨?_,?_⟩)
   ·have T:bb=false:=by rw [J];simp [S]
    rw [T,ak dc,jW] at p;rw [← p] at d;have dm:(((m:Nat):Int) == 1)=false:=by rw [lY];omega
    have I:=ah d;rw [p] at d;have u:=ah d;have F:=ah g;have G:=ah i;clear d g i P J qm Fg c3 f3
    gi_wp2_with fail
    refine ⟨trivial,(CallsIn.inRound O (fE.2 (uh DR _))).mono ?_⟩;rintro e w5 ⟨rfl,rfl⟩
    gi_wp2
    refine ⟨trivial,?_⟩
    gi_wp2
    repeat (first | exact uh I | exact uh u | exact uh F | exact uh G | exact KeepsFrom.refl _ _ | exact aT.below (R:=dK) (fun _=>rfl) (bG _ _) | refine ⟨?_,?_⟩)
end
end Go.Proofs.YtknjjjenklfeoaaGreatDoor
