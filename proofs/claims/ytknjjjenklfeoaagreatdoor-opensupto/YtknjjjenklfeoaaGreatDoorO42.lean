import Derived.Test.YtknjjjenklfeoaaGreatDoorO41
set_option maxHeartbeats 8000000
set_option maxRecDepth 100000
set_option linter.all false
namespace Go.Proofs.YtknjjjenklfeoaaGreatDoor
section
open Go.RowKit Go.Shelf
theorem ai4 (T:List Nat): ∀ v ∈ nv T,v.oneCell'=true:=by
 intro v hv;simp only [nv,gQ] at hv;obtain ⟨b,_,rfl⟩:=hv;rfl
def ain (a:Addr):Sem Value:=loadVar 161 a
theorem TU (a:Addr):loadVar 161 a=ain a:=rfl
theorem Uz {w:World} {b o:Nat} (h:dN w b o 256):(ain ⟨b,o,none⟩).run Tryz.prog w= .ok (.agg (dI w b o 256).toArray) w:=
 AX h 161 _ Tryz.underlying161 rfl kr
def YE (a:Addr) (v:Value):Sem Unit:=storeVar 161 a v
theorem YG (a:Addr) (v:Value):storeVar 161 a v=YE a v:=rfl
theorem Yj {w:World} {z T:List Nat} (hz:z.length=256) (hT:T.length=256):
  (YE ⟨w.heap.size,0,none⟩ (.agg (nv T).toArray)).run Tryz.prog (w.alloc (.cells (nv z).toArray 161))= .ok () (w.alloc (.cells (nv T).toArray 161)):=
 FY w 161 (nv z).toArray (nv T).toArray (by simp only [iR,En,hT];kernel_rfl) (by simp [En,hz,hT]) (vg (ai4 T))
theorem Yi {w:World} {b o:Nat} {T:List Nat} (ht:w.there b o 256) (hT:T.length=256):(YE ⟨b,o,none⟩ (.agg (nv T).toArray)).run Tryz.prog w= .ok () (w.setCells b o (nv T)):=by
 have:=FX (P:=Tryz.prog) w b o 161 (nv T).toArray (by simpa [En,hT] using ht) (by simp only [iR,En,hT];kernel_rfl) (vg (ai4 T))
 simpa [YE] using this
theorem Si {w:World} {b:Nat} {cs:List Value} {vs:List Value} {t:TypeId} {fr:Nat × Nat} (h:w.heap[b]? = some (.cells cs.toArray t fr)) (hl:cs.length=vs.length):(w.setCells b 0 vs).heap[b]? = some (.cells vs.toArray t fr):=by
 rw [JY _ _ _ _ _ _ _ h]
 congr 2
 apply Io;intro i;rw [DC _ _ _ _ (by simp [hl]),bW,bW]
 by_cases hi:i<vs.length
 ·rw [au om,Vf]
 ·rw [ak om,eu om,eu om]
def alp:Sem Value:=zeroValue 161
theorem Y0:zeroValue 161=alp:=rfl
theorem Yk (w:World):alp.run Tryz.prog w= .ok (.agg (nv zI).toArray) w:=
 (uI (P:=Tryz.prog) (t:=161) (v:= .agg (nv zI).toArray) (n:=256) kr).1 w
attribute [local go_sem ↓] TU YG Y0
attribute [local go_sem] Uz Yi Yj Yk OG
attribute [local go_sem] Oper.semAt_some
def Eo (k:Nat):List Nat:=List.replicate k 1++List.replicate (256 - k) 0
theorem XF (k:Nat) (hk:k≤256):(Eo k).length=256:=by simp [Eo];omega
theorem aq6 (k:Nat) (hk:k<256):(Eo k).set k 1=Eo (k+1):=by
 unfold Eo;rw [Jv _ _ sm,zy,Bf,show 256 - k=(256 - (k+1))+1 by omega,UU,nK,KP,uG];rfl
def zH (M:List Nat) (us:List Nat):List Nat:=us.foldl bump M
theorem am6 (M us:List Nat) (u:Nat):zH M (us++[u])=bump (zH M us) u:=by simp [zH]
theorem afv (M us:List Nat):(zH M us).length=M.length:=by
 unfold zH
 induction us generalizing M with
 | nil=>rfl
 | cons a r ih=>simp only [Vg];rw [ih,PG]
theorem afw {b:Nat} (us:List Nat): ∀ {M:List Nat},Iq b M→Iq (b+us.length) (zH M us):=by
 induction us generalizing b with
 | nil=>intro M h;exact h
 | cons a r ih=>
  intro M h
  have:=ih (VQ h a)
  rw [iQ,show b+(r.length+1)=b+1+r.length by omega];exact this
def zq (V:aB) (fs:List Nat):List Nat:=zH (Eo 6) (fs.flatMap (mZ V.C))
def iE (V:aB):List Nat:=zq V (bK V)
theorem auG (V:aB) (fs:List Nat) (f:Nat):zq V (fs++[f])=zH (zq V fs) (mZ V.C f):=by
 unfold zq zH;rw [Rl,List.foldl_append,qA,OU,rU]
theorem Oz (V:aB) (fs:List Nat):(zq V fs).length=256:=by unfold zq;rw [afv];exact XF 6 om
theorem aq5 (k:Nat):Iq 1 (Eo k):=fun n=>by
 unfold Eo;rw [aK]
 by_cases h:n<k
 ·rw [oJ (by simpa using h),qU,au h];exact aP _
 ·rw [nP (by simpa using h),qU]
  split <;> simp
theorem Sm {w W W':World} {row:Option Nat} (h:aC w W) (hg:W.grownBy W' row) (hr: ∀ r,row=some r→w.heap.size≤r):aC w W':=
 ⟨hg.os.trans h.os,hg.tape.trans h.tape,hg.output.trans h.output,jZ h.size hg.size,fun i hi=>by
  rw [hg.block i (iZ hi h.size) (fun e=>by have:=hr i e.symm;omega)];exact h.block i hi⟩
theorem Qy {X Y:Nat→Prop} {v:Nat} {R:aB→aB→Prop} (hR: ∀ a,R a a) (PX: ∀ a b c,R a b→R b c→R a c) {β:Type} {W0:World} {B':Nat} (hB:W0.heap.size≤B'):OwnFrom B' (fun (_:β) W=>aT X Y v R W0 W):=
 fun _ A B row hs hg hr=>⟨jZ hs.1 hg.size,fun k o ho hc hy=>by
   have h1:=hs.2.1 k o ho hc hy;rw [hg.block k (aO h1) (fun e=>by have:=(hr k e.symm).1;have:=aO ho;omega)];exact h1,
  ((hs.OC (Y':=fun _=>False) (fun _ h=>False.elim h)).trans PX (aT.pO hR hg (fun r e=>(hr r e).2))).2.2⟩
def lG {Pc:Nat→Prop} (pre:List (UM Pc)):List Nat:=pre.map fun y=>y.1
theorem YW {Pc:Nat→Prop} (pre:List (UM Pc)) (x:UM Pc):lG (pre++[x])=lG pre++[x.1]:=by simp [lG]
theorem apa {V:aB} {f:Nat} (h:gJ V f):(mZ V.C f).length≤1057:=by
 have h1:=WB (uY V f h.2);have h2:=Yv V f h.2;have h3:=YP V f h;have h4:(jf V.C f).length=(FQ V f h).length:=by rw [← h3];simp [wB]
 unfold mZ;rw [iQ,h4];unfold FQ;omega
theorem YU {V:aB}: ∀ fs:List Nat,(∀ f ∈ fs,gJ V f)→Iq (1+1057*fs.length) (zq V fs):=by
 intro fs hfs;have hl:(fs.flatMap (mZ V.C)).length≤1057*fs.length:=by
  induction fs with
  | nil=>simp
  | cons a r ih=>
   have h1:=ih (fun f hf=>hfs f (MP _ hf));have h2:=apa (hfs a (Ro ..));rw [qA,oO,iQ];omega
 intro n
 have:=afw (fs.flatMap (mZ V.C)) (aq5 6) n
 unfold zq;omega
structure wM (w W:World) (v:Nat) (M:List Nat) (R:List Nat:=zI):Prop where
 below:aC w W
 bv:W.heap[w.heap.size]? = some (.cells #[.pointer (some ⟨v,0,none⟩)] 82 (0,0))
 br:W.heap[w.heap.size+1]? = some (.cells (nv R).toArray 161 (0,0))
 bu:W.heap[w.heap.size+1+1]? = some (.cells (nv M).toArray 161 (0,0))
theorem wM.later {w W W':World} {v:Nat} {M:List Nat} (h:wM w W v M) (hb:aC W W'):wM w W' v M:=
 ⟨h.below.trans (hb.mono h.below.size),(hb.block _ (aO h.bv)).trans h.bv,(hb.block _ (aO h.br)).trans h.br,(hb.block _ (aO h.bu)).trans h.bu⟩
theorem wM.pO {w W W':World} {v B:Nat} {M:List Nat} {row:Option Nat} (h:wM w W v M) (hB:w.heap.size+3≤B) (hg:W.grownBy W' row) (hr: ∀ r,row=some r→B≤r∧ ∃ o:Obj,W.heap[r]? = some o∧o.isCells=false):wM w W' v M:=
 ⟨Sm h.below hg (fun r e=>by have:=(hr r e).1;omega),rX hg hr h.bv om,rX hg hr h.br om,rX hg hr h.bu om⟩
theorem wM.answer {w W:World} {v:Nat} {M:List Nat} (h:wM w W v M) (hM:M.length=256):wM w (W.setCells (w.heap.size+1) 0 (nv M)) v M M:=by
 have hk:=Kept.AP W (w.heap.size+1) 0 (nv M);refine ⟨?_,hk.aF om h.bv,Si h.br (by rw [En,En,OG,hM]),hk.aF om h.bu⟩;exact ⟨hk.os.trans h.below.os,hk.tape.trans h.below.tape,hk.output.trans h.below.output,jZ h.below.size hk.size,fun i hi=>by
   rw [hk.block i (iZ hi h.below.size) om];exact h.below.block i hi⟩
theorem wM.shut {w W:World} {v D:Nat} {M R:List Nat} (h:wM w W v M R) (hD:w.heap.size+3≤D):wM w (W.putObj D (.deferred none)) v M R:=by
 have hg:=grownBy_putObj' W D (.deferred none);have hk:Kept (fun k=>k=D) W (W.putObj D (.deferred none)):=⟨hg.os,hg.tape,hg.output,hg.size,fun k hk hs=>hg.block k hk (fun e=>hs (by injection e))⟩;refine ⟨?_,hk.aF om h.bv,hk.aF om h.br,hk.aF om h.bu⟩;exact ⟨hk.os.trans h.below.os,hk.tape.trans h.below.tape,hk.output.trans h.below.output,jZ h.below.size hk.size,fun i hi=>by
   rw [hk.block i (iZ hi h.below.size) om];exact h.below.block i hi⟩
theorem wM.put {w W:World} {v:Nat} {M:List Nat} (h:wM w W v M) (x:Nat) (n:Nat):wM w (W.setCell ⟨w.heap.size+1+1,x,none⟩ (.int .i64 (n:Nat))) v (M.set x n):=by
 have hk:=Kept.only W (w.heap.size+1+1) x (.int .i64 (n:Nat));refine ⟨?_,hk.aF om h.bv,hk.aF om h.br,?_⟩
 ·exact ⟨hk.os.trans h.below.os,hk.tape.trans h.below.tape,hk.output.trans h.below.output,jZ h.below.size hk.size,fun i hi=>by
   rw [hk.block i (iZ hi h.below.size) om];exact h.below.block i hi⟩
 ·rw [heap_setCell_same _ _ _ _ _ _ _ h.bu,Af];unfold nv;rw [MV];rfl
theorem adK (w:World) (v:Nat) (Cv Lv:Value) (V:aB) (h:aN w v Cv Lv V) (h5:5<V.C.length) (hC:V.C.length≤256) (hF: ∀ f ∈ bK V,gJ V f):
  CallsIn Fence.wide 100 Tryz.prog 99 #[.pointer (some ⟨v,0,none⟩)] w fun e w'=>e= .returned (.agg (nv (iE V)).toArray)∧aC w w':=by
 refine callsIn_of_wp_marks Tryz.func99 rfl trivial ?_ rfl;simp only [Tryz.ntmps99,iR,iQ,vk,Nat.reduceAdd,Nat.reduceSub,A8,Ba,Bc,Bd,ql,sO];have U0:wM w (((w.alloc (.cells #[.pointer (some ⟨v,0,none⟩)] 82)).alloc (.cells (nv zI).toArray 161)).alloc (.cells (nv zI).toArray 161)) v (Eo 0):=by
  refine ⟨((((bG _ w).alloc (aP _) _).alloc sm _).alloc (by simp;omega) _),?_,?_,?_⟩
  ·exact (jE _ _ _ (by simp;omega)).trans ((jE _ _ _ sm).trans (aW w _))
  ·exact (jE _ _ _ sm).trans (by have:=aW (w.alloc (.cells #[.pointer (some ⟨v,0,none⟩)] 82)) (.cells (nv zI).toArray 161);rwa [jB] at this)
  ·have:=aW ((w.alloc (.cells #[.pointer (some ⟨v,0,none⟩)] 82)).alloc (.cells (nv zI).toArray 161)) (.cells (nv zI).toArray 161)
   rwa [jB,jB] at this
 have U0:=ah U0;have H:=ah h;clear h
 gi_wp2
 generalize ((w.alloc (.cells #[.pointer (some ⟨v,0,none⟩)] 82)).alloc (.cells (nv zI).toArray 161)).alloc (.cells (nv zI).toArray 161)=wa at*
 gi_loopw [4,7] (fun _ i wr=> ∃ k:Nat,k≤6∧i= .int .i64 k∧wM w wr v (Eo k)) (fun _ i _=>6 - (intOf i).toNat)
 case atStart=>exact ⟨0,om,rfl,uh U0⟩
 case round=>
  obtain ⟨k,hk,rfl,hU⟩:=hrel;clear U0
  by_cases hlt:k<6
  ·have hki:(k:Int)<6:=om;have WQ:(k:Int)<256:=om;have U1:=ah (by have:=hU.put k 1;rwa [aq6 k om] at this);have cu:wr.cell? ⟨w.heap.size+1+1,k,none⟩=some (.int .i64 (((Eo k).getD k 0:Nat):Int)):=by
    rw [aG hU.bu,bW,Kr _ _ (by rw [XF k om];omega)]
   have fu:=eG hU.bu;clear hU
   gi_wp2
   go_roundw
   case rel=>exact ⟨k+1,om,gn,uh U1⟩
   case measure=>exact cO
  ·have hk6:k=6:=om;subst hk6;have cv0:wr.cell? ⟨w.heap.size,0,none⟩=some (.pointer (some ⟨v,0,none⟩)):=(aG hU.bv 0).trans rfl;have Hm:=ah (SN wr v);have hbr:=aO hU.bu;have U1:=ah hU;clear hU
   gi_wp2_with fail
   refine ⟨trivial,(eY.2 Hm).mono ?_⟩;rintro e W3 ⟨rfl,hW3⟩;have hs3:wr.heap.size+1≤W3.heap.size:=by rw [hW3];simp
   have hb3:aC wr W3:=by rw [hW3];exact fC
   have hbx:W3.heap[wr.heap.size]? = some (.cells #[.pointer (some ⟨v,0,none⟩)] 82 (0,0)):=by rw [hW3];exact aW _ _
   have U3:=U1.later hb3;have hV3:=H.below U3.below;have wS:=aa2 (Pc:=gJ V) 99 om (fun k=>k=w.heap.size+1+1) v wr.heap.size (W3.heap.size+2) V Cv Lv W3 hV3 hbx om (fun hf=>by have:=(H.below U1.below).qG _ hf;omega) (fun k hk=>by rw [hk];omega) h5 hF;have U3:=ah U3;clear U1 hV3 hbx hb3 hW3 Hm cv0
   gi_wp2_with fail
   refine QF om (gf:=173) (lb:= #[.pointer (some ⟨wr.heap.size,0,none⟩)]) rfl (enters_of Tryz.func173 kr rfl) wS
    (fun A B C h k=>aT.trans (R:=bH) (fun _ _ _ a b=>a.trans b) h k) (fun W o o' hl hc=>aT.turn bH.refl W _ o o' hl hc om) (bG _ _) (fun _=>rfl)
    (fun pre W'=>wM w W' v (zq V (lG pre)))
    (fun _ _ _ _ hs hg hr=>wM.pO hs om hg hr)
    U3
    (fun x a' _=>a'={ tmps:= #[.pointer (some ⟨v,0,none⟩),.pointer (some ⟨w.heap.size,0,none⟩),.pointer (some ⟨w.heap.size+1,0,none⟩),.pointer (some ⟨w.heap.size+1+1,0,none⟩),u4,.int .i64 ((x.1:Nat):Int),undef,.int .i64 ((6:Nat):Int),.bool false,u9,u10,u11,u12,.pointer (some ⟨v,0,none⟩),.func (.func 173) #[] #[.pointer (some ⟨wr.heap.size,0,none⟩)],.int .i64 ((x.1:Nat):Int),undef,undef,undef,undef,undef,undef,undef,undef,undef,undef],defers:=[] })
    (fun _ _ _ _ _ _ hs _ _=>hs)
    ?assign ?body ?done
   case assign=>
    rintro l pre x W' K hi hK
    gi_wp2
    exact hK _ _ (KeepsFrom.refl _ _) (aT.below bH.refl (bG _ _)) hi rfl
   case done=>
    rintro D ys W' hD hS hU hK;have hS':lG ys=bK V:=hS;rw [hS'] at hU;have l1:=fD hU.bu (n:=256) (by rw [En,Oz]);have l2:=fG hU.bu (n:=256) (by rw [En,Oz]);have ht:=iI hU.br 0 256 (by simp [En,OG]);have hml:=Oz V (bK V);have U5:=ah ((hU.answer hml).shut (D:=D) om);have hK5:(W'.setCells (w.heap.size+1) 0 (nv (zq V (bK V)))).heap[D]? = some (.deferred (some [])):=(Kept.AP W' (w.heap.size+1) 0 (nv (zq V (bK V)))).aF om hK;have hR:Hid (iE V=zq V (bK V)):=rfl;clear hU hK hS hS' wS U3;generalize zq V (bK V)=M at*
    gi_wp2
    refine ⟨sm,.inl ⟨_,_,rfl,run_takeDeferred hK5,?_⟩⟩;have n3:=fD U5.br (n:=256) (by rw [En,hml]);have n4:=fG U5.br (n:=256) (by rw [En,hml]);refine ⟨_,qK rfl ⟨w.heap.size+1,0,none⟩ rfl (v:= .agg (nv M).toArray) (by rw [TU,Uz n3,n4]),?_,U5.below⟩;rw [uh hR]
   case body=>
    rintro l pre x a' W hl ⟨r,hr⟩ hU rfl hlen;obtain ⟨x,hx⟩:=x;have cv0:W.cell? ⟨w.heap.size,0,none⟩=some (.pointer (some ⟨v,0,none⟩)):=(aG hU.bv 0).trans rfl;have Hm:=ah (abp W v x);have U1:=ah hU;have ahh:=aO hU.bu;clear hU wS;dsimp only
    gi_wp2_with fail
    refine ⟨trivial,(CallsIn.inRound l (eY.2 Hm)).mono ?_⟩;rintro e wc ⟨rfl,hwc⟩;have hs5:W.heap.size+2≤wc.heap.size:=by rw [hwc];simp
    have hb5:aC W wc:=by rw [hwc];exact (fC).alloc sm _
    have hb1:wc.heap[W.heap.size]? = some (.cells #[.pointer (some ⟨v,0,none⟩)] 82 (0,0)):=by rw [hwc];exact (jE _ _ _ sm).trans (aW _ _)
    have hb2:wc.heap[W.heap.size+1]? = some (.cells #[.int .i64 (x:Nat)] 3 (0,0)):=by rw [hwc];have:=aW (W.alloc (.cells #[.pointer (some ⟨v,0,none⟩)] 82)) (.cells #[.int .i64 (x:Nat)] 3);rwa [jB] at this
    have U5:=U1.later hb5;have hV5:=H.below U5.below;have xJ:=H.below U1.below;have hr5:wc.heap[l]? = some (.loop r):=(hb5.block _ (aO hr)).trans hr;have Ec:=ahq 97 om (fun k=>k=w.heap.size+1+1) v W.heap.size (W.heap.size+1) x (wc.heap.size+1) V Cv Lv wc hV5 hC hb1 hb2 om om (fun hf=>by have:=xJ.qG _ hf;omega) (fun hf=>by have:=xJ.qG _ hf;omega) (fun k hk=>by rw [hk];omega) hx;have Tf:KeepsFrom W3.heap.size W wc:=⟨hb5.size,fun k o _ hk _=>(hb5.block k (aO hk)).trans hk⟩;have hK5:aT (fun k=>k=w.heap.size+1+1) (fun k=>W3.heap.size+2≤k) v bH W wc:=aT.below bH.refl hb5;have qI:=YU (V:=V) (lG pre) (fun f hf=>by obtain ⟨y,_,rfl⟩:=gQ.1 hf;exact y.2);have hpl:(lG pre).length≤4:=by have:(lG pre).length=pre.length:=tH _;omega
    have hsn:zq V (lG (pre++[⟨x,hx⟩]))=zH (zq V (lG pre)) (mZ V.C x):=by rw [YW,auG]
    have hml:=Oz V (lG pre);have U5:=ah U5;clear U1 hV5 hb1 hb2 hwc Hm cv0 hr xJ;generalize zq V (lG pre)=M at*
    gi_wp2_with fail
    refine ajI (l₀:=l) (r₀:=r) hr5 om (gf:=166) (lb:= #[.pointer (some ⟨W.heap.size+1,0,none⟩),.pointer (some ⟨W.heap.size,0,none⟩)]) rfl (enters_of Tryz.func166 kr rfl) Ec
     (fun A B C h k=>aT.trans (R:=dF) (fun _ _ _ a b=>sQ a b) h k) (fun W o o' hl hc=>aT.turn (R:=dF) (fun _=>rfl) W _ o o' hl hc om) (bG _ _) (fun _=>rfl)
     (fun ip W'=>wM w W' v (zH M (Ad ip))∧KeepsFrom W3.heap.size W W'∧aT (fun k=>k=w.heap.size+1+1) (fun k=>W3.heap.size+2≤k) v bH W W')
     (fun s A B row hs hg hr=>⟨wM.pO hs.1 om hg hr,ownFrom_keepsFrom (β:=Unit) hb5.size () A B row hs.2.1 hg hr,Qy (R:=bH) bH.refl (fun _ _ _ a b=>a.trans b) (β:=Unit) hb5.size () A B row hs.2.2 hg hr⟩)
     ⟨uh U5,Tf,hK5⟩
     (fun y a' _=>a'={ tmps:= #[.pointer (some ⟨v,0,none⟩),.pointer (some ⟨w.heap.size,0,none⟩),.pointer (some ⟨w.heap.size+1,0,none⟩),.pointer (some ⟨w.heap.size+1+1,0,none⟩),u4,.int .i64 ((x:Nat):Int),.int .i64 ((y.1:Nat):Int),.int .i64 ((6:Nat):Int),.bool false,u9,u10,u11,u12,.pointer (some ⟨v,0,none⟩),.func (.func 173) #[] #[.pointer (some ⟨wr.heap.size,0,none⟩)],.int .i64 ((x:Nat):Int),.pointer (some ⟨v,0,none⟩),.int .i64 ((x:Nat):Int),.func (.func 166) #[] #[.pointer (some ⟨W.heap.size+1,0,none⟩),.pointer (some ⟨W.heap.size,0,none⟩)],.int .i64 ((y.1:Nat):Int),undef,undef,undef,undef,undef,undef],defers:=[] })
     (fun _ _ _ _ _ _ hs _ _=>hs) ?assign2 ?body2 ?done2
    case assign2=>
     rintro l2 ip y W' K hi hK
     gi_wp2
     exact hK _ _ (KeepsFrom.refl _ _) (aT.below (R:=dF) (fun _=>rfl) (bG _ _)) hi rfl
    case done2=>
     rintro ip W' hS ⟨g1,g2,g3⟩;have hS':Ad ip=mZ V.C x:=hS;rw [hS'] at g1;have G0:=ah g1;rw [← hsn] at g1;have G1:=ah g1;have G2:=ah g2;have G3:=ah g3;clear g1 g2 g3
     gi_wp2
     repeat (first | exact uh G0 | exact uh G1 | exact uh G2 | exact uh G3 | refine ⟨?_,?_⟩)
    case body2=>
     rintro l2 ip ⟨y,hy⟩ a' W' hl2 _ ⟨g1,g2,g3⟩ rfl hip;have hbm:=afw (Ad ip) qI y;have hil:(Ad ip).length=ip.length:=tH _;have hsb:zH M (Ad (ip++[⟨y,hy⟩]))=bump (zH M (Ad ip)) y:=by rw [akY,am6]
     have hbl:=afv M (Ad ip);have hyi:(y:Int)<256:=om;have hV':=H.below g1.below;generalize zH M (Ad ip)=N at*;have c1:W'.cell? ⟨w.heap.size+1+1,y,none⟩=some (.int .i64 ((N.getD y 0:Nat):Int)):=by
      rw [aG g1.bu,bW,Kr _ _ om]
     have f1:=eG g1.bu;have hNi:((N.getD y 0:Nat):Int)≤10000:=om;have U6:=g1.put y (N.getD y 0+1);rw [show N.set y (N.getD y 0+1)=bump N y from rfl,← hsb,show ((N.getD y 0+1:Nat):Int)=((N.getD y 0:Nat):Int)+1 by omega] at U6;have hown: ∀ k,k=w.heap.size+1+1→k=w.heap.size+1+1∧ ¬ eX v Cv Lv k∧ ∃ o,W'.heap[k]? = some o∧o.isCells=true:=fun k e=>by
      subst e;exact ⟨rfl,fun hf=>by have:=H.qG _ hf;omega,_,g1.bu,rfl⟩
     have K3:aT (fun k=>k=w.heap.size+1+1) (fun k=>wc.heap.size+1≤k) v dF W' (W'.setCell ⟨w.heap.size+1+1,y,none⟩ (.int .i64 (((N.getD y 0:Nat):Int)+1))):=aT.own hV' (Kept.only _ _ _ _) hown rfl;have K4:aT (fun k=>k=w.heap.size+1+1) (fun k=>W3.heap.size+2≤k) v bH W' (W'.setCell ⟨w.heap.size+1+1,y,none⟩ (.int .i64 (((N.getD y 0:Nat):Int)+1))):=aT.own hV' (Kept.only _ _ _ _) hown (bH.refl _);have K5:=ah (g3.trans (fun _ _ _ a b=>a.trans b) K4);have hf:=ah ((KeepsOthers.setCell W' ⟨w.heap.size+1+1,y,none⟩ (.int .i64 (((N.getD y 0:Nat):Int)+1))).from wc.heap.size);have hf2:=ah (g2.trans ((KeepsOthers.setCell W' ⟨w.heap.size+1+1,y,none⟩ (.int .i64 (((N.getD y 0:Nat):Int)+1))).from W3.heap.size));have U6:=ah U6;have K3:=ah K3;clear g1 g2 g3 K4 hown hsb hV' hbm qI Ec;generalize N.getD y 0=q at*
     gi_wp2
     repeat (first | exact uh hf | exact uh K3 | exact uh U6 | exact uh hf2 | exact uh K5 | refine ⟨?_,?_⟩)
end
section
open Go.RowKit Go.Shelf
attribute [local go_sem ↓] TU YG Y0
attribute [local go_sem] Uz Yi Yj Yk OG
attribute [local go_sem] Oper.semAt_some
def Du (ns:List Nat):List Nat:=ns.filter (· != 0)
def Ic (C:List aj) (f:Nat):List Nat:=(Du (numsOf (cl C f))).flatMap fun s=>s :: Du (numsOf (cl C (s%32768)))
theorem akp {Pc:Nat→Prop} (t:Nat) (T:List Nat) (hT: ∀ i,DU Pc (T.getD i 0)) (hl:T.length=32): ∀ k hk,(sJ t T hT k hk).map (fun s=>s.number)=Du (T.take k)
 | 0,_=>rfl
 | k+1,hk=>by
  have ih:=akp t T hT hl k om;have hlt:k<T.length:=om;have hg:T.getD k 0=T[k]:=by rw [aK,bI hlt];rfl
  have ht:Du (T.take (k+1))=Du (T.take k)++(if T.getD k 0=0 then [] else [T.getD k 0]):=by
   rw [yU hlt,hg];unfold Du;rw [OO]
   congr 1
   by_cases h:T[k]=0
   ·simp [h]
   ·simp [h]
  rw [ht]
  by_cases h0:T.getD k 0=0
  ·rw [UD t T hT k hk h0,ih,au h0,rU]
  ·rw [UC t T hT k hk h0,rE,ih,ak h0];rfl
theorem ako {Pc:Nat→Prop} (V:aB) (t:Nat) (hT:Ai Pc V.C t):(uY V t hT).map (fun s=>s.number)=Du (numsOf (cl V.C t)):=by
 have:=akp t (numsOf (cl V.C t)) hT (numsOf_length _) 32 (aP _)
 rw [Js (by rw [numsOf_length];exact aP _)] at this;exact this
def Dv {V:aB} (ss:List (mY (tK V))):List Nat:=ss.map fun s=>s.number
theorem asg {V:aB} (ss:List (mY (tK V))) (s:mY (tK V)):Dv (ss++[s])=Dv ss++[s.number]:=by simp [Dv]
theorem agM {V:aB}: ∀ ss:List (mY (qW V)),Dv (pG ss)=(ss.map fun s=>s.number).flatMap fun s=>s :: Du (numsOf (cl V.C (s%32768)))
 | []=>rfl
 | s :: ss=>by
  have h1:pG (s :: ss)=(Am s :: uY V (s.number%32768) s.hc.2)++pG ss:=by simp [pG]
  have h2:=agM ss;have h3:=ako V (s.number%32768) s.hc.2;unfold Dv at h2 ⊢;rw [h1,rE,h2,jC,jC,qA,h3];rfl
theorem akH (V:aB) (first:Nat) (h:gJ V first):Dv (FQ V first h)=Ic V.C first:=by
 unfold FQ Ic;rw [agM,ako]
def BP (M:List Nat) (n:Nat):Bool:=decide (M.getD (n%32768) 0=1) && !decide (32768≤n)
def wV (M:List Nat) (ns:List Nat):Nat:=(ns.filter (BP M)).length
theorem apN (M ns:List Nat) (n:Nat):wV M (ns++[n])=wV M ns+(if BP M n then 1 else 0):=by
 unfold wV;rw [OO,oO];cases h:BP M n <;> simp [h]
theorem abE (M a b:List Nat):wV M (a++b)=wV M a+wV M b:=by simp [wV]
theorem ahV (M ns:List Nat):wV M ns≤ns.length:=adS _ _
def yI (V:aB) (M:List Nat) (fs:List Nat):Nat:=wV M (fs.flatMap (Ic V.C))
theorem ahT (V:aB) (M fs:List Nat) (f:Nat):yI V M (fs++[f])=yI V M fs+wV M (Ic V.C f):=by
 unfold yI;rw [Rl,abE,qA,OU,rU]
theorem ase {V:aB} {f:Nat} (h:gJ V f):(Ic V.C f).length≤1056:=by
 have h1:=WB (uY V f h.2);have h2:=Yv V f h.2;have h3:=akH V f h;have h4:(Ic V.C f).length=(FQ V f h).length:=by rw [← h3];simp [Dv]
 rw [h4];unfold FQ;omega
theorem ahS {V:aB} (M:List Nat): ∀ fs:List Nat,(∀ f ∈ fs,gJ V f)→yI V M fs≤1056*fs.length:=by
 intro fs hfs;have hl:(fs.flatMap (Ic V.C)).length≤1056*fs.length:=by
  induction fs with
  | nil=>simp
  | cons a r ih=>
   have h1:=ih (fun f hf=>hfs f (MP _ hf));have h2:=ase (hfs a (Ro ..));rw [qA,oO,iQ];omega
 have:=ahV M (fs.flatMap (Ic V.C))
 unfold yI;omega
structure CW (w W:World) (v:Nat) (M:List Nat) (c:Nat):Prop where
 below:aC w W
 bv:W.heap[w.heap.size]? = some (.cells #[.pointer (some ⟨v,0,none⟩)] 82 (0,0))
 bu:W.heap[w.heap.size+1]? = some (.cells (nv M).toArray 161 (0,0))
 bc:W.heap[w.heap.size+1+1]? = some (.cells #[.int .i64 (c:Nat)] 3 (0,0))
theorem CW.later {w W W':World} {v c:Nat} {M:List Nat} (h:CW w W v M c) (hb:aC W W'):CW w W' v M c:=
 ⟨h.below.trans (hb.mono h.below.size),(hb.block _ (aO h.bv)).trans h.bv,(hb.block _ (aO h.bu)).trans h.bu,(hb.block _ (aO h.bc)).trans h.bc⟩
theorem CW.pO {w W W':World} {v B c:Nat} {M:List Nat} {row:Option Nat} (h:CW w W v M c) (hB:w.heap.size+3≤B) (hg:W.grownBy W' row) (hr: ∀ r,row=some r→B≤r∧ ∃ o:Obj,W.heap[r]? = some o∧o.isCells=false):CW w W' v M c:=
 ⟨Sm h.below hg (fun r e=>by have:=(hr r e).1;omega),rX hg hr h.bv om,rX hg hr h.bu om,rX hg hr h.bc om⟩
theorem CW.put {w W:World} {v c:Nat} {M:List Nat} (h:CW w W v M c) (n:Nat):CW w (W.setCell ⟨w.heap.size+1+1,0,none⟩ (.int .i64 (n:Nat))) v M n:=by
 have hk:=Kept.only W (w.heap.size+1+1) 0 (.int .i64 (n:Nat));refine ⟨?_,hk.aF om h.bv,hk.aF om h.bu,?_⟩
 ·exact ⟨hk.os.trans h.below.os,hk.tape.trans h.below.tape,hk.output.trans h.below.output,jZ h.below.size hk.size,fun i hi=>by
   rw [hk.block i (iZ hi h.below.size) om];exact h.below.block i hi⟩
 ·rw [heap_setCell_same _ _ _ _ _ _ _ h.bc];rfl
theorem Sl {w W:World} {D:Nat} (h:aC w W) (hD:w.heap.size≤D):aC w (W.putObj D (.deferred none)):=by
 have hg:=grownBy_putObj' W D (.deferred none);exact Sm h hg (fun r e=>by injection e with e;omega)
theorem auF (w:World) (v:Nat) (Cv Lv:Value) (V:aB) (h:aN w v Cv Lv V) (h5:5<V.C.length) (hC:V.C.length≤256) (hF: ∀ f ∈ bK V,gJ V f) (M:List Nat) (hM:M.length=256):
  CallsIn Fence.wide 100 Tryz.prog 100 #[.pointer (some ⟨v,0,none⟩),.agg (nv M).toArray] w fun e w'=>e= .returned (.int .i64 ((yI V M (bK V):Nat):Int))∧aC w w':=by
 refine callsIn_of_wp_marks Tryz.func100 rfl trivial ?_ rfl;simp only [Tryz.ntmps100,iR,iQ,vk,Nat.reduceAdd,Nat.reduceSub,A8,Ba,Bc,Bd,ql,sO];have U0:CW w (((w.alloc (.cells #[.pointer (some ⟨v,0,none⟩)] 82)).alloc (.cells (nv M).toArray 161)).alloc (.cells #[.int .i64 0] 3)) v M 0:=by
  refine ⟨((((bG _ w).alloc (aP _) _).alloc sm _).alloc (by simp;omega) _),?_,?_,?_⟩
  ·exact (jE _ _ _ (by simp;omega)).trans ((jE _ _ _ sm).trans (aW w _))
  ·exact (jE _ _ _ sm).trans (by have:=aW (w.alloc (.cells #[.pointer (some ⟨v,0,none⟩)] 82)) (.cells (nv M).toArray 161);rwa [jB] at this)
  ·have:=aW ((w.alloc (.cells #[.pointer (some ⟨v,0,none⟩)] 82)).alloc (.cells (nv M).toArray 161)) (.cells #[.int .i64 0] 3)
   rwa [jB,jB] at this
 have U0:=ah U0;have H:=ah h;have Hm0:=ah (fun W=>SN W v);clear h
 gi_wp2_with fail
 generalize ((w.alloc (.cells #[.pointer (some ⟨v,0,none⟩)] 82)).alloc (.cells (nv M).toArray 161)).alloc (.cells #[.int .i64 0] 3)=wr at*;have hbr:=aO U0.bc;refine ⟨trivial,(eY.2 (uh Hm0 wr)).mono ?_⟩;rintro e W3 ⟨rfl,hW3⟩;have hs3:wr.heap.size+1≤W3.heap.size:=by rw [hW3];simp
 have hb3:aC wr W3:=by rw [hW3];exact fC
 have hbx:W3.heap[wr.heap.size]? = some (.cells #[.pointer (some ⟨v,0,none⟩)] 82 (0,0)):=by rw [hW3];exact aW _ _
 have U3:=U0.later hb3;have hV3:=H.below U3.below;have wS:=aa2 (Pc:=gJ V) 99 om (fun k=>k=w.heap.size+1+1) v wr.heap.size (W3.heap.size+2) V Cv Lv W3 hV3 hbx om (fun hf=>by have:=(H.below U0.below).qG _ hf;omega) (fun k hk=>by rw [hk];omega) h5 hF;have U3:=ah U3;clear U0 hV3 hbx hb3 hW3 Hm0
 gi_wp2_with fail
 refine QF om (gf:=173) (lb:= #[.pointer (some ⟨wr.heap.size,0,none⟩)]) rfl (enters_of Tryz.func173 kr rfl) wS
  (fun A B C h k=>aT.trans (R:=bH) (fun _ _ _ a b=>a.trans b) h k) (fun W o o' hl hc=>aT.turn bH.refl W _ o o' hl hc om) (bG _ _) (fun _=>rfl)
  (fun pre W'=>CW w W' v M (yI V M (lG pre)))
  (fun _ _ _ _ hs hg hr=>CW.pO hs om hg hr)
  U3
  (fun x a' _=>a'={ tmps:= #[.pointer (some ⟨v,0,none⟩),.agg (nv M).toArray,.pointer (some ⟨w.heap.size,0,none⟩),.pointer (some ⟨w.heap.size+1,0,none⟩),.int .i64 0,.pointer (some ⟨w.heap.size+1+1,0,none⟩),.int .i64 ((x.1:Nat):Int),undef,.pointer (some ⟨v,0,none⟩),.func (.func 173) #[] #[.pointer (some ⟨wr.heap.size,0,none⟩)],.int .i64 ((x.1:Nat):Int),undef,undef,undef,undef,undef,undef,undef,undef,undef,undef,undef,undef,undef,undef,undef,undef,undef,undef,undef],defers:=[] })
  (fun _ _ _ _ _ _ hs _ _=>hs)
  ?assign ?body ?done
 case assign=>
  rintro l pre x W' K hi hK
  gi_wp2
  exact hK _ _ (KeepsFrom.refl _ _) (aT.below bH.refl (bG _ _)) hi rfl
 case done=>
  rintro D ys W' hD hS hU hK;have hS':lG ys=bK V:=hS;rw [hS'] at hU;have c1:W'.cell? ⟨w.heap.size+1+1,0,none⟩=some (.int .i64 ((yI V M (bK V):Nat):Int)):=(aG hU.bc 0).trans rfl;have U5:=ah (Sl (D:=D) hU.below om);clear hU hS hS' wS U3;generalize hq:yI V M (bK V)=q at c1;have Hq:=ah hq;clear hq
  gi_wp2
  refine ⟨sm,.inl ⟨_,_,rfl,run_takeDeferred hK,?_⟩⟩;refine ⟨_,Zh rfl _ _ _,?_,uh U5⟩;rw [uh Hq];rfl
 case body=>
  rintro l pre x a' W hl ⟨r,hr⟩ hU rfl hlen;obtain ⟨x,hx⟩:=x;have cv0:W.cell? ⟨w.heap.size,0,none⟩=some (.pointer (some ⟨v,0,none⟩)):=(aG hU.bv 0).trans rfl;have Hm:=ah (UL W v x);have U1:=ah hU;have ahh:=aO hU.bc;clear hU wS;dsimp only
  gi_wp2_with fail
  refine ⟨trivial,(CallsIn.inRound l (eY.2 Hm)).mono ?_⟩;rintro e wc ⟨rfl,hwc⟩;have hs5:W.heap.size+2≤wc.heap.size:=by rw [hwc];simp
  have hb5:aC W wc:=by rw [hwc];exact (fC).alloc sm _
  have hb1:wc.heap[W.heap.size]? = some (.cells #[.pointer (some ⟨v,0,none⟩)] 82 (0,0)):=by rw [hwc];exact (jE _ _ _ sm).trans (aW _ _)
  have hb2:wc.heap[W.heap.size+1]? = some (.cells #[.int .i64 (x:Nat)] 3 (0,0)):=by rw [hwc];have:=aW (W.alloc (.cells #[.pointer (some ⟨v,0,none⟩)] 82)) (.cells #[.int .i64 (x:Nat)] 3);rwa [jB] at this
  have U5:=U1.later hb5;have hV5:=H.below U5.below;have xJ:=H.below U1.below;have hr5:wc.heap[l]? = some (.loop r):=(hb5.block _ (aO hr)).trans hr;have Ec:=(YN 97 om (fun k=>k=w.heap.size+1+1) v W.heap.size (W.heap.size+1) x (wc.heap.size+1) V Cv Lv wc hV5 hb1 hb2 om om (fun hf=>by have:=xJ.qG _ hf;omega) (fun hf=>by have:=xJ.qG _ hf;omega) (fun k hk=>by rw [hk];omega) hx).all;have Tf:KeepsFrom W3.heap.size W wc:=⟨hb5.size,fun k o _ hk _=>(hb5.block k (aO hk)).trans hk⟩;have hK5:aT (fun k=>k=w.heap.size+1+1) (fun k=>W3.heap.size+2≤k) v bH W wc:=aT.below bH.refl hb5;have qI:=ahS (V:=V) M (lG pre) (fun f hf=>by obtain ⟨y,_,rfl⟩:=gQ.1 hf;exact y.2);have hpl:(lG pre).length≤4:=by have:(lG pre).length=pre.length:=tH _;omega
  have hsn:yI V M (lG (pre++[⟨x,hx⟩]))=yI V M (lG pre)+wV M (Ic V.C x):=by rw [YW,ahT]
  have U5:=ah U5;clear U1 hV5 hb1 hb2 hwc Hm cv0 hr xJ;generalize yI V M (lG pre)=c0 at*
  gi_wp2_with fail
  refine ajI (l₀:=l) (r₀:=r) hr5 om (gf:=174) (lb:= #[.pointer (some ⟨W.heap.size,0,none⟩),.pointer (some ⟨W.heap.size+1,0,none⟩)]) rfl (enters_of Tryz.func174 kr rfl) Ec
   (fun A B C h k=>aT.trans (R:=dF) (fun _ _ _ a b=>sQ a b) h k) (fun W o o' hl hc=>aT.turn (R:=dF) (fun _=>rfl) W _ o o' hl hc om) (bG _ _) (fun _=>rfl)
   (fun ip W'=>CW w W' v M (c0+wV M (Dv ip))∧KeepsFrom W3.heap.size W W'∧aT (fun k=>k=w.heap.size+1+1) (fun k=>W3.heap.size+2≤k) v bH W W')
   (fun s A B row hs hg hr=>⟨CW.pO hs.1 om hg hr,ownFrom_keepsFrom (β:=Unit) hb5.size () A B row hs.2.1 hg hr,Qy (R:=bH) bH.refl (fun _ _ _ a b=>a.trans b) (β:=Unit) hb5.size () A B row hs.2.2 hg hr⟩)
   ⟨uh U5,Tf,hK5⟩
   (fun y a' W'=> ∃ bx,W'.heap[bx]? = some (.cells #[.int .i64 ((y.table:Nat):Int),.int .i64 ((y.index:Nat):Int),.int .u16 ((y.number:Nat):Int)] 219 (0,0))∧a'={ tmps:= #[.pointer (some ⟨v,0,none⟩),.agg (nv M).toArray,.pointer (some ⟨w.heap.size,0,none⟩),.pointer (some ⟨w.heap.size+1,0,none⟩),.int .i64 0,.pointer (some ⟨w.heap.size+1+1,0,none⟩),.int .i64 ((x:Nat):Int),.pointer (some ⟨bx,0,none⟩),.pointer (some ⟨v,0,none⟩),.func (.func 173) #[] #[.pointer (some ⟨wr.heap.size,0,none⟩)],.int .i64 ((x:Nat):Int),.pointer (some ⟨v,0,none⟩),.int .i64 ((x:Nat):Int),.func (.func 174) #[] #[.pointer (some ⟨W.heap.size,0,none⟩),.pointer (some ⟨W.heap.size+1,0,none⟩)],oh y,undef,undef,undef,undef,undef,undef,undef,undef,undef,undef,undef,undef,undef,undef,undef],defers:=[] })
   (fun y a'' _ A' B' row hs hg hr=>by
    obtain ⟨bx2,h2,h3⟩:=hs;refine ⟨bx2,?_,h3⟩;rw [hg.block bx2 (aO h2) (fun e=>by
     obtain ⟨_,o,ho,hc⟩:=hr bx2 e.symm;rw [h2] at ho;injection ho with ho;subst ho;cases hc)]
    exact h2) ?assign2 ?body2 ?done2
  case assign2=>
   rintro l2 ip y W' K ⟨g1,g2,g3⟩ hK;have hb:Below W'.heap.size W' (W'.alloc (.cells #[.int .i64 ((y.table:Nat):Int),.int .i64 ((y.index:Nat):Int),.int .u16 ((y.number:Nat):Int)] 219)):=fC;have G1:=ah (g1.later hb);have G2:=ah (g2.trans ((KeepsOthers.alloc W' (.cells #[.int .i64 ((y.table:Nat):Int),.int .i64 ((y.index:Nat):Int),.int .u16 ((y.number:Nat):Int)] 219)).from _));have G3:=ah (g3.trans (fun _ _ _ a b=>a.trans b) (aT.below bH.refl hb));clear g1 g2 g3;unfold oh
   gi_wp2
   exact hK _ _ ((KeepsOthers.alloc _ _).from _) (aT.below (R:=dF) (fun _=>rfl) hb) ⟨uh G1,uh G2,uh G3⟩ ⟨_,aW _ _,rfl⟩
  case done2=>
   rintro ip W' hS ⟨g1,g2,g3⟩;have hS':Dv ip=Ic V.C x:=by rw [hS];exact akH V x hx
   rw [hS'] at g1;have G0:=ah g1;rw [← hsn] at g1;have G1:=ah g1;have G2:=ah g2;have G3:=ah g3;clear g1 g2 g3
   gi_wp2
   repeat (first | exact uh G0 | exact uh G1 | exact uh G2 | exact uh G3 | refine ⟨?_,?_⟩)
  case body2=>
   rintro l2 ip y a' W' hl2 _ ⟨g1,g2,g3⟩ ⟨bx,hbx,rfl⟩ hip;have hil:(Dv ip).length=ip.length:=tH _;have hll:=ahV M (Dv ip);have hsb:wV M (Dv (ip++[y]))=wV M (Dv ip)+(if BP M y.number then 1 else 0):=by rw [asg,apN]
   have hV':=H.below g1.below;have hn:=y.hn;have hc:=y.hc.2;have hci:((y.number%32768:Nat):Int)<256:=om;have c1:W'.cell? ⟨bx,2,none⟩=some (.int .u16 ((y.number:Nat):Int)):=(aG hbx 2).trans rfl;have c2:W'.cell? ⟨w.heap.size+1,y.number%32768,none⟩=some (.int .i64 ((M.getD (y.number%32768) 0:Nat):Int)):=by
    rw [aG g1.bu,bW,Kr _ _ om]
   have ER:=ah (fun W=>BH y.number y.hn W);have wJ:=ah (fun W=>Xr y.number y.hn W);have hlb:BP M y.number=(decide (M.getD (y.number%32768) 0=1) && !decide (32768≤y.number)):=rfl;generalize wV M (Dv ip)=q at*;have c3:W'.cell? ⟨w.heap.size+1+1,0,none⟩=some (.int .i64 ((c0+q:Nat):Int)):=(aG g1.bc 0).trans rfl;have f3:=eG g1.bc;have hqi:((c0+q:Nat):Int)≤100000:=om;have hown: ∀ k,k=w.heap.size+1+1→k=w.heap.size+1+1∧ ¬ eX v Cv Lv k∧ ∃ o,W'.heap[k]? = some o∧o.isCells=true:=fun k e=>by
    subst e;exact ⟨rfl,fun hf=>by have:=H.qG _ hf;omega,_,g1.bc,rfl⟩
   generalize M.getD (y.number%32768) 0=m at*;generalize y.number%32768=cc at*;generalize BP M y.number=bb at*;generalize oh y=sv at*;generalize y.number=nn at*
   by_cases hm1:m=1
   ·by_cases hk:32768≤nn
    ·have hbb:bb=false:=by rw [hlb];simp [hm1,hk]
     rw [hbb,ak dc,jL] at hsb;rw [← hsb] at g1;have dm:(((m:Nat):Int) == 1)=true:=by rw [hm1];rfl
     have dk:decide (32768≤nn)=true:=eH hk;rw [dk] at wJ;have G0:=ah g1;rw [hsb] at g1;have G1:=ah g1;have G2:=ah g2;have G3:=ah g3;clear g1 g2 g3 hown hlb qI Ec c3 f3
     gi_wp2_with fail
     refine ⟨trivial,(CallsIn.inRound l2 (eY.2 (uh ER _))).mono ?_⟩;rintro e w5 ⟨rfl,rfl⟩
     gi_wp2_with fail
     refine ⟨trivial,(CallsIn.inRound l2 (eY.2 (uh wJ _))).mono ?_⟩;rintro e w5 ⟨rfl,rfl⟩
     gi_wp2
     repeat (first | exact uh G0 | exact uh G1 | exact uh G2 | exact uh G3 | exact KeepsFrom.refl _ _ | exact aT.below (R:=dF) (fun _=>rfl) (bG _ _) | refine ⟨?_,?_⟩)
    ·have hbb:bb=true:=by rw [hlb];simp [hm1,hk]
     rw [hbb,au rfl] at hsb;have dm:(((m:Nat):Int) == 1)=true:=by rw [hm1];rfl
     have dk:decide (32768≤nn)=false:=gU hk;rw [dk] at wJ;have U6:=g1.put (c0+q+1);rw [show ((c0+q+1:Nat):Int)=((c0+q:Nat):Int)+1 by omega] at U6;have G0:=ah U6;rw [OL c0 q 1,← hsb] at U6;have G1:=ah U6;have K3:aT (fun k=>k=w.heap.size+1+1) (fun k=>wc.heap.size+1≤k) v dF W' (W'.setCell ⟨w.heap.size+1+1,0,none⟩ (.int .i64 (((c0+q:Nat):Int)+1))):=aT.own hV' (Kept.only _ _ _ _) hown rfl;have K4:aT (fun k=>k=w.heap.size+1+1) (fun k=>W3.heap.size+2≤k) v bH W' (W'.setCell ⟨w.heap.size+1+1,0,none⟩ (.int .i64 (((c0+q:Nat):Int)+1))):=aT.own hV' (Kept.only _ _ _ _) hown (bH.refl _);have K5:=ah (g3.trans (fun _ _ _ a b=>a.trans b) K4);have hf:=ah ((KeepsOthers.setCell W' ⟨w.heap.size+1+1,0,none⟩ (.int .i64 (((c0+q:Nat):Int)+1))).from wc.heap.size);have hf2:=ah (g2.trans ((KeepsOthers.setCell W' ⟨w.heap.size+1+1,0,none⟩ (.int .i64 (((c0+q:Nat):Int)+1))).from W3.heap.size));have K3:=ah K3
     have VB:=ah hsb;clear g1 g2 g3 hown hlb qI Ec K4 U6 hsb hsn;generalize c0+q=cq at*
     gi_wp2_with fail
     refine ⟨trivial,(CallsIn.inRound l2 (eY.2 (uh ER _))).mono ?_⟩;rintro e w5 ⟨rfl,rfl⟩
     gi_wp2_with fail
     refine ⟨trivial,(CallsIn.inRound l2 (eY.2 (uh wJ _))).mono ?_⟩;rintro e w5 ⟨rfl,rfl⟩
     gi_wp2
     repeat (first | exact uh G0 | exact uh G1 | exact uh hf | exact uh hf2 | exact uh K3 | exact uh K5 | refine ⟨?_,?_⟩)
   ·have hbb:bb=false:=by rw [hlb];simp [hm1]
    rw [hbb,ak dc,jL] at hsb;rw [← hsb] at g1;have dm:(((m:Nat):Int) == 1)=false:=by rw [lI];omega
    have G0:=ah g1;rw [hsb] at g1;have G1:=ah g1;have G2:=ah g2;have G3:=ah g3;clear g1 g2 g3 hown hlb qI Ec c3 f3
    gi_wp2_with fail
    refine ⟨trivial,(CallsIn.inRound l2 (eY.2 (uh ER _))).mono ?_⟩;rintro e w5 ⟨rfl,rfl⟩
    gi_wp2
    refine ⟨trivial,?_⟩
    gi_wp2
    repeat (first | exact uh G0 | exact uh G1 | exact uh G2 | exact uh G3 | exact KeepsFrom.refl _ _ | exact aT.below (R:=dF) (fun _=>rfl) (bG _ _) | refine ⟨?_,?_⟩)
end
end Go.Proofs.YtknjjjenklfeoaaGreatDoor
