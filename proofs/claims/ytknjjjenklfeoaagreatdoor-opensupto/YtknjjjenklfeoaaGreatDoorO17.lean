import Derived.Test.YtknjjjenklfeoaaGreatDoorO16
set_option maxHeartbeats 8000000
set_option maxRecDepth 100000
set_option linter.all false
namespace Go.Proofs.YtknjjjenklfeoaaGreatDoor
open Go.RowKit
section
open Go.RowKit Go.Shelf
attribute [local go_sem ↓] dw fP fZ kS mP mV jJ kJ jY jU lD lH kQ ku kT mQ mW lZ ny jG qc qP qQ qF xM EF EI ED DZ
attribute [local go_sem] dK fO fV gK gy aV kX mG mM mJ mF gI jK kH jX kZ kW iJ jW lq lC lu kF jc jd lY l7 kG kY mO nI lT mD nH qh qM qO qN qL xX Ey EC Ez Ew Dz
attribute [local go_sem] pW pV Oper.semAt_some
def G9 (k:List UInt8) (n:Nat):List UInt8:=k.set n (UInt8.ofNat ((aI k n+255)%256))
def minus (k:List UInt8) (us:List Nat):List UInt8:=us.foldl G9 k
theorem aqo (k:List UInt8) (us:List Nat) (u:Nat):minus k (us++[u])=G9 (minus k us) u:=by simp [minus]
theorem Xv (k:List UInt8) (us:List Nat):(minus k us).length=k.length:=by
 unfold minus
 induction us generalizing k with
 | nil=>rfl
 | cons a r ih=>simp only [Vg];rw [ih];simp [G9]
def jI (V:aB) (us:List Nat):aB:=fJ (kU V (minus (aJ V.C) us) 4)
def oD (V:aB) (us:List Nat):aB:=fJ (sF (jI V us))
theorem XU (V:aB) (k:List UInt8) (h5:5≤V.C.length):(kU V k 4).C.length=V.C.length:=by
 simp only [kU,yN];omega
theorem SeqStopsK.all {α:Type} {n gf:Nat} {lb:Array Value} {encs:α→Array Value} {Kp:World→World→Prop} {S Sp:List α→Prop} {N B:Nat} {w:World} (h:SeqStopsK Fence.wide n Tryz.prog gf lb encs Kp S Sp N w):Lh n gf lb encs Kp S N B w:=
 fun l J W hW _ hJ hY h0=>(h l J (fun _ _=>False) W hW (fun s A B row hs hg hr=>hJ s A B row hs hg (fun r e=>⟨(hr r e).1,by obtain ⟨_,o,ho,hw⟩:=hr r e;exact ⟨o,ho,Obj.not_cells_of_walk hw⟩⟩)) (fun _ _ _ _ hs _ _=>hs)
  (fun pre x W1 hJ1 hl=>YZ (hY pre x W1 hJ1 hl) (fun e W' hx=>aA hx)) h0).mono (by
  rintro e W' ⟨h1,h2 | ⟨pre,_,h3⟩⟩
  ·exact ⟨h1,h2⟩
  ·exact h3.elim)
def Ad (pre:List U256):List Nat:=pre.map fun y=>y.1
theorem akY (pre:List U256) (x:U256):Ad (pre++[x])=Ad pre++[x.1]:=by simp [Ad]
theorem Env.beside {w W:World} {v D:Nat} {o:Obj} {Cv Lv C1 L1:Value} {V:aB} {bs:List (Nat × Obj)} (h:Env w W v Cv Lv C1 L1 V bs) (hD:W.heap[D]? = some o) (hw:w.heap.size≤D) (ho:o.isCells=false):Env w W v Cv Lv C1 L1 V ((D,o) :: bs):=
 ⟨h.step,fun x hx=>by
  rcases dD.1 hx with rfl | hx
  ·exact ⟨hD,hw,h.at'.Qp hD ho⟩
  ·exact h.qg x hx⟩
def dF (a b:aB):Prop:=a=b
theorem ah5 (w:World) (v:Nat) (Cv Lv:Value) (V:aB) (h:aN w v Cv Lv V) (h5:5<V.C.length) (hC:V.C.length≤256) (hL:V.L.length≤600000000)
  (gf:Nat) (lb:Array Value) (us:List Nat) (N:Nat) (eg: ∀ args w,(callFunc gf args).run Tryz.prog w= .ok (.enter gf args) w)
  (hseq: ∀ (X:Nat→Prop) (B:Nat),(∀ k,X k→w.heap.size≤k∧k<B)→Lh 99 gf lb (fun u:U256=> #[Value.int .i64 ((u.1:Nat):Int)]) (aT X (fun k=>B≤k) v dF) (fun ys=>ys.map (·.1)=us) N B w)
  (hF: ∀ f ∈ bK (jI V us),gJ (jI V us) f):
  CallsIn Fence.wide 100 Tryz.prog 110 #[.pointer (some ⟨v,0,none⟩),.func (.func gf) #[] lb] w fun e w'=>e= .returned (.tuple #[])∧ ∃ C1 L1,bZ w w' v Cv Lv C1 L1 (oD V us):=by
 have Hc:=ah (Lr w v Cv Lv V h om);have hcl:=BI V.C h.kE om;have HV:Hid (jI V us=fJ (kU V (minus (aJ V.C) us) 4)):=rfl;have HV2:Hid (oD V us=fJ (sF (jI V us))):=rfl;have H:=ah h;clear h;generalize aJ V.C=k at*;refine callsIn_of_wp_marks Tryz.func110 rfl trivial ?_ rfl;simp only [Tryz.ntmps110,iR,iQ,vk,Nat.reduceAdd,Nat.reduceSub,A8,Ba,Bc,Bd,ql,sO]
 gi_wp2_with fail
 refine ⟨trivial,(eY.2 Hc).mono ?_⟩;rintro e w1 ⟨rfl,hb1⟩;have E1:=((Env.start H).later hb1).lay (.cells (cv k).toArray 123);have HB0:Hid (aC w (w1.alloc (.cells (cv k).toArray 123))):=hb1.alloc hb1.size _;have hw1:=hb1.size;have E1:=ah E1;clear Hc hb1
 gi_wp2_with fail
 have hsz:(w1.alloc (.cells (cv k).toArray 123)).heap.size=w1.heap.size+1:=sm;generalize w1.alloc (.cells (cv k).toArray 123)=W1 at*;refine QF om (gf:=gf) (lb:=lb) rfl eg (hseq (fun k=>k=w1.heap.size) (W1.heap.size+2) (by rintro k rfl;exact ⟨hw1,om⟩))
  (fun A B C h k=>aT.trans (R:=dF) (fun _ _ _ a b=>sQ a b) h k) (fun W o o' hl hc=>aT.turn (R:=dF) (fun _=>rfl) W _ o o' hl hc om) HB0 (fun _=>rfl)
  (fun pre W=>Env w W v Cv Lv Cv Lv V [(w1.heap.size,.cells (cv (minus k (Ad pre))).toArray 123 (0,0))])
  (fun _ _ _ _ hs hg hr=>Env.pO hs om (by simp [Obj.isCells]) hg hr)
  E1
  (fun x a' _=>a'={ tmps:= #[.pointer (some ⟨v,0,none⟩),.func (.func gf) #[] lb,undef,undef,.pointer (some ⟨w1.heap.size,0,none⟩),.int .i64 ((x.1:Nat):Int),.pointer (some ⟨v,0,none⟩),.agg (cv k).toArray,.func (.func gf) #[] lb,.int .i64 ((x.1:Nat):Int),undef,undef,undef,undef,undef,undef,undef,undef,undef,undef,undef,undef,undef,undef,undef,undef,undef,undef],defers:=[] })
  (fun _ _ _ _ _ _ hs _ _=>hs) ?assign ?body ?done
 case assign=>
  rintro l pre x W' K hi hK
  gi_wp2
  exact hK _ _ (KeepsFrom.refl _ _) (aT.below (R:=dF) (fun _=>rfl) (bG _ _)) hi rfl
 case body=>
  rintro l pre ⟨x,hx⟩ a' W hl _ hE rfl hpl;have hml:(minus k (Ad pre)).length=256:=by rw [Xv];exact hcl
  have hxi:(x:Int)<256:=om;have hms:minus k (Ad (pre++[⟨x,hx⟩]))=G9 (minus k (Ad pre)) x:=by rw [akY,aqo]
  generalize minus k (Ad pre)=kk at*;have c1:W.cell? ⟨w1.heap.size,x,none⟩=some (.int .u8 (aI kk x:Nat)):=by
   rw [aG hE.o0,bW,uO _ _ om]
  have f1:=eG hE.o0;have hbl:=tV kk x;have hwr:IntKind.u8.wrap (((aI kk x:Nat):Int) - 1)=(((aI kk x+255)%256:Nat):Int):=by
   rw [adT];omega
  have E3:=hE.put sm (Kept.only _ w1.heap.size x (.int .u8 (((aI kk x+255)%256:Nat):Int))) (heap_setCell_same _ _ _ _ _ _ _ hE.o0);have hset:(cv kk).toArray.setIfInBounds x (.int .u8 (((aI kk x+255)%256:Nat):Int))=(cv (G9 kk x)).toArray:=by
   rw [Af,G9,Ls kk x _ (Zg _ om)]
  rw [hset,← hms] at E3;have K3:aT (fun k=>k=w1.heap.size) (fun k=>W1.heap.size+2≤k) v dF W (W.setCell ⟨w1.heap.size,x,none⟩ (.int .u8 (((aI kk x+255)%256:Nat):Int))):=
   aT.own hE.at' (Kept.only _ _ _ _) (by rintro k rfl;exact ⟨rfl,hE.n0,_,hE.o0,rfl⟩) rfl
  have HE:=ah E3;have K3:=ah K3;clear E3 hE hset hms;generalize aI kk x=bb at*;generalize (bb+255)%256=b2 at*;clear hsz
  gi_wp2
  first
   | exact ⟨(KeepsOthers.setCell _ _ _).from _,uh K3,uh HE⟩
   | exact ⟨(KeepsOthers.setCell _ _ _).from _,uh HE⟩
 case done=>
  rintro D ys W hD hS hE hK;have hS':Ad ys=us:=hS;rw [hS'] at hE;have hml:(minus k us).length=256:=by rw [Xv];exact hcl
  have l1:=fD hE.o0 (n:=256) (by rw [bg,hml]);have l2:=fG hE.o0 (n:=256) (by rw [bg,hml]);have hDw:w.heap.size≤D:=om;have F1:=ah ((hE.sub (cs:=[]) sm).beside hK hDw rfl);have Hp:=ah (Uk W v Cv Lv V hE.at' (minus k us) hml om om);have IL:=XU V (minus k us) om;have Aw:=Oc V (minus k us) 4;have abv:=yD (kU V (minus k us) 4);have hfc:(fJ (kU V (minus k us) 4)).C.length=V.C.length:=by rw [zK];exact IL
  rw [← uh HV] at abv hfc;have HV1:=HV;clear hE hK hseq E1;generalize kU V (minus k us) 4=V2 at*;generalize minus k us=k2 at*
  gi_wp2_with fail
  refine ⟨trivial,(eY.2 Hp).mono ?_⟩;rintro e W2 ⟨rfl,C2,L2,hS2⟩;have F2:=ah (F1.fQ hS2);clear hS2 F1 Hp l1 l2
  gi_wp2_with fail
  refine ⟨trivial,(eY.2 (zL W2 v C2 L2 V2 F2.at' om)).mono ?_⟩;rintro e W3 ⟨rfl,C3,L3,hS3⟩;rw [← uh HV1] at hS3;have F3:=ah (F2.fQ hS3);clear hS3 F2;have hlm:=Xi (aJ (jI V us).C) (bK (jI V us)) (jI V us);have hfl:(bK (jI V us)).length≤5:=by
   unfold bK zZ
   have:=zU (aY (cl (jI V us).C 5))
   simp only [iQ,tH,xu];omega
  have apl:(sF (jI V us)).L.length≤700000000:=by unfold sF;omega
  generalize jI V us=V3 at*
  gi_wp2_with fail
  refine ⟨trivial,(eY.2 (eY.1 (aiv W3 v C3 L3 V3 F3.at' om om om hF))).mono ?_⟩;rintro e W4 ⟨rfl,C4,L4,hS4⟩;have F4:=ah (F3.fQ hS4);clear hS4 F3
  gi_wp2_with fail
  refine ⟨trivial,(eY.2 (zL W4 v C4 L4 (sF V3) F4.at' om)).mono ?_⟩;rintro e W5 ⟨rfl,C5,L5,hS5⟩;have F5:=F4.fQ hS5;have hK5:=F5.o0
  gi_wp2
  refine ⟨sm,.inl ⟨_,_,rfl,run_takeDeferred hK5,?_⟩⟩;have hg:=grownBy_putObj' W5 D (.deferred none);have hk:Kept (fun k=>k=D) W5 (W5.putObj D (.deferred none)):=⟨hg.os,hg.tape,hg.output,hg.size,fun k hk hs=>hg.block k hk (fun e=>hs (by injection e))⟩;refine ⟨_,CJ rfl _ _ _,rfl,C5,L5,?_⟩;rw [uh HV2];exact F5.step.own hk (by rintro k rfl;exact ⟨hDw,F5.n0⟩)
theorem apV (v:Nat) (V:aB) (h5:5<V.C.length) (hC:V.C.length≤256) (hL:V.L.length≤600000000) (ns:List Nat) (hns: ∀ m ∈ ns,m<65536∧m%32768<256) (hnl:ns.length≤100) (hF: ∀ f ∈ bK (jI V (dL ns)),gJ (jI V (dL ns)) f) (W:World) (C1 L1:Value) (bx bs:Nat)
  (hV:aN W v C1 L1 V) (hbx:W.heap[bx]? = some (.cells #[.slice (some ⟨bs,0,none⟩) ns.length ns.length] 260 (0,0))) (hbs:W.heap[bs]? = some (.cells (tv ns).toArray 167 (0,0))) (hf: ¬ eX v C1 L1 bs):
  Calls Tryz.prog 110 #[.pointer (some ⟨v,0,none⟩),.func (.func 179) #[] #[.pointer (some ⟨bx,0,none⟩)]] W fun e w'=>e= .returned (.tuple #[])∧ ∃ C2 L2,bZ W w' v C1 L1 C2 L2 (oD V (dL ns)):=
 eY.1 (ah5 W v C1 L1 V hV h5 hC hL 179 #[.pointer (some ⟨bx,0,none⟩)] (dL ns) ns.length (enters_of Tryz.func179 kr rfl)
  (fun X B hX=>SeqStopsK.all (anM 99 om X (fun k=>B≤k) dF v bx bs ns.length ns hns hnl V C1 L1 W hV hbx hbs (fun hx=>by have:=(hX _ hx).1;have:=aO hbs;omega) hf)) hF)
end
section
attribute [local go_sem ↓] dw fP fZ kS mP mV jJ kJ jY jU lD lH kQ ku kT mQ mW lZ ny jG qc qP qQ qF
attribute [local go_sem] dK fO fV gK gy aV kX mG mM mJ mF gI jK kH jX kZ kW iJ jW lq lC lu kF jc jd lY l7 kG kY mO nI lT mD nH qh qM qO qN qL
attribute [local go_sem] pW pV
def Nh (v:Nat) (V V':aB) (ns:List Nat):Prop:=
 ∀ W C1 L1 bx bs,aN W v C1 L1 V→W.heap[bx]? = some (.cells #[.slice (some ⟨bs,0,none⟩) ns.length ns.length] 260 (0,0))→W.heap[bs]? = some (.cells (tv ns).toArray 167 (0,0))→ ¬ eX v C1 L1 bs→
  Calls Tryz.prog 110 #[.pointer (some ⟨v,0,none⟩),.func (.func 179) #[] #[.pointer (some ⟨bx,0,none⟩)]] W fun e w'=>e= .returned (.tuple #[])∧ ∃ C2 L2,bZ W w' v C1 L1 C2 L2 V'
def rC (V:aB) (data:aj):aB:=fJ (bT (wR V (dG (aJ V.C) 1)) ((dG (aJ V.C) 1).getD 0 0) data)
def uz (V:aB) (p:rV) (data:aj):aB:=fJ (Ce (rC V data) (p.second%32768) p.oM ((dG (aJ V.C) 1).getD 0 0+32768))
theorem Ub (c:List UInt8) (want:Nat): ∀ k,∀ n ∈ oG c want k,n<k
 | 0,n,hn=>by simp [oG] at hn
 | k+1,n,hn=>by
  rw [oG] at hn
  split at hn
  ·have:=Ub c want k n hn;omega
  ·split at hn
   ·rcases gq.1 hn with h | h
    ·have:=Ub c want k n h;omega
    ·rw [jw.1 h];omega
   ·have:=Ub c want k n hn;omega
theorem Xj (c:List UInt8) (want:Nat): ∀ n ∈ dG c want,n<256:=Ub c want 256
theorem ahW {F:List Nat} (hF:0<F.length) (h: ∀ n ∈ F,n<256):uo F<256:=by
 unfold uo;rw [aK,bI om];exact h _ (oP _)
theorem afJ (V:aB) (F:List Nat) (h5:5≤V.C.length):(wR V F).C.length=V.C.length:=by
 unfold wR;simp only [kU,yN,TQ V F om];omega
theorem afK (V:aB) (F:List Nat):(wR V F).L.length≤V.L.length+11:=by
 unfold wR;have h1:=Oc (dQ V F) (fU (aJ (dQ V F).C) F) 4;have h2:=Xd V F;omega
theorem Xb {w:World} {g cap:Nat} {F:List Nat} {base:Nat} (hx:w.ownsRow base 3 1 (.slice (some ⟨g,0,none⟩) F.length cap) F.length (iv F)) (k:Nat) (hk:k<F.length):w.cell? ⟨g,k,none⟩=some (.int .i64 ((F.getD k 0:Nat):Int)):=by
 rw [hx.cellAt k om];unfold iv;rw [jD,aK,bI hk];rfl
theorem Ci {w:World} {b1 b2:Nat} {e:TypeId} {size:Nat} {v:Value} {n:Nat} {xs:List Value} (h:w.ownsRow b1 e size v n xs) (hb:b2≤b1):w.ownsRow b2 e size v n xs:=by
 obtain ⟨h1,h2⟩:=h;refine ⟨h1,?_⟩;rcases h2 with h2 | ⟨g,cap,cur,rfl,hg,r⟩
 ·exact aA h2
 ·exact ay ⟨g,cap,cur,rfl,jZ hb hg,r⟩
def afk (parts:Array (Nat × Value)):Sem Value:=Instr.buildSlice 260 1 parts
theorem am0 (parts:Array (Nat × Value)):Instr.buildSlice 260 1 parts=afk parts:=rfl
theorem asW {w:World} {n:Nat}:(afk #[(0,.int .u16 (n:Nat))]).run Tryz.prog w= .ok (.slice (some ⟨w.heap.size,0,none⟩) 1 1) (w.alloc (.cells (tv [n]).toArray 167)):=
 Ux w 260 167 1 (.int .u16 0) (.int .u16 (n:Nat)) Tryz.underlying260 kr om om (by rfl)
attribute [local go_sem ↓] am0
attribute [local go_sem] asW
theorem avd (w:World) (v:Nat) (Cv Lv:Value) (V V':aB) (h:aN w v Cv Lv V) (h5:5<V.C.length) (hC:V.C.length≤256) (hL:V.L.length≤500000000) (p:rV) (hps:p.second<65536) (hpc:p.second%32768<V.C.length) (hpi:p.oM<32) (data:aj) (hd:data.length=64)
  (JU:0<(dG (aJ V.C) 1).length→Nh v (uz V p data) V' [p.block]):
  Calls Tryz.prog 107 #[.pointer (some ⟨v,0,none⟩),.agg (iP p).toArray,.agg (cv data).toArray] w fun e w'=>
   if 0<(dG (aJ V.C) 1).length then e= .returned (.int .i64 0)∧ ∃ C1 L1,bZ w w' v Cv Lv C1 L1 V' else e= .returned (.int .i64 5)∧aC w w':=by
 have E0:=((Env.start h).lay (.cells (iP p).toArray 171)).lay (.cells (cv data).toArray 38);simp only [jB] at E0;have Hf:=ah (Xl _ v Cv Lv V E0.at' om 1 om);have HB:Hid (aC w ((w.alloc (.cells (iP p).toArray 171)).alloc (.cells (cv data).toArray 38))):=((bG _ w).alloc (aP _) _).alloc sm _;have IE:=Xj (aJ V.C) 1;have SV:=(NY (aJ V.C) 1 256).1;have H1:Hid (rC V data=fJ (bT (wR V (dG (aJ V.C) 1)) ((dG (aJ V.C) 1).getD 0 0) data)):=rfl;have H2:Hid (uz V p data=fJ (Ce (rC V data) (p.second%32768) p.oM ((dG (aJ V.C) 1).getD 0 0+32768))):=rfl;have E0:=ah E0;change (dG (aJ V.C) 1).length≤1 at SV;generalize dG (aJ V.C) 1=F at*
 by_cases hF:0<F.length
 ·simp only [au hF];have hlt:=ahW hF IE;have hF1:F.length=1:=om;have JU:=JU hF;have hb0:F.getD 0 0<256:=by rw [aK,bI hF];exact IE _ (oP _)
  have hcC:=afJ V F om;have hcL:=afK V F;have HC:Hid (∀ W C1 L1 x,aN W v C1 L1 V→W.ownsRow 0 3 1 x F.length (iv F)→_):=fun W C1 L1 x hW hx=>afM W v C1 L1 V hW F hF om hlt IE x hx om om om;generalize wR V F=V1 at*;generalize hbb:F.getD 0 0=b at*;have TK:=yN V1 b data;have hpL:=tZ V1 b data;have HP1:Hid (∀ W C1 L1,aN W v C1 L1 V1→_):=fun W C1 L1 hW=>FK W v C1 L1 V1 hW b om data hd om om;generalize bT V1 b data=V2 at*;have hf2:=yD V2;have NP:(fJ V2).C.length=V2.C.length:=by rw [zK]
  rw [← uh H1] at hf2 NP;have HF2:Hid (∀ W C1 L1,aN W v C1 L1 V2→_):=fun W C1 L1 hW=>zL W v C1 L1 V2 hW om;rw [← uh H1] at HF2;generalize rC V data=V3 at*;have HN:Hid (∀ W C1 L1,aN W v C1 L1 V3→_):=fun W C1 L1 hW=>ajC W v C1 L1 V3 hW (p.second%32768) p.oM (b+32768) om hpi om om om;have hn4:=tZ V3 (p.second%32768) (bytesOf ((numsOf (cl V3.C (p.second%32768))).set p.oM (b+32768)));change (Ce V3 (p.second%32768) p.oM (b+32768)).L.length≤_ at hn4;generalize hV4:Ce V3 (p.second%32768) p.oM (b+32768)=V4 at*;have HF4:Hid (∀ W C1 L1,aN W v C1 L1 V4→_):=fun W C1 L1 hW=>zL W v C1 L1 V4 hW om;rw [← uh H2] at HF4;generalize uz V p data=V5 at*;have HO:Hid (∀ W,_):=fun W=>XK b om W;have RG:Hid (∀ W,_):=fun W=>BH p.second hps W;have RH:=ah JU;clear JU h H1 H2 hV4 IE hlt;generalize p.second%32768=c2 at*
  go_enter Tryz.func107,Tryz.ntmps107
  go_wp2_with fail
  refine Hf.mono ?_;rintro e w1 ⟨x,rfl,hx,hb1⟩;obtain ⟨g,cap,rfl,_⟩:=gB hx hF;have E1:=ah (E0.later hb1);have cx:w1.cell? ⟨g,0,none⟩=some (.int .i64 (b:Nat)):=by rw [← hbb];exact Xb hx 0 hF
  have Hx:=ah (Ci hx (nN _));clear hx hb1 Hf E0 HB;rw [hF1] at HC Hx ⊢
  go_wp2_with fail
  refine (uh HC w1 _ _ _ E1.at' Hx).mono ?_;rintro e w2 ⟨rfl,C2,L2,hS2⟩;have E2:=E1.fQ hS2;have l1:=gZ E2.drew.o0 hd;have l2:=gY E2.drew.o0 hd;have E2:=ah E2;clear hS2 E1 Hx cx HC;go_wp2
  go_region_law (
   go_simp;go_at_call 70;refine (uh HP1 _ _ _ E2.drew.at').mono ?_;rintro e w3 ⟨rfl,C3,L3,hS3⟩;have E3:=ah (E2.drew.fQ hS3);clear hS3)
  go_wp2_with fail
  refine (uh HF2 _ _ _ E3.at').mono ?_;rintro e w4 ⟨rfl,C4,L4,hS4⟩;have E4:=E3.fQ hS4;have d1:w4.drew.cell? ⟨w.heap.size,3,none⟩=some (.int .u16 (p.second:Nat)):=(aG E4.drew.o1 3).trans rfl;have d2:w4.drew.cell? ⟨w.heap.size,2,none⟩=some (.int .i64 (p.oM:Nat)):=(aG E4.drew.o1 2).trans rfl;have E4:=ah E4;clear hS4 E3 E2 HP1 HF2 l1 l2;go_wp2
  go_region_law (first
   | (
    go_simp;go_at_call 108;refine (uh RG _).mono ?_;rintro e w5 ⟨rfl,rfl⟩)
   | (
    go_simp;go_at_call 161;refine (uh HO _).mono ?_;rintro e w5 ⟨rfl,rfl⟩)
   | (
    go_simp;go_at_call 164;refine (uh HN _ _ _ E4.drew.at').mono ?_;rintro e w5 ⟨rfl,C5,L5,hS5⟩;have E5:=ah (E4.drew.fQ hS5);clear hS5))
  all_goals
   clear E4 d1 d2 HN HO RG
   go_wp2_with fail
   refine (uh HF4 _ _ _ E5.at').mono ?_;rintro e w6 ⟨rfl,C6,L6,hS6⟩;have E6:=E5.fQ hS6;have d3:w6.cell? ⟨w.heap.size,4,none⟩=some (.int .u16 (p.block:Nat)):=(aG E6.o1 4).trans rfl;have E7:=E6.lay (.cells (tv [p.block]).toArray 167);have Hm:=ah (afQ (w6.alloc (.cells (tv [p.block]).toArray 167)) (some ⟨w6.heap.size,0,none⟩) 1 1);have E8:=E7.lay (.cells #[.slice (some ⟨w6.heap.size,0,none⟩) 1 1] 260);simp only [jB] at E8;have Hg:=ah (uh RH _ C6 L6 (w6.heap.size+1) w6.heap.size E8.at' E8.o0 E8.o1 (E8.qg (w6.heap.size,.cells (tv [p.block]).toArray 167 (0,0)) sm).2.2);have E8:=ah E8;clear hS6 E6 E7 E5 HF4 RH
   go_wp2_with fail
   refine Hm.mono ?_;rintro e w8 ⟨rfl,rfl⟩;simp only [jB]
   go_wp2_with fail
   refine Hg.mono ?_;rintro e w9 ⟨rfl,C9,L9,hS9⟩;have E9:=ah (E8.fQ hS9).step;go_wp2;go_ret;exact ⟨rfl,C9,L9,uh E9⟩
 ·simp only [ak hF];have hF0:F.length=0:=om
  go_enter Tryz.func107,Tryz.ntmps107
  go_wp2_with fail
  refine Hf.mono ?_;rintro e w1 ⟨x,rfl,hx,hb1⟩;obtain ⟨g,cap,rfl⟩:=iq hx;rw [hF0];have HB1:=ah (HB.trans (hb1.mono HB.size));go_wp2;go_ret;exact ⟨rfl,uh HB1⟩
end
end Go.Proofs.YtknjjjenklfeoaaGreatDoor
