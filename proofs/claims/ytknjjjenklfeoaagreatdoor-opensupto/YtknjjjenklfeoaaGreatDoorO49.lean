import Derived.Test.YtknjjjenklfeoaaGreatDoorO48
set_option maxHeartbeats 8000000
set_option maxRecDepth 100000
set_option linter.all false
namespace Go.Proofs.YtknjjjenklfeoaaGreatDoor
section
open Go.RowKit Go.Shelf
attribute [local go_sem ↓] dw fP fZ kS mP mV jJ kJ jY jU lD lH kQ ku kT mQ mW lZ ny jG qc qP qQ qF
attribute [local go_sem] dK fO fV gK gy aV kX mG mM mJ mF gI jK kH jX kZ kW iJ jW lq lC lu kF jc jd lY l7 kG kY mO nI lT mD nH qh qM qO qN qL
attribute [local go_sem] pW pV Oper.semAt_some
attribute [local go_sem ↓] VO
attribute [local go_sem] Yd
theorem anv (w:World) (v:Nat) (Cv Lv:Value) (V:aB) (h:aN w v Cv Lv V) (hG:oQ w) (h5:5<V.C.length) (hC:V.C.length≤256) (hF: ∀ f ∈ bK V,gJ V f):
  CallsIn Fence.wide 100 Tryz.prog 96 #[.pointer (some ⟨v,0,none⟩)] w fun e w'=>((FC V.C (aJ V.C) (bK V)= -1∧e= .returned .nilIface)∨ ∃ (n:Nat) (x:Value),FC V.C (aJ V.C) (bK V)=(n:Int)∧isIface x∧e= .returned (kD n x))∧aC w w':=by
 have hcl:=BI V.C h.kE om;have H:=ah h;have HG:=ah hG;have hvl:v<w.heap.size:=h.lt;have hfl: ∀ j,eX v Cv Lv j→j<w.heap.size:=h.qG;clear h hG;refine callsIn_of_wp_marks Tryz.func96 rfl trivial ?_ rfl;simp only [Tryz.ntmps96,iR,iQ,vk,Nat.reduceAdd,Nat.reduceSub,A8,Ba,Bc,Bd,ql,sO];have U0:aC w ((w.alloc (.cells #[.pointer (some ⟨v,0,none⟩)] 82)).alloc (.cells #[.nilIface] 98)):=((bG _ w).alloc (aP _) _).alloc sm _;have L0:=ah (dU.two w (.cells #[.pointer (some ⟨v,0,none⟩)] 82) (.cells #[.nilIface] 98));have Hc:=ah (Lr _ v Cv Lv V (H.below U0) om);have Hm0:=ah (fun W=>SN W v);clear U0;generalize hk:aJ V.C=k at*
 gi_wp2_with fail
 refine ⟨trivial,(eY.2 Hc).mono ?_⟩;rintro e w1 ⟨rfl,hb1⟩;have L1:=L0.later hb1;have hw1:w.heap.size+1<w1.heap.size:=aO L1.o1;have M2:xB w (w1.alloc (.cells (cv k).toArray 123)) v w1.heap.size k .nilIface:=
  ⟨(L1.alloc _).below,(L1.alloc _).o0,(L1.alloc _).o1,aW _ _,om⟩
 have cv0:(w1.alloc (.cells (cv k).toArray 123)).cell? ⟨w.heap.size,0,none⟩=some (.pointer (some ⟨v,0,none⟩)):=(aG M2.bv 0).trans rfl;have M2:=ah M2;have hs2:w1.heap.size<(w1.alloc (.cells (cv k).toArray 123)).heap.size:=sm;clear Hc hb1 L1 L0
 gi_wp2_with fail
 generalize w1.alloc (.cells (cv k).toArray 123)=wr at*;generalize w1.heap.size=bc at*;refine ⟨trivial,(eY.2 (uh Hm0 wr)).mono ?_⟩;rintro e W3 ⟨rfl,hW3⟩;have hs3:wr.heap.size+1≤W3.heap.size:=by rw [hW3];simp
 have hb3:aC wr W3:=by rw [hW3];exact fC
 have hbx:W3.heap[wr.heap.size]? = some (.cells #[.pointer (some ⟨v,0,none⟩)] 82 (0,0)):=by rw [hW3];exact aW _ _
 have M3:=M2.later hb3;have hV3:=H.below M3.below;have wS:=agF (Pc:=gJ V) 99 om (fun j=>j=w.heap.size+1) v wr.heap.size (W3.heap.size+2) V Cv Lv W3 hV3 hbx om (fun hf=>by have:=hfl _ hf;omega) (fun j hj=>by rw [hj];omega) h5 hF;have M3:=ah M3;clear M2 hV3 hbx hb3 hW3 Hm0 cv0
 gi_wp2_with fail
 refine acI om (gf:=173) (lb:= #[.pointer (some ⟨wr.heap.size,0,none⟩)]) rfl (enters_of Tryz.func173 kr rfl) wS
  (fun A B C h k=>aT.trans (R:=bH) (fun _ _ _ a b=>a.trans b) h k) (fun W o o' hl hc=>aT.turn bH.refl W _ o o' hl hc om) (bG _ _) (fun _=>rfl)
  (fun pre W'=>xB w W' v bc k .nilIface∧(AY V.C (lG pre)).find? (rM k)=none)
  (fun pre W'=> ∃ sp x,(AY V.C (lG pre)).find? (rM k)=some sp∧isIface x∧xB w W' v bc k (kD sp.table x))
  (fun _ _ _ _ hs hg hr=>⟨xB.pO hs.1 om hg hr,hs.2⟩)
  (fun _ _ _ _ hs hg hr=>by obtain ⟨sp,x,h1,h2,h3⟩:=hs;exact ⟨sp,x,h1,h2,xB.pO h3 om hg hr⟩)
  ⟨uh M3,rfl⟩
  (fun x a' _=>a'={ tmps:= #[.pointer (some ⟨v,0,none⟩),.pointer (some ⟨w.heap.size,0,none⟩),.pointer (some ⟨w.heap.size+1,0,none⟩),.pointer (some ⟨bc,0,none⟩),.int .i64 ((x.1:Nat):Int),undef,.pointer (some ⟨v,0,none⟩),.agg (cv k).toArray,.pointer (some ⟨v,0,none⟩),.func (.func 173) #[] #[.pointer (some ⟨wr.heap.size,0,none⟩)],.int .i64 ((x.1:Nat):Int),undef,undef,undef,undef,undef,undef,undef,undef,undef,undef,undef,undef,undef,undef,undef,undef,undef,undef,undef,undef],defers:=[] })
  (fun _ _ _ _ _ _ hs _ _=>hs)
  ?assign ?body ?done ?stop
 case assign=>
  rintro l pre x W' K hi hK
  gi_wp2
  exact hK _ _ (KeepsFrom.refl _ _) (aT.below bH.refl (bG _ _)) hi rfl
 case done=>
  rintro D ys W' hD hS ⟨hM,hf⟩ hK;have hS':lG ys=bK V:=hS;rw [hS'] at hf;have hmk:FC V.C k (bK V)= -1:=by unfold FC;show JH ((AY V.C (bK V)).find? (rM k))= -1;rw [hf];rfl
  have wJ:=ah hmk;have r1:W'.cell? ⟨w.heap.size+1,0,none⟩=some .nilIface:=(aG hM.br 0).trans rfl;have f2:=eG hM.br;have M5:=hM.put .nilIface;have hK5:(W'.setCell ⟨w.heap.size+1,0,none⟩ .nilIface).heap[D]? = some (.deferred (some [])):=(Kept.only W' (w.heap.size+1) 0 .nilIface).aF om hK;have br5:=M5.br;have HB:=ah (Sl (D:=D) M5.below om);have ZB:=ah br5;clear hM hS hS' hf wS M3 hmk M5 br5
  gi_wp2
  refine ⟨sm,.inl ⟨_,_,rfl,run_takeDeferred hK5,?_⟩⟩;have NJ:((W'.setCell ⟨w.heap.size+1,0,none⟩ .nilIface).putObj D (.deferred none)).heap[w.heap.size+1]? = some (.cells #[.nilIface] 98 (0,0)):=(World.putObj_heap_other om).trans ZB;refine ⟨_,qK rfl ⟨w.heap.size+1,0,none⟩ rfl (Xf NJ),aA ⟨?_,rfl⟩,uh HB⟩;exact uh wJ
 case stop=>
  rintro D pre W' hD hSp ⟨sp,x,h1,h2,hM⟩ hK;have hf:=agB (aur (C:=V.C) (show lG pre <+: bK V from hSp)) h1;have hmk:FC V.C k (bK V)=(sp.table:Int):=by unfold FC;show JH ((AY V.C (bK V)).find? (rM k))=_;rw [hf];rfl
  have wJ:=ah hmk;have HB:=ah (Sl (D:=D) hM.below om);have hbr:=hM.br;clear wS M3 hf h1 hmk hM
  gi_wp2
  refine ⟨sm,.inl ⟨_,_,rfl,run_takeDeferred hK,?_⟩⟩;have NJ:(W'.putObj D (.deferred none)).heap[w.heap.size+1]? = some (.cells #[kD sp.table x] 98 (0,0)):=(World.putObj_heap_other om).trans hbr;refine ⟨_,qK rfl ⟨w.heap.size+1,0,none⟩ rfl (Xf NJ),ay ⟨sp.table,x,?_,h2,rfl⟩,uh HB⟩;exact uh wJ
 case body=>
  rintro l pre x a' W hl ⟨r,hr⟩ ⟨hM,hf0⟩ rfl hlen;obtain ⟨x,hx⟩:=x;have cv0:W.cell? ⟨w.heap.size,0,none⟩=some (.pointer (some ⟨v,0,none⟩)):=(aG hM.bv 0).trans rfl;have Hm:=ah (UL W v x);have M1:=ah hM;have ahh:=aO hM.bk;have hlo:=hM.lo;clear hM wS;dsimp only
  gi_wp2_with fail
  refine ⟨trivial,(CallsIn.inRound l (eY.2 Hm)).mono ?_⟩;rintro e wc ⟨rfl,hwc⟩;have hs5:W.heap.size+2≤wc.heap.size:=by rw [hwc];simp
  have hb5:aC W wc:=by rw [hwc];exact (fC).alloc sm _
  have hb1:wc.heap[W.heap.size]? = some (.cells #[.pointer (some ⟨v,0,none⟩)] 82 (0,0)):=by rw [hwc];exact (jE _ _ _ sm).trans (aW _ _)
  have hb2:wc.heap[W.heap.size+1]? = some (.cells #[.int .i64 (x:Nat)] 3 (0,0)):=by rw [hwc];have:=aW (W.alloc (.cells #[.pointer (some ⟨v,0,none⟩)] 82)) (.cells #[.int .i64 (x:Nat)] 3);rwa [jB] at this
  have M5:=M1.later hb5;have hV5:=H.below M5.below;have xJ:=H.below M1.below;have hr5:wc.heap[l]? = some (.loop r):=(hb5.block _ (aO hr)).trans hr;have Ec:=YN 97 om (fun j=>j=w.heap.size+1) v W.heap.size (W.heap.size+1) x (wc.heap.size+1) V Cv Lv wc hV5 hb1 hb2 om om (fun hf=>by have:=xJ.qG _ hf;omega) (fun hf=>by have:=xJ.qG _ hf;omega) (fun k hk=>by rw [hk];omega) hx;have Tf:KeepsFrom W3.heap.size W wc:=⟨hb5.size,fun k o _ hk _=>(hb5.block k (aO hk)).trans hk⟩;have hK5:aT (fun j=>j=w.heap.size+1) (fun k=>W3.heap.size+2≤k) v bH W wc:=aT.below bH.refl hb5;have hsn:AY V.C (lG (pre++[⟨x,hx⟩]))=AY V.C (lG pre)++jg V.C x 32 0:=by rw [YW,aus]
  have M5:=ah M5;clear M1 hV5 hb1 hb2 hwc Hm cv0 hr xJ
  gi_wp2_with fail
  refine asb (l₀:=l) (r₀:=r) hr5 om (gf:=174) (lb:= #[.pointer (some ⟨W.heap.size,0,none⟩),.pointer (some ⟨W.heap.size+1,0,none⟩)]) rfl (enters_of Tryz.func174 kr rfl) Ec
   (fun A B C h k=>aT.trans (R:=dF) (fun _ _ _ a b=>sQ a b) h k) (fun W o o' hl hc=>aT.turn (R:=dF) (fun _=>rfl) W _ o o' hl hc om) (bG _ _) (fun _=>rfl)
   (fun ip W'=>(xB w W' v bc k .nilIface∧(sZ ip).find? (rM k)=none)∧KeepsFrom W3.heap.size W W'∧aT (fun j=>j=w.heap.size+1) (fun k=>W3.heap.size+2≤k) v bH W W')
   (fun ip W'=>(∃ sp x,(sZ ip).find? (rM k)=some sp∧isIface x∧xB w W' v bc k (kD sp.table x))∧KeepsFrom W3.heap.size W W'∧aT (fun j=>j=w.heap.size+1) (fun k=>W3.heap.size+2≤k) v bH W W')
   (fun s A B row hs hg hr=>⟨⟨xB.pO hs.1.1 om hg hr,hs.1.2⟩,ownFrom_keepsFrom (β:=Unit) hb5.size () A B row hs.2.1 hg hr,Qy (R:=bH) bH.refl (fun _ _ _ a b=>a.trans b) (β:=Unit) hb5.size () A B row hs.2.2 hg hr⟩)
   (fun s A B row hs hg hr=>⟨by obtain ⟨sp,x,h1,h2,h3⟩:=hs.1;exact ⟨sp,x,h1,h2,xB.pO h3 om hg hr⟩,ownFrom_keepsFrom (β:=Unit) hb5.size () A B row hs.2.1 hg hr,Qy (R:=bH) bH.refl (fun _ _ _ a b=>a.trans b) (β:=Unit) hb5.size () A B row hs.2.2 hg hr⟩)
   ⟨⟨uh M5,rfl⟩,Tf,hK5⟩
   (fun y a' W'=> ∃ bx,W'.heap[bx]? = some (.cells #[.int .i64 ((y.table:Nat):Int),.int .i64 ((y.index:Nat):Int),.int .u16 ((y.number:Nat):Int)] 219 (0,0))∧a'={ tmps:= #[.pointer (some ⟨v,0,none⟩),.pointer (some ⟨w.heap.size,0,none⟩),.pointer (some ⟨w.heap.size+1,0,none⟩),.pointer (some ⟨bc,0,none⟩),.int .i64 ((x:Nat):Int),.pointer (some ⟨bx,0,none⟩),.pointer (some ⟨v,0,none⟩),.agg (cv k).toArray,.pointer (some ⟨v,0,none⟩),.func (.func 173) #[] #[.pointer (some ⟨wr.heap.size,0,none⟩)],.int .i64 ((x:Nat):Int),.pointer (some ⟨v,0,none⟩),.int .i64 ((x:Nat):Int),.func (.func 174) #[] #[.pointer (some ⟨W.heap.size,0,none⟩),.pointer (some ⟨W.heap.size+1,0,none⟩)],oh y,undef,undef,undef,undef,undef,undef,undef,undef,undef,undef,undef,undef,undef,undef,undef,undef],defers:=[] })
   (fun y a'' _ A' B' row hs hg hr=>by
    obtain ⟨bx2,h2,h3⟩:=hs;refine ⟨bx2,?_,h3⟩;rw [hg.block bx2 (aO h2) (fun e=>by
     obtain ⟨_,o,ho,hc⟩:=hr bx2 e.symm;rw [h2] at ho;injection ho with ho;subst ho;cases hc)]
    exact h2) ?assign2 ?body2 ?done2 ?stop2
  case assign2=>
   rintro l2 ip y W' K ⟨⟨g1,g4⟩,g2,g3⟩ hK;have hb:Below W'.heap.size W' (W'.alloc (.cells #[.int .i64 ((y.table:Nat):Int),.int .i64 ((y.index:Nat):Int),.int .u16 ((y.number:Nat):Int)] 219)):=fC;have G1:=ah (g1.later hb);have G2:=ah (g2.trans ((KeepsOthers.alloc W' (.cells #[.int .i64 ((y.table:Nat):Int),.int .i64 ((y.index:Nat):Int),.int .u16 ((y.number:Nat):Int)] 219)).from _));have G3:=ah (g3.trans (fun _ _ _ a b=>a.trans b) (aT.below bH.refl hb));have G4:=ah g4;clear g1 g2 g3 g4;unfold oh
   gi_wp2
   exact hK _ _ ((KeepsOthers.alloc _ _).from _) (aT.below (R:=dF) (fun _=>rfl) hb) ⟨⟨uh G1,uh G4⟩,uh G2,uh G3⟩ ⟨_,aW _ _,rfl⟩
  case done2=>
   rintro ip W' hS ⟨⟨g1,g4⟩,g2,g3⟩;have hS':sZ ip=jg V.C x 32 0:=by rw [hS];exact akJ V x hx
   rw [hS'] at g4;have hall:(AY V.C (lG (pre++[⟨x,hx⟩]))).find? (rM k)=none:=by rw [hsn,Rq,hf0,g4];rfl
   have G1:=ah g1;have G2:=ah g2;have G3:=ah g3;have G4:=ah hall;clear g1 g2 g3 g4 hall hsn hf0 hS hS'
   gi_wp2
   repeat (first | exact uh G1 | exact uh G2 | exact uh G3 | exact uh G4 | refine ⟨?_,?_⟩)
  case stop2=>
   rintro ip W' hSp ⟨⟨sp,e,g1,g5,g4⟩,g2,g3⟩;have hpre:sZ ip <+: jg V.C x 32 0:=by
    rw [← akJ V x hx];obtain ⟨rr,hrr⟩:=hSp;exact ⟨sZ rr,by rw [← hrr];simp [sZ]⟩
   have hall:(AY V.C (lG (pre++[⟨x,hx⟩]))).find? (rM k)=some sp:=by rw [hsn,Rq,hf0,agB hpre g1];rfl
   have G2:=ah g2;have G3:=ah g3;have G4:Hid (∃ sp x_1,(AY V.C (lG (pre++[⟨x,hx⟩]))).find? (rM k)=some sp∧isIface x_1∧xB w W' v bc k (kD sp.table x_1)):=⟨sp,e,hall,g5,g4⟩;clear g1 g2 g3 g4 g5 hall hsn hf0 hSp hpre
   gi_wp2
   repeat (first | exact uh G2 | exact uh G3 | exact uh G4 | refine ⟨?_,?_⟩)
  case body2=>
   rintro l2 ip y a' W' hl2 _ ⟨⟨g1,g4⟩,g2,g3⟩ ⟨bx,hbx,rfl⟩ hip;have hsb:(sZ (ip++[y])).find? (rM k)=if rM k (xY y) then some (xY y) else none:=by
    rw [ac6,Rq,g4,Option.none_or,ad6];cases rM k (xY y) <;> rfl
   have hmk:rM k (xY y)=(decide (32768≤y.number) && decide (aI k (y.number%32768)≠1)):=rfl;have hV':=H.below g1.below;have hn:=y.hn;have hc:=y.hc.2;have hci:((y.number%32768:Nat):Int)<256:=om;have c0:W'.cell? ⟨bx,0,none⟩=some (.int .i64 ((y.table:Nat):Int)):=(aG hbx 0).trans rfl;have c1:W'.cell? ⟨bx,2,none⟩=some (.int .u16 ((y.number:Nat):Int)):=(aG hbx 2).trans rfl;have c2:W'.cell? ⟨bc,y.number%32768,none⟩=some (.int .u8 ((aI k (y.number%32768):Nat):Int)):=by
    rw [aG g1.bk,bW,uO _ _ om]
   have ER:=ah (fun W=>BH y.number y.hn W);have wJ:=ah (fun W=>Xr y.number y.hn W);have htab:(xY y).table=y.table:=rfl;have c3:W'.cell? ⟨w.heap.size+1,0,none⟩=some .nilIface:=(aG g1.br 0).trans rfl;have f3:=eG g1.br;obtain ⟨t4,v4,g44⟩:=(HG.below g1.below).err 4 om;have hown: ∀ j,j=w.heap.size+1→j=w.heap.size+1∧ ¬ eX v Cv Lv j∧ ∃ o,W'.heap[j]? = some o∧o.isCells=true:=fun j e=>by
    subst e;exact ⟨rfl,fun hf=>by have:=H.qG _ hf;omega,_,g1.br,rfl⟩
   rw [hmk] at hsb;have G1:=ah g1;have G2:=ah g2;have G3:=ah g3;have GK:=ah (KeepsFrom.refl (B:=wc.heap.size) W');clear hmk g1 g2 g3 g4;generalize xY y=ty at*;generalize oh y=sv at*;generalize aI k (y.number%32768)=m at*;generalize y.number%32768=cc at*;generalize y.number=nn at*
   by_cases hk2:32768≤nn
   ·have dk:decide (32768≤nn)=true:=eH hk2;rw [dk] at wJ hsb
    by_cases hm1:m=1
    ·rw [gU (by simpa using hm1),tC,ak dc] at hsb;have VB:=ah hsb;have dm:(((m:Nat):Int) != 1)=false:=by rw [hm1];rfl
     clear hsb hown c3 f3 c0 g44
     gi_wp2_with fail
     refine ⟨trivial,(CallsIn.inRound l2 (eY.2 (uh wJ _))).mono ?_⟩;rintro e w5 ⟨rfl,rfl⟩
     gi_wp2_with fail
     refine ⟨trivial,(CallsIn.inRound l2 (eY.2 (uh ER _))).mono ?_⟩;rintro e w5 ⟨rfl,rfl⟩
     gi_wp2
     repeat (first | exact uh G1 | exact uh G2 | exact uh G3 | exact uh VB | exact KeepsFrom.refl _ _ | exact aT.below (R:=dF) (fun _=>rfl) (bG _ _) | refine ⟨?_,?_⟩)
    ·rw [eH (by simpa using hm1),tC,au rfl] at hsb;have dm:(((m:Nat):Int) != 1)=true:=by rw [nR];omega
     have M6:=G1.put (kD y.table (.iface t4 v4));rw [← htab] at M6;have hex: ∃ sp x,(sZ (ip++[y])).find? (rM k)=some sp∧isIface x∧xB w (W'.setCell ⟨w.heap.size+1,0,none⟩ (kD y.table (.iface t4 v4))) v bc k (kD sp.table x):=⟨ty,_,hsb,⟨_,_,rfl⟩,by rw [← htab];exact M6⟩;have Hex:=ah hex;have K3:aT (fun j=>j=w.heap.size+1) (fun k=>wc.heap.size+1≤k) v dF W' (W'.setCell ⟨w.heap.size+1,0,none⟩ (kD y.table (.iface t4 v4))):=aT.own hV' (Kept.only _ _ _ _) hown rfl;have K4:aT (fun j=>j=w.heap.size+1) (fun k=>W3.heap.size+2≤k) v bH W' (W'.setCell ⟨w.heap.size+1,0,none⟩ (kD y.table (.iface t4 v4))):=aT.own hV' (Kept.only _ _ _ _) hown (bH.refl _);have K5:=ah (G3.trans (fun _ _ _ a b=>a.trans b) K4);have hf:=ah ((KeepsOthers.setCell W' ⟨w.heap.size+1,0,none⟩ (kD y.table (.iface t4 v4))).from wc.heap.size)
     have hf2:=ah (G2.trans ((KeepsOthers.setCell W' ⟨w.heap.size+1,0,none⟩ (kD y.table (.iface t4 v4))).from W3.heap.size));have K3:=ah K3;clear hsb hown hex K4 M6
     gi_wp2_with fail
     refine ⟨trivial,(CallsIn.inRound l2 (eY.2 (uh wJ _))).mono ?_⟩;rintro e w5 ⟨rfl,rfl⟩
     gi_wp2_with fail
     refine ⟨trivial,(CallsIn.inRound l2 (eY.2 (uh ER _))).mono ?_⟩;rintro e w5 ⟨rfl,rfl⟩
     gi_wp2
     repeat (first | exact uh Hex | exact uh hf | exact uh hf2 | exact uh K3 | exact uh K5 | refine ⟨?_,?_⟩)
   ·have dk:decide (32768≤nn)=false:=gU hk2;rw [dk] at wJ hsb;rw [Jr,ak dc] at hsb;have VB:=ah hsb;clear hsb hown c3 f3 c0 g44
    gi_wp2_with fail
    refine ⟨trivial,(CallsIn.inRound l2 (eY.2 (uh wJ _))).mono ?_⟩;rintro e w5 ⟨rfl,rfl⟩
    gi_wp2
    refine ⟨trivial,?_⟩
    gi_wp2
    repeat (first | exact uh G1 | exact uh G2 | exact uh G3 | exact uh VB | exact KeepsFrom.refl _ _ | exact aT.below (R:=dF) (fun _=>rfl) (bG _ _) | refine ⟨?_,?_⟩)
end
section
open Go.RowKit Go.Shelf
def zM:List Nat:=List.replicate 256 0
def aku (a:Addr) (v:Value):Sem Unit:=storeVar 212 a v
theorem atV (a:Addr) (v:Value):storeVar 212 a v=aku a v:=rfl
theorem atf (M:List Nat):(rv M).length=M.length:=tH _
theorem ajW (T:Nat) (M:List Nat):(wC T M).length=M.length+1:=by simp [wC,atf]
theorem asJ (T:Nat) (M:List Nat): ∀ v ∈ wC T M,v.oneCell'=true:=by
 intro v hv;rcases dD.1 hv with rfl | hv
 ·rfl
 ·obtain ⟨x,_,rfl⟩:=gQ.1 hv;rfl
theorem as8 {w:World} {T T':Nat} {z M:List Nat} (hz:z.length=256) (hM:M.length=256):
  (aku ⟨w.heap.size,0,none⟩ (.agg (wC T M).toArray)).run Tryz.prog (w.alloc (.cells (wC T' z).toArray 212))= .ok () (w.alloc (.cells (wC T M).toArray 212)):=
 FY w 212 (wC T' z).toArray (wC T M).toArray (by simp only [iR,ajW,hM];kernel_rfl) (by simp [ajW,hz,hM]) (vg (asJ T M))
def aln:Sem Value:=zeroValue 212
theorem avo:zeroValue 212=aln:=rfl
theorem atd (w:World):aln.run Tryz.prog w= .ok (.agg (wC 0 zM).toArray) w:=
 (uI (P:=Tryz.prog) (t:=212) (v:= .agg (wC 0 zM).toArray) (n:=257) kr).1 w
def afa (parts:Array (Nat × Value)):Sem Value:=Instr.build 212 parts
theorem am4 (parts:Array (Nat × Value)):Instr.build 212 parts=afa parts:=rfl
theorem asV (T:Nat) (w:World):(afa #[(0,.int .i64 (T:Nat))]).run Tryz.prog w= .ok (.agg (wC T zM).toArray) w:=by
 have hz:=(uI (P:=Tryz.prog) (t:=212) (v:= .agg (wC 0 zM).toArray) (n:=257) kr).1;exact KF w 212 _ (.agg (wC 0 zM).toArray) #[(0,1),(1,256)] #[(0,.int .i64 (T:Nat))] _ Tryz.underlying212 hz (fun w=>kr) kr
theorem ala:zM.length=256:=by unfold zM;exact zy
theorem adq {R:aU} {n kind a:Nat} (h:IY R.told R.L.length n kind=true):tell R n kind a=(false,{ R with bad:=(a:Int) }):=by
 unfold tell;rw [au (show Dn R n kind=true from h)]
theorem adr {R:aU} {n kind a:Nat} (h:IY R.told R.L.length n kind=false):(tell R n kind a).1=true∧(tell R n kind a).2.told=R.told.set n kind:=by
 unfold tell;rw [ak (by rw [show Dn R n kind=false from h];decide)];exact ⟨rfl,rfl⟩
theorem aue {R:aU} {first:Nat} {s:mX} (h:Je R.told R.L.length first s.table s.index s.number=true):(qx R first s).1=false:=by
 unfold Je at h;unfold qx
 by_cases e:s.table=first
 ·rw [au e] at h ⊢
  by_cases e2:2≤s.index
  ·rw [au e2]
  ·rw [gU e2,EO] at h;rw [ak e2,adq h]
 ·rw [ak e] at h ⊢;rw [adq h]
theorem auf {R:aU} {first:Nat} {s:mX} (h:Je R.told R.L.length first s.table s.index s.number=false):(qx R first s).1=true∧(qx R first s).2.told=R.told.set (s.number%32768) (QO first s.table):=by
 unfold Je at h;unfold qx QO
 by_cases e:s.table=first
 ·rw [au e] at h ⊢;rw [Bj] at h;rw [ak (EL h.1),au e];exact adr h.2
 ·rw [ak e] at h ⊢;rw [ak e];exact adr h
theorem aoI {first:Nat} {a b:List mX} {R:aU} (h:a <+: b) (hf:(jH first a R).1=false):jH first b R=jH first a R:=by
 obtain ⟨r,rfl⟩:=h;rw [SS,ak (by rw [hf];decide)];exact KQ hf.symm rfl
theorem aoH {first:Nat} {a:List mX} {s:mX} {R:aU} (h:(jH first (a++[s]) R).1=true):(jH first a R).1=true∧(qx (jH first a R).2 first s).1=true:=by
 by_cases h1:(jH first a R).1=true
 ·rw [agT first a s R h1] at h;exact ⟨h1,h⟩
 ·rw [SS,ak h1] at h;cases h
def Small (M:List Nat):Prop:= ∀ i,M.getD i 0<256
theorem Small.set {M:List Nat} (h:Small M) (n:Nat) {kind:Nat} (hk:kind<256):Small (M.set n kind):=fun i=>by
 rw [aK,uf]
 by_cases e:n=i
 ·rw [au e];split
  ·exact hk
  ·decide
 ·rw [ak e,← aK];exact h i
theorem avk:Small zM:=fun i=>by
 unfold zM;rw [aK,qU]
 split <;> decide
structure um (w W:World) (v bs bi:Nat) (r:Value) (T:Nat) (M:List Nat) (n:Nat):Prop where
 below:aC w W
 bv:W.heap[w.heap.size]? = some (.cells #[.pointer (some ⟨v,0,none⟩)] 82 (0,0))
 br:W.heap[w.heap.size+1]? = some (.cells #[r] 98 (0,0))
 Et:uM W bs T M
 bin:W.heap[bi]? = some (.cells #[.int .i64 (n:Nat)] 3 (0,0))
 lo:w.heap.size+2≤bs
 lt:bs<bi
section
variable {w W W':World} {v bs bi T n:Nat} {r:Value} {M:List Nat}
theorem um.later (h:um w W v bs bi r T M n) (hb:aC W W'):um w W' v bs bi r T M n:=
 ⟨h.below.trans (hb.mono h.below.size),(hb.block _ (aO h.bv)).trans h.bv,(hb.block _ (aO h.br)).trans h.br,h.Et.below hb,(hb.block _ (aO h.bin)).trans h.bin,h.lo,h.lt⟩
theorem um.pO {B:Nat} {row:Option Nat} (h:um w W v bs bi r T M n) (hB:bi<B) (hg:W.grownBy W' row) (hr: ∀ r,row=some r→B≤r∧ ∃ o:Obj,W.heap[r]? = some o∧o.isCells=false):um w W' v bs bi r T M n:=by
 have:=h.lo
 have:=h.lt
 exact ⟨Sm h.below hg (fun r e=>by have:=(hr r e).1;omega),rX hg hr h.bv om,rX hg hr h.br om,⟨rX hg hr h.Et.aF om,h.Et.len⟩,rX hg hr h.bin om,h.lo,h.lt⟩
theorem Below.only {b i:Nat} {x:Value} (h:aC w W) (hb:w.heap.size≤b):aC w (W.setCell ⟨b,i,none⟩ x):=by
 have hk:=Kept.only W b i x;exact ⟨hk.os.trans h.os,hk.tape.trans h.tape,hk.output.trans h.output,jZ h.size hk.size,fun j hj=>by
   rw [hk.block j (iZ hj h.size) om];exact h.block j hj⟩
theorem um.answer (h:um w W v bs bi r T M n) (x:Value):um w (W.setCell ⟨w.heap.size+1,0,none⟩ x) v bs bi x T M n:=by
 have hk:=Kept.only W (w.heap.size+1) 0 x
 have:=h.lo
 have:=h.lt
 refine ⟨Below.only h.below om,hk.aF om h.bv,?_,h.Et.kept hk om,hk.aF om h.bin,h.lo,h.lt⟩;rw [heap_setCell_same _ _ _ _ _ _ _ h.br];rfl
theorem um.place (h:um w W v bs bi r T M n) (m:Nat):um w (W.setCell ⟨bi,0,none⟩ (.int .i64 (m:Nat))) v bs bi r T M m:=by
 have hk:=Kept.only W bi 0 (.int .i64 (m:Nat))
 have:=h.lo
 have:=h.lt
 refine ⟨Below.only h.below om,hk.aF om h.bv,hk.aF om h.br,h.Et.kept hk om,?_,h.lo,h.lt⟩;rw [heap_setCell_same _ _ _ _ _ _ _ h.bin];rfl
theorem um.role {M':List Nat} (h:um w W v bs bi r T M n) (hr:uM W' bs T M') (hk:Kept (fun j=>j=bs) W W'):um w W' v bs bi r T M' n:=by
 have:=h.lo
 have:=h.lt
 exact ⟨⟨hk.os.trans h.below.os,hk.tape.trans h.below.tape,hk.output.trans h.below.output,jZ h.below.size hk.size,fun j hj=>by
   rw [hk.block j (iZ hj h.below.size) om];exact h.below.block j hj⟩,hk.aF om h.bv,hk.aF om h.br,hr,hk.aF om h.bin,h.lo,h.lt⟩
end
end
end Go.Proofs.YtknjjjenklfeoaaGreatDoor
