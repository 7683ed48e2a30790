import Derived.Test.YtknjjjenklfeoaaGreatDoorO11
import Derived.Lib.BytesEntry
import Derived.Laws.Externs
import Derived.OwnWalk
import Derived.RangeFuncNested
import Derived.RangeFuncBound
import Derived.RangeFuncCalls
import Derived.RangeFuncLeaves
import Derived.Shelf.Abstract
import Derived.Shelf.RegionOpen
import Derived.OwnWalkIn
import Derived.TacticsInMore
import Derived.LoopNIn
import Derived.LoopIn
set_option maxHeartbeats 8000000
set_option maxRecDepth 100000
set_option linter.all false
namespace Go.Proofs.YtknjjjenklfeoaaGreatDoor
open Go.RowKit
section
attribute [local go_sem ↓] dw fP fZ kS mP mV jJ kJ jY jU lD lH kQ ku kT mQ mW lZ ny jG qc qP qQ qF
attribute [local go_sem] dK fO fV gK gy aV kX mG mM mJ mF gI jK kH jX kZ kW iJ jW lq lC lu kF jc jd lY l7 kG kY mO nI lT mD nH qh qM qO qN qL
attribute [local go_sem] pW pV
def uo (F:List Nat):Nat:=F.getD (F.length - 1) 0
def dQ (V:aB) (F:List Nat):aB:=if num (cl V.C 0) 4≤uo F then fJ (bT V 0 (fE (uo F+1) (num (cl V.C 0) 6))) else V
theorem zK (V:aB):(fJ V).C=V.C:=by unfold fJ;split <;> rfl
theorem yD (V:aB):(fJ V).L.length≤V.L.length+1:=by unfold fJ;split <;> simp
theorem apK {w:World} {v:Nat} {Cv Lv x:Value} {V:aB} (h:aN w v Cv Lv V) {base n:Nat} {xs:List Value} (hr:w.ownsRow base 3 1 x n xs): ∀ g,x.ownBlock=some g→ ¬ eX v Cv Lv g:=by
 intro g hg;rcases hr.2 with ⟨rfl,_⟩ | ⟨g',cap,cur,rfl,_,hh,_⟩
 ·cases hg
 ·simp only [Value.ownBlock,jv] at hg;subst hg;rintro (e | e | e)
  ·subst e;rw [h.aF] at hh;cases hh
  ·exact iw h.jA hh dc _ e rfl
  ·exact iw h.fF hh dc _ e rfl
theorem apJ {w w':World} {v:Nat} {Cv Lv C1 L1 x:Value} {V V1:aB} (h:aN w v Cv Lv V) {base n:Nat} {xs:List Value} (hr:w.ownsRow base 3 1 x n xs) (hs:bZ w w' v Cv Lv C1 L1 V1):w'.ownsRow base 3 1 x n xs:=
 bQ hs.kept hr (apK h hr)
theorem ah2 (w:World) (v:Nat) (Cv Lv:Value) (V:aB) (h:aN w v Cv Lv V) (F:List Nat) (hF:0<F.length) (hF2:F.length≤100) (hl:uo F<256) (x:Value) (hx:w.ownsRow 0 3 1 x F.length (iv F)) (h5:5≤V.C.length) (hC:V.C.length≤1000) (hL:V.L.length≤900000000):
  Calls Tryz.prog 145 #[.pointer (some ⟨v,0,none⟩),x] w fun e w'=>e= .returned (.tuple #[])∧ ∃ qB qC,bZ w w' v Cv Lv qB qC (dQ V F):=by
 obtain ⟨g,cap,rfl,_⟩:=gB hx hF;have Hh:=ah (IJ w v Cv Lv V h om);have hn4:=iD (cl V.C 0) 4;have hn6:=iD (cl V.C 0) 6;have HV:Hid (dQ V F=if num (cl V.C 0) 4≤uo F then fJ (bT V 0 (fE (uo F+1) (num (cl V.C 0) 6))) else V):=rfl;have hcx:w.cell? ⟨g,F.length - 1,none⟩=some (.int .i64 (uo F:Nat)):=by
  have:=hx.cellAt (F.length - 1) om
  rw [this];unfold iv uo;rw [jD,aK,bI om];rfl
 have hgl:=(hx.lt g rfl).2;have EU:Hid (∀ a b W C1 L1,a<65536→b<65536→aN W v C1 L1 V→_):=fun a b W C1 L1 ha hb hW=>acC W v C1 L1 V hW a b ha hb hC hL;have Hfl:Hid (∀ c W C1 L1,aN W v C1 L1 (bT V 0 c)→_):=fun c W C1 L1 hW=>zL W v C1 L1 (bT V 0 c) hW (by have:=tZ V 0 c;omega);have H:=ah h;have Hx:=ah hx;clear h hx;generalize num (cl V.C 0) 4=a at*;generalize num (cl V.C 0) 6=b at*;generalize uo F=last at*;have hlen:(((F.length:Nat):Int) - 1)=((F.length - 1:Nat):Int):=om;generalize F.length - 1=m at*
 go_enter Tryz.func145,Tryz.ntmps145
 go_wp2_with fail
 refine Hh.mono ?_;rintro e w1 ⟨rfl,hb1⟩;have E1:=((Env.start H).later hb1).lay (.cells (hv a b).toArray 128);have c0:(w1.alloc (.cells (hv a b).toArray 128)).cell? ⟨w1.heap.size,0,none⟩=some (.int .i64 (a:Nat)):=(vX w1 _ _ _ 0).trans rfl;have c1:(w1.alloc (.cells (hv a b).toArray 128)).cell? ⟨g,m,none⟩=some (.int .i64 (last:Nat)):=by
  rw [MO _ _ _ (iZ hgl hb1.size)];exact (hb1.cell (p:=⟨g,m,none⟩) hgl).trans hcx
 have f1:=eG E1.o0
 by_cases hle:a≤last
 ·rw [au hle] at HV;have dl:decide ((a:Int)≤(last:Int))=true:=by simpa using hle
  have hset:(hv a b).toArray.setIfInBounds 0 (.int .i64 ((last:Int)+1))=(hv (last+1) b).toArray:=by simp [hv]
  have E2:=E1.put sm (Kept.only _ w1.heap.size 0 (.int .i64 ((last:Int)+1))) (heap_setCell_same _ _ _ _ _ _ _ E1.o0);rw [hset] at E2;generalize hW2:World.setCell _ ⟨w1.heap.size,0,none⟩ (.int .i64 ((last:Int)+1))=W2 at E2;have l1:=fD E2.o0 (n:=2) (sD _ _);have l2:=fG E2.o0 (n:=2) (sD _ _);have E2:=ah E2;clear E1 hset
  go_wp2_with fail
  refine (uh EU (last+1) b W2 _ _ om hn6 E2.at').mono ?_;rintro e w3 ⟨rfl,C3,L3,hS3⟩;have E3:=ah (E2.fQ hS3);clear hS3 E2 l1 l2
  go_wp2_with fail
  refine (uh Hfl _ _ _ _ E3.at').mono ?_;rintro e w4 ⟨rfl,C4,L4,hS4⟩;have E4:=ah (E3.fQ hS4).step;go_wp2
  go_end0
  exact ⟨rfl,C4,L4,by rw [uh HV];exact uh E4⟩
 ·rw [ak hle] at HV;have dl:decide ((a:Int)≤(last:Int))=false:=by simp;omega
  have E2:=ah E1.step;clear E1;go_wp2
  go_end0
  exact ⟨rfl,Cv,Lv,by rw [uh HV];exact uh E2⟩
def fU (k:List UInt8) (F:List Nat):List UInt8:=F.foldl (fun k n=>k.set n 1) k
theorem acj (k:List UInt8) (F:List Nat):(fU k F).length=k.length:=by
 unfold fU
 induction F generalizing k with
 | nil=>rfl
 | cons a r ih=>simp only [Vg];rw [ih];simp
theorem ajc (k:List UInt8) (F:List Nat) (n:Nat):fU k (F++[n])=(fU k F).set n 1:=by simp [fU]
def wR (V:aB) (F:List Nat):aB:=kU (dQ V F) (fU (aJ (dQ V F).C) F) 4
theorem TQ (V:aB) (F:List Nat) (h:0<V.C.length):(dQ V F).C.length=V.C.length:=by
 unfold dQ;split
 ·rw [zK,yN];omega
 ·rfl
theorem Xd (V:aB) (F:List Nat):(dQ V F).L.length≤V.L.length+3:=by
 unfold dQ;split
 ·have h1:=yD (bT V 0 (fE (uo F+1) (num (cl V.C 0) 6)));have h2:=tZ V 0 (fE (uo F+1) (num (cl V.C 0) 6));omega
 ·omega
theorem afM (w:World) (v:Nat) (Cv Lv:Value) (V:aB) (h:aN w v Cv Lv V) (F:List Nat) (hF:0<F.length) (hF2:F.length≤100) (hl:uo F<256) (hFl: ∀ n ∈ F,n<256) (x:Value) (hx:w.ownsRow 0 3 1 x F.length (iv F)) (h5:5≤V.C.length) (hC:V.C.length≤1000) (hL:V.L.length≤800000000):
  Calls Tryz.prog 162 #[.pointer (some ⟨v,0,none⟩),x] w fun e w'=>e= .returned (.tuple #[])∧ ∃ qB qC,bZ w w' v Cv Lv qB qC (wR V F):=by
 obtain ⟨g,cap,rfl,_⟩:=gB hx hF;have Hl:=ah (ah2 w v Cv Lv V h F hF hF2 hl _ hx h5 hC om);have IL:=TQ V F om;have Aw:=Xd V F;have HV:Hid (wR V F=kU (dQ V F) (fU (aJ (dQ V F).C) F) 4):=rfl;have H:=ah h;have Hx:=ah hx;clear h hx;generalize dQ V F=V1 at*
 go_enter Tryz.func162,Tryz.ntmps162
 go_wp2_with fail
 refine Hl.mono ?_;rintro e w1 ⟨rfl,C1,L1,hS1⟩;have hx1:=apJ H Hx hS1;have Hc:=ah (Lr w1 v C1 L1 V1 hS1.at' om);have hkl:=BI V1.C hS1.at'.kE om;have E1:=ah ((Env.start H).fQ hS1);have Hx1:=ah hx1;clear hS1 Hl Hx hx1;generalize aJ V1.C=k at*
 go_wp2_with fail
 refine Hc.mono ?_;rintro e w2 ⟨rfl,hb2⟩;have E2:=ah ((E1.later hb2).lay (.cells (cv k).toArray 123));have Hx2:Hid ((w2.alloc (.cells (cv k).toArray 123)).ownsRow 0 3 1 (.slice (some ⟨g,0,none⟩) F.length cap) F.length (iv F)):=(bQ (S:=fun _=>False) (Kept.dS hb2) Hx1 (fun _ _=>id)).alloc _;clear E1 Hx1 Hc hb2;go_wp2;generalize hW2:w2.alloc (.cells (cv k).toArray 123)=W2 at*;generalize w2.heap.size=bk at*
 go_loopw [6,14] (fun _ i w'=> ∃ m:Nat,m≤F.length∧i= .int .i64 m∧Env w w' v Cv Lv C1 L1 V1 [(bk,.cells (cv (fU k (F.take m))).toArray 123)]∧w'.ownsRow 0 3 1 (.slice (some ⟨g,0,none⟩) F.length cap) F.length (iv F)) (fun _ i _=>F.length - (intOf i).toNat)
 case atStart=>exact ⟨0,om,rfl,uh E2,uh Hx2⟩
 case round=>
  obtain ⟨m,hm,rfl,hE,hx⟩:=hrel;clear E2 Hx2;have hol:(fU k (F.take m)).length=256:=by rw [acj];exact hkl
  by_cases hlt:m<F.length
  ·have TJ:(m:Int)<(F.length:Int):=om;have hcx:wr.cell? ⟨g,m,none⟩=some (.int .i64 ((F.getD m 0:Nat):Int)):=by
    have:=hx.cellAt m om
    rw [this];unfold iv;rw [jD,aK,bI hlt];rfl
   have hn:F.getD m 0<256:=by
    rw [aK,bI hlt];exact hFl _ (oP hlt)
   have Ht:Hid (fU k (F.take (m+1))=(fU k (F.take m)).set (F.getD m 0) 1):=by
    show _=_;rw [← ajc,yU hlt,aK,bI hlt];rfl
   generalize F.getD m 0=n at*;have c1:wr.cell? ⟨bk,n,none⟩=some (.int .u8 (aI (fU k (F.take m)) n:Nat)):=by
    rw [aG hE.o0,bW,uO _ _ om]
   have f1:=eG hE.o0;have hni:(n:Int)<256:=om;have ape: ∀ g',(Value.slice (some ⟨g,0,none⟩) F.length cap).ownBlock=some g'→ ¬ (g'=bk):=iw hx hE.o0 dc;have E3:=hE.put sm (Kept.only _ bk n (.int .u8 1)) (heap_setCell_same _ _ _ _ _ _ _ hE.o0);have hset:(cv (fU k (F.take m))).toArray.setIfInBounds n (.int .u8 1)=(cv (fU k (F.take (m+1)))).toArray:=by
    rw [uh Ht,Af]
    congr 1
    have:=Ls (fU k (F.take m)) n 1 om
    exact this.symm
   rw [hset] at E3;have HX:=ah (bQ (Kept.only wr bk n (.int .u8 1)) hx ape);have HE:=ah E3;clear E3 hE hx hset Ht;go_wp2;go_roundw
   case rel=>exact ⟨m+1,om,gn,uh HE,uh HX⟩
   case measure=>exact cO
  ·have hmF:m=F.length:=om;subst hmF;rw [Ij] at hE hol;have l1:=fD hE.o0 (n:=256) (by rw [bg,hol]);have l2:=fG hE.o0 (n:=256) (by rw [bg,hol]);have Hp:=ah (Uk wr v C1 L1 V1 hE.at' (fU k F) hol om om);have HE:=ah hE;clear hE hx;generalize fU k F=k' at*
   go_wp2_with fail
   refine Hp.mono ?_;rintro e w4 ⟨rfl,C4,L4,hS4⟩;have E4:=ah (HE.fQ hS4).step;go_wp2
   go_end0
   exact ⟨rfl,C4,L4,by rw [uh HV];exact uh E4⟩
def EG:aB:=⟨[],[],false,false⟩
def seven:List Nat:=[0,1,2,3,4,5,6]
def IX:aB:=kU EG (fU zk seven) 4
def LQ:aB:=bT IX 5 zc
def LU:aB:=bT LQ 6 zc
def J9:aB:=fJ LU
def Qm:aB:=bT J9 0 (fE 7 6)
def zf:aB:=fJ Qm
theorem aqA:IX.C.length≤10∧LQ.C.length≤10∧LU.C.length≤10∧J9.C.length≤10∧Qm.C.length≤10∧IX.L.length≤40∧LQ.L.length≤40∧LU.L.length≤40∧J9.L.length≤40∧Qm.L.length≤40:=by
 have a1:=ajy EG (fU zk seven) 4;have b1:=Oc EG (fU zk seven) 4;have c0:EG.C.length=0:=rfl;have d0:EG.L.length=0:=rfl;have e1:IX.C.length≤5:=by unfold IX;omega
 have f1:IX.L.length≤8:=by unfold IX;omega
 have e2:LQ.C.length=max IX.C.length 6:=yN _ _ _;have f2:LQ.L.length≤IX.L.length+2:=tZ _ _ _;have e3:LU.C.length=max LQ.C.length 7:=yN _ _ _;have f3:LU.L.length≤LQ.L.length+2:=tZ _ _ _;have e4:J9.C.length=LU.C.length:=by unfold J9;rw [zK]
 have f4:J9.L.length≤LU.L.length+1:=yD _;have e5:Qm.C.length=max J9.C.length 1:=yN _ _ _;have f5:Qm.L.length≤J9.L.length+2:=tZ _ _ _;omega
theorem atw: ∀ k,k<7→seven.take (k+1)=seven.take k++[k]:=dc
theorem auN (w:World):aN (w.alloc (.cells #[.slice none 0 0,.slice none 0 0,.bool false,.bool false] 121)) w.heap.size (.slice none 0 0) (.slice none 0 0) EG:=
 ⟨aW w _,wF _ _ _ _,wF _ _ _ _,(by intro c hc;cases hc),(by intro c hc;cases hc),(by intro h;cases h)⟩
theorem auT (w:World):Calls Tryz.prog 36 #[] w fun e w'=> ∃ Cv Lv,e= .returned (.pointer (some ⟨w.heap.size,0,none⟩))∧bZ (w.alloc (.cells #[.slice none 0 0,.slice none 0 0,.bool false,.bool false] 121)) w' w.heap.size (.slice none 0 0) (.slice none 0 0) Cv Lv zf:=by
 have E0:=(Env.start (auN w)).lay (.cells (cv zk).toArray 123);have hls:=aqA;have hbh: ∀ W,(aah #[(0,.int .i64 7),(1,.int .i64 6)]).run Tryz.prog W= .ok (.agg (hv 7 6).toArray) W:=fun W=>kF 7 6 W;have E0:=ah E0
 go_enter Tryz.func36,Tryz.ntmps36
 go_wp2;rw [jB] at E0;generalize (w.alloc (.cells #[.slice none 0 0,.slice none 0 0,.bool false,.bool false] 121)).alloc (.cells (cv zk).toArray 123)=W at E0 ⊢;generalize hw0:w.alloc (.cells #[.slice none 0 0,.slice none 0 0,.bool false,.bool false] 121)=w0 at*
 go_loopw [3,6] (fun _ i w'=> ∃ k:Nat,k≤7∧i= .int .i64 k∧Env w0 w' w.heap.size (.slice none 0 0) (.slice none 0 0) (.slice none 0 0) (.slice none 0 0) EG [(w.heap.size+1,.cells (cv (fU zk (seven.take k))).toArray 123)]) (fun _ i _=>7 - (intOf i).toNat)
 case atStart=>exact ⟨0,om,rfl,uh E0⟩
 case round=>
  obtain ⟨k,hk,rfl,hE⟩:=hrel;clear E0;have hol:(fU zk (seven.take k)).length=256:=by rw [acj];exact iJ
  by_cases hlt:k<7
  ·have hki:(k:Int)<7:=om;have c1:wr.cell? ⟨w.heap.size+1,k,none⟩=some (.int .u8 (aI (fU zk (seven.take k)) k:Nat)):=by
    rw [aG hE.o0,bW,uO _ _ om]
   have f1:=eG hE.o0;have E3:=hE.put sm (Kept.only _ (w.heap.size+1) k (.int .u8 1)) (heap_setCell_same _ _ _ _ _ _ _ hE.o0);have hset:(cv (fU zk (seven.take k))).toArray.setIfInBounds k (.int .u8 1)=(cv (fU zk (seven.take (k+1)))).toArray:=by
    rw [atw k hlt,ajc,Af]
    congr 1
    have:=Ls (fU zk (seven.take k)) k 1 om
    exact this.symm
   rw [hset] at E3;have HE:=ah E3;clear E3 hE hset;go_wp2;go_roundw
   case rel=>exact ⟨k+1,om,gn,uh HE⟩
   case measure=>exact cO
  ·have hk7:k=7:=om;subst hk7;have hE':Env w0 wr w.heap.size (.slice none 0 0) (.slice none 0 0) (.slice none 0 0) (.slice none 0 0) EG [(w.heap.size+1,.cells (cv (fU zk seven)).toArray 123)]:=hE;have abx:(fU zk seven).length=256:=hol;have l1:=fD hE'.o0 (n:=256) (by rw [bg,abx]);have l2:=fG hE'.o0 (n:=256) (by rw [bg,abx]);have Hp:=ah (Uk wr _ _ _ EG hE'.at' (fU zk seven) abx dc dc);have HE:=ah hE';clear hE hE' hol;have HV1:Hid (IX=kU EG (fU zk seven) 4):=rfl;generalize fU zk seven=k7 at*
   go_wp2_with fail
   refine Hp.mono ?_;rintro e w1 ⟨rfl,C1,L1,hS1⟩;rw [← uh HV1] at hS1;have E1:=ah (HE.fQ hS1);clear hS1 HE Hp l1 l2
   go_wp2_with fail
   refine (FK _ _ _ _ _ E1.at' 5 om zc aV om om).mono ?_;rintro e w2 ⟨rfl,C2,L2,hS2⟩;have E2:Hid (Env _ _ _ _ _ _ _ LQ _):=ah (E1.fQ hS2);clear hS2 E1
   go_wp2_with fail
   refine (FK _ _ _ _ _ E2.at' 6 om zc aV om om).mono ?_;rintro e w3 ⟨rfl,C3,L3,hS3⟩;have E3:Hid (Env _ _ _ _ _ _ _ LU _):=ah (E2.fQ hS3);clear hS3 E2
   go_wp2_with fail
   refine (zL _ _ _ _ _ E3.at' om).mono ?_;rintro e w4 ⟨rfl,C4,L4,hS4⟩;have E4:Hid (Env _ _ _ _ _ _ _ J9 _):=ah (E3.fQ hS4);clear hS4 E3
   go_wp2_with fail
   refine (acC _ _ _ _ _ E4.at' 7 6 om om om om).mono ?_;rintro e w5 ⟨rfl,C5,L5,hS5⟩;have E5:Hid (Env _ _ _ _ _ _ _ Qm _):=ah (E4.fQ hS5);clear hS5 E4
   go_wp2_with fail
   refine (zL _ _ _ _ _ E5.at' om).mono ?_;rintro e w6 ⟨rfl,C6,L6,hS6⟩;have E6:Hid (bZ _ _ _ _ _ _ _ zf):=ah (E5.fQ hS6).step;clear hS6 E5;go_wp2;go_ret;exact ⟨C6,L6,rfl,by rw [hw0];exact uh E6⟩
theorem aqB {w w':World} {Cv Lv:Value} {V:aB} {o:Obj} (h:bZ (w.alloc o) w' w.heap.size (.slice none 0 0) (.slice none 0 0) Cv Lv V):aC w w'∧ ∀ k,eX w.heap.size Cv Lv k→w.heap.size≤k:=by
 refine ⟨⟨h.kept.os,h.kept.tape,h.kept.output,by have:=h.kept.size;simp at this;omega,fun k hk=> ?_⟩,fun k hk=> ?_⟩
 ·rw [h.kept.block k (by simp;omega) (by rintro (e | e | e);omega;cases e;cases e)];exact jE _ _ _ hk
 ·rcases h.new k hk with (e | e | e) | e
  ·omega
  ·cases e
  ·cases e
  ·simp at e;omega
theorem agc (w:World):Calls Tryz.prog 11 #[] w fun e w'=> ∃ d v Cv Lv,e= .returned (.pointer (some ⟨d,0,none⟩))∧pq w' d v Cv Lv zf∧aC w w'∧ ∀ k,Lu d v Cv Lv k→w.heap.size≤k:=by
 have Hn:=ah (auT w)
 go_enter Tryz.func11,Tryz.ntmps11
 go_wp2_with fail
 refine Hn.mono ?_;rintro e w1 ⟨Cv,Lv,rfl,hS⟩;obtain ⟨hB,hF⟩:=aqB hS;have HS:=ah hS.at';have HB:=ah hB;have HF:=ah hF;clear hS hB hF;go_wp2;go_ret;refine ⟨w1.heap.size,w.heap.size,Cv,Lv,rfl,⟨aW _ _,HS.alloc _⟩,HB.alloc HB.size _,fun k hk=> ?_⟩;rcases hk with e | e
 ·have:=HB.size;omega
 ·exact uh HF k e
def zeroAt (c:List UInt8):Int:=Lib.indexByte c 0
theorem alb (c:List UInt8): -1≤zeroAt c∧zeroAt c<c.length:=by
 unfold zeroAt
 induction c with
 | nil=>simp [Lib.indexByte]
 | cons a r ih=>
  simp only [Lib.indexByte,iQ];split
  ·omega
  ·split
   ·omega
   ·rename_i h;simp only [Rx] at h;omega
theorem anb (c:List UInt8):Lib.bytesOf (c.map fun b=>((b.toNat:Nat):Int))=c:=by
 unfold Lib.bytesOf;rw [OM]
 conv=>rhs;rw [← List.map_id c]
 refine Ii fun b _=> ?_
 simp
theorem apD (w:World) (b o cap:Nat) (c:List UInt8) (hr:w.rangeAt b o (cv c)):
  Calls Tryz.prog 183 #[.slice (some ⟨b,o,none⟩) c.length cap,.int .u8 0] w fun e w'=>e= .returned (.int .i64 (zeroAt c))∧w'=w:=by
 have hx:(c.map fun b=>((b.toNat:Nat):Int)).length=c.length:=sm;have hc: ∀ i,i<c.length→w.cell? ⟨b,o+i,none⟩=some (.int .u8 ((c.map fun b=>((b.toNat:Nat):Int)).getD i 0)):=by
  intro i hi
  have:=hr i (.int .u8 (aI c i:Nat)) (by rw [uO _ _ hi])
  rw [this,aK,jD,bI hi];simp [aI,hi]
 have hex: ∀ W,W=w→(callFunc 188 #[.slice (some ⟨b,o,none⟩) c.length cap,.int .u8 0]).run Tryz.prog W= .ok (.value (.int .i64 (zeroAt c))) W:=by
  rintro W rfl;rw [run_callFunc_extern Tryz.func188 kr kr kr (e:=Extern.BytealgIndexByte.indexByte) kr,Lib.run_indexByteSlice W b o c.length cap _ hx hc 0,anb];rfl
 have hex:=hex w rfl;clear hx hc hr;generalize zeroAt c=z at*
 go_enter Tryz.func183,Tryz.ntmps183
 go_wp2;go_ret;exact ⟨rfl,rfl⟩
theorem apE (w:World) (b o cap:Nat) (c:List UInt8) (hr:w.rangeAt b o (cv c)) (s:Nat) (hs:w.cell? ⟨s,0,none⟩=some (.int .u8 0)):
  Calls Tryz.prog 180 #[.slice (some ⟨b,o,none⟩) c.length cap,.slice (some ⟨s,0,none⟩) 1 1] w fun e w'=>e= .returned (.int .i64 (zeroAt c))∧w'=w:=by
 have Hi:=ah (apD w b o cap c hr);clear hr;generalize zeroAt c=z at*
 go_enter Tryz.func180,Tryz.ntmps180
 go_wp2_with fail
 refine Hi.mono ?_;rintro e w1 ⟨rfl,rfl⟩;go_wp2;go_ret;exact ⟨rfl,rfl⟩
def qo (c:List UInt8):Nat:=if 0≤zeroAt c then (zeroAt c).toNat else c.length
theorem an2 (c:List UInt8):qo c≤c.length:=by
 have:=alb c
 unfold qo
 split <;> omega
theorem Wh (w:World) (b o cap:Nat) (c:List UInt8) (hr:w.rangeAt b o (cv c)) (hcap:c.length≤cap) (hcap2:cap≤1000) (s:Nat) (hs:w.cell? ⟨s,0,none⟩=some (.int .u8 0)):
  Calls Tryz.prog 170 #[.slice (some ⟨b,o,none⟩) c.length cap,.slice (some ⟨s,0,none⟩) 1 1] w fun e w'=>(∃ r2 r3,e= .returned (.tuple #[.slice (some ⟨b,o,none⟩) (qo c) cap,r2,r3]))∧aC w w':=by
 have Hi:=ah (apE w b o cap c hr s hs);have hz:=alb c;have HL:Hid (qo c=if 0≤zeroAt c then (zeroAt c).toNat else c.length):=rfl;clear hr hs
 by_cases h0:0≤zeroAt c
 ·rw [au h0] at HL;obtain ⟨z,hzz⟩:=CP h0;rw [hzz] at Hi HL hz;rw [vC] at HL;have hz2:=hz.2;have hzi:(z:Int)<(c.length:Int):=om;have hzc:(z:Int)+1≤(c.length:Int):=om;have avZ:(z:Int)≤(cap:Int):=om;have hw:IntKind.i64.wrap ((z:Int)+1)=(z:Int)+1:=Jo _ om;clear hzz h0 hz
  go_enter Tryz.func170,Tryz.ntmps170
  go_wp2_with fail
  refine Hi.mono ?_;rintro e w1 ⟨rfl,rfl⟩;go_wp2
  go_quiet (fail)
  go_wp2
  all_goals
   rw [uh HL];refine gV (Ze rfl _ _ _) rfl ?_;exact ⟨⟨_,_,rfl⟩,⟨rfl,rfl,rfl,aP _,fun _ _=>rfl⟩⟩
 ·rw [ak h0] at HL;have hz1:zeroAt c= -1:=om;rw [hz1] at Hi
  go_enter Tryz.func170,Tryz.ntmps170
  go_wp2_with fail
  refine Hi.mono ?_;rintro e w1 ⟨rfl,rfl⟩;go_wp2;rw [uh HL];refine gV (Ze rfl _ _ _) rfl ?_;exact ⟨⟨_,_,rfl⟩,bG _ _⟩
theorem JO {w:World} {b o:Nat} (c:List UInt8) (h:w.rangeAt b o (cv c)) (cap:Nat):
  (convert 73 9 (.slice (some ⟨b,o,none⟩) c.length cap)).run Tryz.prog w= .ok (.string (bJ c)) w:=by
 have:=run_convert_bytes_arg (P:=Tryz.prog) w 73 5 Tryz.underlying73 Tryz.underlying5 b o c.length cap (c.map fun x=>(x.toNat:Int)) sm (fun i hi=>by
  rw [h i (.int .u8 (aI c i:Nat)) (by rw [uO _ _ hi])];simp only [aK,jD,aI];rw [bI hi]
  rfl) 9 Tryz.underlying9
 rw [this]
 congr 2
 unfold bJ strOfNums
 congr 1
 have e:((fun n:Int=>UInt8.ofNat n.toNat) ∘ fun x:UInt8=>(x.toNat:Int))=id:=by funext x;simp
 simp [e]
structure aX where
 name:List UInt8
 first:Nat
def ev (p:aX):List Value:=[.string (bJ p.name),.int .i64 (p.first:Nat)]
def lv (L:List aX):List Value:=L.flatMap ev
theorem aaV (p:aX): ∀ v ∈ ev p,v.oneCell'=true:=by
 intro v hv;simp only [ev,dD,jM,jO] at hv;rcases hv with rfl | rfl <;> rfl
theorem Qi (L:List aX): ∀ v ∈ lv L,v.oneCell'=true:=by
 intro v hv;obtain ⟨x,_,hx⟩:=Ae.1 hv;exact aaV x v hx
theorem dW (L:List aX):(lv L).length=L.length*2:=by
 induction L with
 | nil=>rfl
 | cons a r ih=>rw [show lv (a :: r)=ev a++lv r from rfl,oO,ih,iQ];simp [ev];omega
def ze:aX:=⟨[],0⟩
def zl:List aX:=[ze,ze,ze,ze]
def aif (a:Addr):Sem Value:=loadVar 144 a
theorem xM (a:Addr):loadVar 144 a=aif a:=rfl
theorem xX {w:World} {b o:Nat} (h:dN w b o 8):(aif ⟨b,o,none⟩).run Tryz.prog w= .ok (.agg (dI w b o 8).toArray) w:=
 AX h 144 _ Tryz.underlying144 rfl kr
def YB (a:Addr) (v:Value):Sem Unit:=storeVar 144 a v
theorem EF (a:Addr) (v:Value):storeVar 144 a v=YB a v:=rfl
theorem Ey {w:World} {b o:Nat} {L:List aX} (ht:w.there b o 8) (hL:L.length=4):(YB ⟨b,o,none⟩ (.agg (lv L).toArray)).run Tryz.prog w= .ok () (w.setCells b o (lv L)):=by
 have:=FX (P:=Tryz.prog) w b o 144 (lv L).toArray (by simpa [dW,hL] using ht) (by simp only [iR,dW,hL];kernel_rfl) (vg (Qi L))
 simpa [YB] using this
def alj:Sem Value:=zeroValue 144
theorem EI:zeroValue 144=alj:=rfl
theorem EC (w:World):alj.run Tryz.prog w= .ok (.agg (lv zl).toArray) w:=
 (uI (P:=Tryz.prog) (t:=144) (v:= .agg (lv zl).toArray) (n:=8) kr).1 w
theorem Ez {w:World} {z L:List aX} (hz:z.length=4) (hL:L.length=4):
  (YB ⟨w.heap.size,0,none⟩ (.agg (lv L).toArray)).run Tryz.prog (w.alloc (.cells (lv z).toArray 144))= .ok () (w.alloc (.cells (lv L).toArray 144)):=
 FY w 144 (lv z).toArray (lv L).toArray (by simp only [iR,dW,hL];kernel_rfl) (by simp [dW,hz,hL]) (vg (Qi L))
def Yz (a:Addr) (v:Value):Sem Unit:=storeVar 142 a v
theorem ED (a:Addr) (v:Value):storeVar 142 a v=Yz a v:=rfl
theorem Ew {w:World} {b o:Nat} {p:aX} (ht:w.there b o 2):(Yz ⟨b,o,none⟩ (.agg (ev p).toArray)).run Tryz.prog w= .ok () (w.setCells b o (ev p)):=by
 have:=FX (P:=Tryz.prog) w b o 142 (ev p).toArray (by simpa [ev] using ht) (by simp only [ev];kernel_rfl) (vg (aaV p))
 simpa [Yz] using this
def aag (parts:Array (Nat × Value)):Sem Value:=Instr.build 142 parts
theorem DZ (parts:Array (Nat × Value)):Instr.build 142 parts=aag parts:=rfl
theorem Dz (nm:List UInt8) (n:Nat) (w:World):(aag #[(0,.string (bJ nm)),(1,.int .i64 n)]).run Tryz.prog w= .ok (.agg (ev ⟨nm,n⟩).toArray) w:=by
 have hz:=(uI (P:=Tryz.prog) (t:=142) (v:= .agg (ev ze).toArray) (n:=2) kr).1;exact KF w 142 _ (.agg (ev ze).toArray) #[(0,1),(1,1)] #[(0,.string (bJ nm)),(1,.int .i64 n)] _ Tryz.underlying142 hz (fun w=>kr) (by rfl)
end
section
open Go.RowKit Go.Shelf
attribute [local go_sem ↓] dw fP fZ kS mP mV jJ kJ jY jU lD lH kQ ku kT mQ mW lZ ny jG qc qP qQ qF
attribute [local go_sem] dK fO fV gK gy aV kX mG mM mJ mF gI jK kH jX kZ kW iJ jW lq lC lu kF jc jd lY l7 kG kY mO nI lT mD nH qh qM qO qN qL
attribute [local go_sem] pW pV Oper.semAt_some
def DU (Pc:Nat→Prop) (n:Nat):Prop:=n<65536∧(n≠0→Pc (n%32768))
structure mY (Pc:Nat→Prop) where
 table:Nat
 index:Nat
 number:Nat
 hi:index<32
 hn:number<65536
 h0:number≠0
 hc:Pc (number%32768)
def oh {Pc:Nat→Prop} (s:mY Pc):Value:= .agg #[.int .i64 ((s.table:Nat):Int),.int .i64 ((s.index:Nat):Int),.int .u16 ((s.number:Nat):Int)]
def sJ {Pc:Nat→Prop} (t:Nat) (T:List Nat) (hT: ∀ i,DU Pc (T.getD i 0)):(k:Nat)→k≤32→List (mY Pc)
 | 0,_=>[]
 | k+1,hk=>sJ t T hT k om++if h:T.getD k 0≠0 then [⟨t,k,T.getD k 0,om,(hT k).1,h,(hT k).2 h⟩] else []
theorem UD {Pc:Nat→Prop} (t:Nat) (T:List Nat) (hT: ∀ i,DU Pc (T.getD i 0)) (k:Nat) (hk:k+1≤32) (h:T.getD k 0=0):sJ t T hT (k+1) hk=sJ t T hT k om:=by
 rw [sJ,dif_neg (by simpa using h),rU]
theorem UC {Pc:Nat→Prop} (t:Nat) (T:List Nat) (hT: ∀ i,DU Pc (T.getD i 0)) (k:Nat) (hk:k+1≤32) (h:T.getD k 0≠0):sJ t T hT (k+1) hk=sJ t T hT k om++[⟨t,k,T.getD k 0,om,(hT k).1,h,(hT k).2 h⟩]:=by
 rw [sJ,dif_pos h]
theorem ac7 {Pc:Nat→Prop} (t:Nat) (T:List Nat) (hT: ∀ i,DU Pc (T.getD i 0)): ∀ k hk,(sJ t T hT k hk).length≤k
 | 0,_=>by simp [sJ]
 | k+1,hk=>by
  have:=ac7 t T hT k om
  rw [sJ]
  split <;> simp <;> omega
theorem atI {Pc:Nat→Prop} (t:Nat) (T:List Nat) (hT: ∀ i,DU Pc (T.getD i 0)) (k:Nat) (hk:k≤32):sJ t T hT k hk <+: sJ t T hT 32 (aP _):=by
 have: ∀ j (hj:k+j≤32),sJ t T hT k hk <+: sJ t T hT (k+j) hj:=by
  intro j
  induction j with
  | zero=>intro _;exact List.prefix_refl _
  | succ j ih=>intro hj;exact (ih om).trans (by show _ <+: sJ t T hT ((k+j)+1) hj;rw [sJ];exact List.prefix_append _ _)
 have h:=this (32 - k) om;have e:k+(32 - k)=32:=om;simpa [e] using h
theorem aqV {Pc:Nat→Prop} (n:Nat) (hn:3≤n) (l bv bt v table:Nat) (V:aB) (J Jx:List (mY Pc)→World→Prop) (P:World→Prop)
  (hT: ∀ i,DU Pc ((numsOf (cl V.C table)).getD i 0))
  (hY: ∀ pre x W,J pre W→pre.length<32→YieldAt Fence.wide (n - 1) Tryz.prog l #[oh x] W fun e W'=>
   (e= .returned (.bool true)∧J (pre++[x]) W'∧(P W→P W'))∨(e= .returned (.bool false)∧Jx (pre++[x]) W'))
  (WH: ∀ W,P W→W.cell? ⟨bt,0,none⟩=some (.int .i64 (table:Nat))) (hPb: ∀ W W',P W→aC W W'→P W')
  (W:World) (hJ:AbidesFrom W.heap.size J) (hP:P W) (hbv:W.cell? ⟨bv,0,none⟩=some (.pointer (some ⟨v,0,none⟩))) (Cv Lv:Value) (hV:aN W v Cv Lv V) (ht:table<V.C.length) (h0:J [] W):
  CallsIn Fence.wide n Tryz.prog 182 #[.func (.yield l) #[] #[],.pointer (some ⟨bv,0,none⟩),.pointer (some ⟨bt,0,none⟩)] W fun e W'=>(∃ v,e= .returned v)∧
   ((∃ ys,ys=sJ table (numsOf (cl V.C table)) hT 32 (aP _)∧J ys W')∨(∃ pre,pre <+: sJ table (numsOf (cl V.C table)) hT 32 (aP _)∧Jx pre W')):=by
 have c1:=WH W hP;have Ht:=ah (UH W v Cv Lv V hV table ht);have hTl:=numsOf_length (cl V.C table);generalize numsOf (cl V.C table)=T at*;refine Zf Tryz.func182 rfl trivial ?_ rfl;simp only [Tryz.ntmps182,iR,iQ,vk,Nat.reduceAdd,Nat.reduceSub,A8,Ba,Bc,Bd,ql,sO]
 gi_wp2_with fail
 refine ⟨trivial,fun _=>om,(eY.2 Ht).mono ?_⟩;rintro e W1 ⟨rfl,hb1⟩;have HP1:=ah (hPb W W1 hP hb1);have HJ1:=ah (hJ [] W W1 none h0 ⟨hb1.os,hb1.tape,hb1.output,hb1.size,fun k hk _=>hb1.block k hk⟩ (fun r e=>by cases e));clear hP h0 c1 Ht hb1 hbv hV hJ
 gi_wp2
 gi_loopw [4,5,9] (fun _ _ i wr=> ∃ (k:Nat) (hk:k≤32),i= .int .i64 k∧P wr∧J (sJ table T hT k hk) wr) (fun _ _ i _=>32 - (intOf i).toNat)
 case atStart=>exact ⟨0,om,rfl,uh HP1,uh HJ1⟩
 case round=>
  obtain ⟨k,hk,rfl,Ee,BK⟩:=hrel;clear HP1 HJ1;have c1:=WH wr Ee
  by_cases hlt:k<32
  ·have hki:(k:Int)<32:=om;have hix:=acV wr T hTl k hlt;have hlen:=ac7 table T hT k hk
   by_cases h0:T.getD k 0=0
   ·have Hs:=ah (UD table T hT k hlt h0);rw [h0] at hix
    gi_wp2
    refine ⟨fun _ h=>(by cases h),?_⟩
    gi_wp2
    go_roundw
    case rel=>exact ⟨k+1,om,gn,Ee,by rw [uh Hs];exact BK⟩
    case measure=>exact cO
   ·obtain ⟨x,hs1,hs2,hs3,hs4⟩: ∃ x:mY Pc,x.table=table∧x.index=k∧x.number=T.getD k 0∧sJ table T hT (k+1) hlt=sJ table T hT k hk++[x]:=⟨⟨table,k,T.getD k 0,hlt,(hT k).1,h0,(hT k).2 h0⟩,rfl,rfl,rfl,UC table T hT k hlt h0⟩;have Hs:=ah hs4;obtain ⟨fn,tmps,assign,body,hy,hR⟩:=hY _ x wr BK om;rw [oh,hs1,hs2,hs3] at hy;have hnl:=(hT k).1;have d0:((((T.getD k 0:Nat)):Int) != 0)=true:=by rw [nR];omega
    clear hs4 hs1 hs2 hs3;generalize T.getD k 0=nn at*
    gi_wp2
    refine ⟨fun _=>om,hR.mono ?_⟩;rintro e W3 (⟨rfl,hJ3,hP3⟩ | ⟨rfl,hJx3⟩)
    ·have HP3:=ah (hP3 Ee);clear hP3 c1 Ee
     gi_wp2
     go_roundw
     case rel=>exact ⟨k+1,om,gn,uh HP3,by rw [uh Hs];exact hJ3⟩
     case measure=>exact cO
    ·gi_wp2
     refine gV (CJ rfl _ _ _) rfl ?_;exact ⟨⟨_,rfl⟩,.inr ⟨_,by rw [← uh Hs];exact atI table T hT _ hlt,hJx3⟩⟩
  ·have hk32:k=32:=om;subst hk32
   gi_wp2
   go_end0
   exact ⟨⟨_,rfl⟩,.inl ⟨_,rfl,BK⟩⟩
end
end Go.Proofs.YtknjjjenklfeoaaGreatDoor
