import Derived.Test.YtknjjjenklfeoaaGreatDoorO15
set_option maxHeartbeats 8000000
set_option maxRecDepth 100000
set_option linter.all false
namespace Go.Proofs.YtknjjjenklfeoaaGreatDoor
open Go.RowKit
section
attribute [local go_sem ↓] dw fP fZ kS mP mV jJ kJ jY jU lD lH kQ ku kT mQ mW lZ ny jG qc qP qQ qF xM EF EI ED DZ
attribute [local go_sem] dK fO fV gK gy aV kX mG mM mJ mF gI jK kH jX kZ kW iJ jW lq lC lu kF jc jd lY l7 kG kY mO nI lT mD nH qh qM qO qN qL xX Ey EC Ez Ew Dz
attribute [local go_sem] pW pV
def nameBytes (c:aj) (i:Nat):List UInt8:=(c.drop (16*i+2)).take 12
def Ea (c:aj) (i:Nat):aX:=⟨(nameBytes c i).take (qo (nameBytes c i)),num c (16*i)⟩
def xG (c:aj) (k:Nat):List aX:=(List.range 4).map fun i=>if i<k then Ea c i else ze
def aY (c:aj):List aX:=(List.range 4).map (Ea c)
theorem aol (c:aj):xG c 4=aY c:=by
 unfold xG aY;refine Ii fun i hi=> ?_;rw [au (Jm.1 hi)]
theorem aiO (c:aj) (i:Nat) (hc:c.length=64) (hi:i<4):(nameBytes c i).length=12:=by simp [nameBytes,hc];omega
theorem FD {w:World} {b:Nat} {c:aj} {t:TypeId} {fr:Nat × Nat} (hb:w.heap[b]? = some (.cells (cv c).toArray t fr)) (i:Nat):w.rangeAt b (16*i+2) (cv (nameBytes c i)):=fun j v hv=>by
 rw [aG hb,bW];simp only [cv,jD,nameBytes] at hv ⊢;rw [Jp] at hv
 split at hv
 ·rw [OI] at hv;exact hv
 ·cases hv
theorem MB {w:World} {b o:Nat} {c:List UInt8} (h:w.rangeAt b o (cv c)) (n:Nat):w.rangeAt b o (cv (c.take n)):=fun j v hv=>by
 refine h j v ?_;simp only [cv,jD,Jp] at hv ⊢
 split at hv
 ·exact hv
 ·cases hv
theorem Xm (A B:List aX):lv (A++B)=lv A++lv B:=by simp [lv]
theorem Ud (L:List aX) (k:Nat) (hk:k<L.length) (p:aX):lU (lv L).toArray (2*k) (ev p)=(lv (L.set k p)).toArray:=by
 have h1:L=L.take k++[L[k]]++L.drop (k+1):=by rw [uG,UZ,List.getElem_cons_drop,KJ]
 have h2:L.set k p=L.take k++[p]++L.drop (k+1):=by rw [List.set_eq_take_append_cons_drop,au hk];simp
 have h3:=Yp (lv (L.take k)) (lv [L[k]]) (ev p) (lv (L.drop (k+1))) (by simp [lv,ev]);rw [← Xm,← Xm,← h1,dW,xu,Rh om,Nat.mul_comm] at h3;rw [h3,h2,Xm,Xm];simp [lv]
theorem Wp (c:aj) (k:Nat) (hk:k<4):xG c (k+1)=(xG c k).set k (Ea c k):=by
 refine uH fun i=> ?_;rw [uf];simp only [xG,jD,tH,Y5]
 by_cases hi:i<4
 ·rw [x9 hi]
  by_cases e:k=i
  ·subst e;simp [hk]
  ·simp only [EM,ak e]
   congr 1
   by_cases h:i<k
   ·rw [au h,au om]
   ·rw [ak h,ak om]
 ·rw [eu (by simp;omega)];split
  ·omega
  ·rfl
theorem LG (c:aj) (k:Nat):(xG c k).length=4:=by simp [xG]
theorem Df (c:aj):(aY c).length=4:=by simp [aY]
theorem apZ (w:World) (c:aj) (hc:c.length=64):
  Calls Tryz.prog 141 #[.agg (cv c).toArray] w fun e w'=>e= .returned (.agg (lv (aY c)).toArray)∧aC w w':=by
 have L0:=ah (dU.three w (.cells (cv c).toArray 38) (.cells (lv zl).toArray 144) (.cells (lv zl).toArray 144))
 go_enter Tryz.func141,Tryz.ntmps141
 go_wp2
 go_loopw [4,5,6,7,8,9] (fun _ _ _ _ _ i w'=> ∃ k:Nat,k≤4∧i= .int .i64 k∧dU w w' [.cells (cv c).toArray 38,.cells (lv zl).toArray 144,.cells (lv (xG c k)).toArray 144]) (fun _ _ _ _ _ i _=>4 - (intOf i).toNat)
 case atStart=>exact ⟨0,om,rfl,uh L0⟩
 case round=>
  obtain ⟨k,hk,rfl,hL⟩:=hrel;clear L0
  by_cases hlt:k<4
  ·have hnb:=aiO c k hc hlt;have hcut:=an2 (nameBytes c k);rcases (show k=0∨k=1∨k=2∨k=3 by omega) with rfl | rfl | rfl | rfl
   ·have HL:=ah (hL.alloc (.cells #[.int .u8 0] 5));have c1:(wr.alloc (.cells #[.int .u8 0] 5)).cell? ⟨wr.heap.size,0,none⟩=some (.int .u8 0):=(vX wr _ _ _ 0).trans rfl;have Hc:=ah (Wh _ _ _ (64 - 16*0 - 2) _ (FD HL.o0 0) om om _ c1);rw [hnb] at Hc;simp only [Nat.reduceMul,Nat.reduceAdd,Nat.reduceSub] at Hc;have Hn:Hid (∀ W,Calls Tryz.prog 149 #[.agg (cv c).toArray,.int .i64 0] W fun e w'=>e= .returned (.int .u16 (num c 0:Nat))∧aC W w'):=fun W=>Qu c 0 W hc om om;have hnl:=iD c 0;have hw:IntKind.i64.wrap ((num c 0:Nat):Int)=(num c 0:Nat):=Jo _ om;have htl:((nameBytes c 0).take (qo (nameBytes c 0))).length=qo (nameBytes c 0):=by rw [xu];omega
    have HE:Hid (lU (lv (xG c 0)).toArray 0 (ev ⟨(nameBytes c 0).take (qo (nameBytes c 0)),num c 0⟩)=(lv (xG c 1)).toArray):=by
     show _=_;rw [Wp c 0 om];exact Ud (xG c 0) 0 (by rw [LG];omega) (Ea c 0)
    have hel:=LG c 0;clear hL
    go_wp2_with fail
    refine Hc.mono ?_;rintro e w1 ⟨⟨r2,r3,rfl⟩,hb1⟩;have L1:=HL.later hb1;have hcv1:=JO ((nameBytes c 0).take (qo (nameBytes c 0))) (MB (FD L1.drew.o0 0) _) 62;rw [htl] at hcv1;have l1:=gZ L1.drew.o0 hc;have l2:=gY L1.drew.o0 hc;have L1:=ah L1;clear HL Hc hb1 hcut hnb c1;generalize hnm:(nameBytes c 0).take (qo (nameBytes c 0))=nm at*;generalize qo (nameBytes c 0)=m at*;generalize num c 0=fn at*;go_wp2
    go_region_law (
     go_simp;go_at_call 149;refine (uh Hn _).mono ?_;rintro e w2 ⟨rfl,hb2⟩;have L2:=L1.drew.later hb2;have hcv2:=JO nm (by rw [← hnm];exact MB (FD L2.o0 0) _) 62;rw [htl] at hcv2;have th:=iI L2.o2 0 2 (by rw [iR,dW,hel];omega);have L2:=ah L2)
    all_goals
     have L3:=L2.setCells 2 rfl 0 (ev ⟨nm,fn⟩);rw [uh HE] at L3;have L3:=ah L3;clear L2 hb2 L1;go_wp2;go_roundw
     case rel=>exact ⟨1,om,gn,uh L3⟩
     case measure=>simp [intOf]
   ·have HL:=ah (hL.alloc (.cells #[.int .u8 0] 5));have c1:(wr.alloc (.cells #[.int .u8 0] 5)).cell? ⟨wr.heap.size,0,none⟩=some (.int .u8 0):=(vX wr _ _ _ 0).trans rfl;have Hc:=ah (Wh _ _ _ (64 - 16*1 - 2) _ (FD HL.o0 1) om om _ c1);rw [hnb] at Hc;simp only [Nat.reduceMul,Nat.reduceAdd,Nat.reduceSub] at Hc;have Hn:Hid (∀ W,Calls Tryz.prog 149 #[.agg (cv c).toArray,.int .i64 16] W fun e w'=>e= .returned (.int .u16 (num c 16:Nat))∧aC W w'):=fun W=>Qu c 16 W hc om om;have hnl:=iD c 16;have hw:IntKind.i64.wrap ((num c 16:Nat):Int)=(num c 16:Nat):=Jo _ om;have htl:((nameBytes c 1).take (qo (nameBytes c 1))).length=qo (nameBytes c 1):=by rw [xu];omega
    have HE:Hid (lU (lv (xG c 1)).toArray 2 (ev ⟨(nameBytes c 1).take (qo (nameBytes c 1)),num c 16⟩)=(lv (xG c 2)).toArray):=by
     show _=_;rw [Wp c 1 om];exact Ud (xG c 1) 1 (by rw [LG];omega) (Ea c 1)
    have hel:=LG c 1;clear hL
    go_wp2_with fail
    refine Hc.mono ?_;rintro e w1 ⟨⟨r2,r3,rfl⟩,hb1⟩;have L1:=HL.later hb1;have hcv1:=JO ((nameBytes c 1).take (qo (nameBytes c 1))) (MB (FD L1.drew.o0 1) _) 46;rw [htl] at hcv1;have l1:=gZ L1.drew.o0 hc;have l2:=gY L1.drew.o0 hc;have L1:=ah L1;clear HL Hc hb1 hcut hnb c1;generalize hnm:(nameBytes c 1).take (qo (nameBytes c 1))=nm at*;generalize qo (nameBytes c 1)=m at*;generalize num c 16=fn at*;go_wp2
    go_region_law (
     go_simp;go_at_call 149;refine (uh Hn _).mono ?_;rintro e w2 ⟨rfl,hb2⟩;have L2:=L1.drew.later hb2;have hcv2:=JO nm (by rw [← hnm];exact MB (FD L2.o0 1) _) 46;rw [htl] at hcv2;have th:=iI L2.o2 2 2 (by rw [iR,dW,hel];omega);have L2:=ah L2)
    all_goals
     have L3:=L2.setCells 2 rfl 2 (ev ⟨nm,fn⟩);rw [uh HE] at L3;have L3:=ah L3;clear L2 hb2 L1;go_wp2;go_roundw
     case rel=>exact ⟨2,om,gn,uh L3⟩
     case measure=>simp [intOf]
   ·have HL:=ah (hL.alloc (.cells #[.int .u8 0] 5));have c1:(wr.alloc (.cells #[.int .u8 0] 5)).cell? ⟨wr.heap.size,0,none⟩=some (.int .u8 0):=(vX wr _ _ _ 0).trans rfl;have Hc:=ah (Wh _ _ _ (64 - 16*2 - 2) _ (FD HL.o0 2) om om _ c1);rw [hnb] at Hc;simp only [Nat.reduceMul,Nat.reduceAdd,Nat.reduceSub] at Hc;have Hn:Hid (∀ W,Calls Tryz.prog 149 #[.agg (cv c).toArray,.int .i64 32] W fun e w'=>e= .returned (.int .u16 (num c 32:Nat))∧aC W w'):=fun W=>Qu c 32 W hc om om;have hnl:=iD c 32;have hw:IntKind.i64.wrap ((num c 32:Nat):Int)=(num c 32:Nat):=Jo _ om;have htl:((nameBytes c 2).take (qo (nameBytes c 2))).length=qo (nameBytes c 2):=by rw [xu];omega
    have HE:Hid (lU (lv (xG c 2)).toArray 4 (ev ⟨(nameBytes c 2).take (qo (nameBytes c 2)),num c 32⟩)=(lv (xG c 3)).toArray):=by
     show _=_;rw [Wp c 2 om];exact Ud (xG c 2) 2 (by rw [LG];omega) (Ea c 2)
    have hel:=LG c 2;clear hL
    go_wp2_with fail
    refine Hc.mono ?_;rintro e w1 ⟨⟨r2,r3,rfl⟩,hb1⟩;have L1:=HL.later hb1;have hcv1:=JO ((nameBytes c 2).take (qo (nameBytes c 2))) (MB (FD L1.drew.o0 2) _) 30;rw [htl] at hcv1;have l1:=gZ L1.drew.o0 hc;have l2:=gY L1.drew.o0 hc;have L1:=ah L1;clear HL Hc hb1 hcut hnb c1;generalize hnm:(nameBytes c 2).take (qo (nameBytes c 2))=nm at*;generalize qo (nameBytes c 2)=m at*;generalize num c 32=fn at*;go_wp2
    go_region_law (
     go_simp;go_at_call 149;refine (uh Hn _).mono ?_;rintro e w2 ⟨rfl,hb2⟩;have L2:=L1.drew.later hb2;have hcv2:=JO nm (by rw [← hnm];exact MB (FD L2.o0 2) _) 30;rw [htl] at hcv2;have th:=iI L2.o2 4 2 (by rw [iR,dW,hel];omega);have L2:=ah L2)
    all_goals
     have L3:=L2.setCells 2 rfl 4 (ev ⟨nm,fn⟩);rw [uh HE] at L3;have L3:=ah L3;clear L2 hb2 L1;go_wp2;go_roundw
     case rel=>exact ⟨3,om,gn,uh L3⟩
     case measure=>simp [intOf]
   ·have HL:=ah (hL.alloc (.cells #[.int .u8 0] 5));have c1:(wr.alloc (.cells #[.int .u8 0] 5)).cell? ⟨wr.heap.size,0,none⟩=some (.int .u8 0):=(vX wr _ _ _ 0).trans rfl;have Hc:=ah (Wh _ _ _ (64 - 16*3 - 2) _ (FD HL.o0 3) om om _ c1);rw [hnb] at Hc;simp only [Nat.reduceMul,Nat.reduceAdd,Nat.reduceSub] at Hc;have Hn:Hid (∀ W,Calls Tryz.prog 149 #[.agg (cv c).toArray,.int .i64 48] W fun e w'=>e= .returned (.int .u16 (num c 48:Nat))∧aC W w'):=fun W=>Qu c 48 W hc om om;have hnl:=iD c 48;have hw:IntKind.i64.wrap ((num c 48:Nat):Int)=(num c 48:Nat):=Jo _ om;have htl:((nameBytes c 3).take (qo (nameBytes c 3))).length=qo (nameBytes c 3):=by rw [xu];omega
    have HE:Hid (lU (lv (xG c 3)).toArray 6 (ev ⟨(nameBytes c 3).take (qo (nameBytes c 3)),num c 48⟩)=(lv (xG c 4)).toArray):=by
     show _=_;rw [Wp c 3 om];exact Ud (xG c 3) 3 (by rw [LG];omega) (Ea c 3)
    have hel:=LG c 3;clear hL
    go_wp2_with fail
    refine Hc.mono ?_;rintro e w1 ⟨⟨r2,r3,rfl⟩,hb1⟩;have L1:=HL.later hb1;have hcv1:=JO ((nameBytes c 3).take (qo (nameBytes c 3))) (MB (FD L1.drew.o0 3) _) 14;rw [htl] at hcv1;have l1:=gZ L1.drew.o0 hc;have l2:=gY L1.drew.o0 hc;have L1:=ah L1;clear HL Hc hb1 hcut hnb c1;generalize hnm:(nameBytes c 3).take (qo (nameBytes c 3))=nm at*;generalize qo (nameBytes c 3)=m at*;generalize num c 48=fn at*;go_wp2
    go_region_law (
     go_simp;go_at_call 149;refine (uh Hn _).mono ?_;rintro e w2 ⟨rfl,hb2⟩;have L2:=L1.drew.later hb2;have hcv2:=JO nm (by rw [← hnm];exact MB (FD L2.o0 3) _) 14;rw [htl] at hcv2;have th:=iI L2.o2 6 2 (by rw [iR,dW,hel];omega);have L2:=ah L2)
    all_goals
     have L3:=L2.setCells 2 rfl 6 (ev ⟨nm,fn⟩);rw [uh HE] at L3;have L3:=ah L3;clear L2 hb2 L1;go_wp2;go_roundw
     case rel=>exact ⟨4,om,gn,uh L3⟩
     case measure=>simp [intOf]
  ·have hk4:k=4:=om;subst hk4;rw [aol] at hL;have hel:=Df c;have l1:=fD hL.o2 (n:=8) (by rw [dW,hel]);have l2:=fG hL.o2 (n:=8) (by rw [dW,hel]);have th:=iI hL.o1 0 8 (by simp [dW,zl]);have hset:=hL.setCells 1 rfl 0 (lv (aY c));rw [qw _ _ (by simp [dW,zl,hel])] at hset;have l3:=fD hset.o1 (n:=8) (by rw [dW,hel]);have l4:=fG hset.o1 (n:=8) (by rw [dW,hel]);have HB:=ah hset.below;clear hL hset;go_wp2;refine gV (qK Tryz.results141 ⟨w.heap.size+1,0,none⟩ rfl ?_) rfl ⟨rfl,uh HB⟩;rw [xM,xX l3,l4]
theorem J6 (w:World) (v:Nat) (Cv Lv:Value) (V:aB) (h:aN w v Cv Lv V) (h5:5<V.C.length):
  Calls Tryz.prog 83 #[.pointer (some ⟨v,0,none⟩)] w fun e w'=>e= .returned (.agg (lv (aY (cl V.C 5))).toArray)∧aC w w':=by
 have L0:=dU.one w (.cells (lv zl).toArray 144);have Ha:=ah (Np _ v Cv Lv V (h.below L0.below) 5 h5);have Hh:Hid (∀ W,_):=fun W=>apZ W (cl V.C 5) (iM h.kE h5);have hel:=Df (cl V.C 5);have L0:=ah L0;clear h;generalize aY (cl V.C 5)=E at*;generalize cl V.C 5=c at*
 go_enter Tryz.func83,Tryz.ntmps83
 go_wp2_with fail
 refine Ha.mono ?_;rintro e w1 ⟨rfl,hb1⟩;have L1:=ah (L0.later hb1);clear Ha L0 hb1
 go_wp2_with fail
 refine (uh Hh w1).mono ?_;rintro e w2 ⟨rfl,hb2⟩;have L2:=L1.later hb2;have th:=iI L2.o0 0 8 (by simp [dW,zl]);have hset:=L2.setCells 0 rfl 0 (lv E);rw [jL,qw _ _ (by simp [dW,zl,hel])] at hset;have l3:=fD hset.o0 (n:=8) (by rw [dW,hel]);have l4:=fG hset.o0 (n:=8) (by rw [dW,hel]);have HB:=ah hset.below;clear hset L2 L1 hb2 Hh;go_wp2;refine gV (qK Tryz.results83 ⟨w.heap.size,0,none⟩ rfl ?_) rfl ⟨rfl,uh HB⟩;rw [xM,xX l3,l4]
def BQ (E:List aX):Nat→Nat→Nat
 | 0,k=>k
 | m+1,k=>if (E.getD k ze).first=0 then k else BQ E m (k+1)
def lenOf (E:List aX):Nat:=BQ E 4 0
theorem ahY (E:List aX): ∀ m k,BQ E m k≤k+m
 | 0,k=>by simp [BQ]
 | m+1,k=>by
  rw [BQ];split
  ·omega
  ·have:=ahY E m (k+1);omega
theorem zU (E:List aX):lenOf E≤4:=by have:=ahY E 4 0;unfold lenOf;omega
theorem agn {w:World} {b:Nat} {E:List aX} {t:TypeId} {fr:Nat × Nat} (h:w.heap[b]? = some (.cells (lv E).toArray t fr)) (k:Nat) (hk:k<E.length):w.cell? ⟨b,k*2+1,none⟩=some (.int .i64 (((E.getD k ze).first:Nat):Int)):=by
 rw [aG h,bW];clear h
 induction E generalizing k with
 | nil=>simp at hk
 | cons a r ih=>
  rw [show lv (a :: r)=ev a++lv r from rfl];cases k with
  | zero=>rfl
  | succ k=>
   rw [nP (by simp [ev];omega),show (k+1)*2+1 - (ev a).length=k*2+1 by simp [ev];omega,ih k (by simpa using hk)]
   simp
theorem NT (w:World) (E:List aX) (hE:E.length=4):
  Calls Tryz.prog 85 #[.agg (lv E).toArray] w fun e w'=>e= .returned (.int .i64 (lenOf E:Nat))∧aC w w':=by
 have L0:=ah (dU.one w (.cells (lv E).toArray 144))
 go_enter Tryz.func85,Tryz.ntmps85
 go_wp2
 go_loopw [3] (fun i w'=> ∃ k:Nat,k≤4∧i= .int .i64 k∧dU w w' [.cells (lv E).toArray 144]∧lenOf E=BQ E (4 - k) k) (fun i _=>4 - (intOf i).toNat)
 case atStart=>exact ⟨0,om,rfl,uh L0,rfl⟩
 case round=>
  obtain ⟨k,hk,rfl,hL,hl⟩:=hrel;clear L0
  by_cases hlt:k<4
  ·have hki:(k:Int)<4:=om;have dk:decide ((k:Int)<4)=true:=by simpa using hki
   have c1:=agn hL.o0 k om;have hs:BQ E (4 - k) k=if (E.getD k ze).first=0 then k else BQ E (4 - (k+1)) (k+1):=by
    rw [show 4 - k=(4 - (k+1))+1 by omega,BQ]
   rw [hs] at hl;generalize (E.getD k ze).first=fn at*;have HB:=ah hL.below;have HL:=ah hL;clear hL hs
   by_cases h0:fn=0
   ·rw [au h0] at hl;have Hl:=ah hl;subst h0;clear hl;go_wp2;go_ret;exact ⟨by rw [uh Hl];rfl,uh HB⟩
   ·rw [ak h0] at hl;have Hl:=ah hl;have d0:(((fn:Nat):Int) != 0)=true:=by rw [nR];omega
    clear hl;go_wp2;go_roundw
    case rel=>exact ⟨k+1,om,gn,uh HL,uh Hl⟩
    case measure=>exact cO
  ·have hk4:k=4:=om;subst hk4;have Hl:=ah hl;have HB:=ah hL.below;clear hl hL;go_wp2;go_ret;exact ⟨by rw [uh Hl];rfl,uh HB⟩
end
section
open Go.RowKit Go.Shelf
attribute [local go_sem ↓] dw fP fZ kS mP mV jJ kJ jY jU lD lH kQ ku kT mQ mW lZ ny jG qc qP qQ qF xM EF EI ED DZ
attribute [local go_sem] dK fO fV gK gy aV kX mG mM mJ mF gI jK kH jX kZ kW iJ jW lq lC lu kF jc jd lY l7 kG kY mO nI lT mD nH qh qM qO qN qL xX Ey EC Ez Ew Dz
attribute [local go_sem] pW pV Oper.semAt_some
def aic (a:Addr):Sem Value:=loadVar 142 a
theorem IV (a:Addr):loadVar 142 a=aic a:=rfl
theorem I9 {w:World} {b o:Nat} (h:dN w b o 2):(aic ⟨b,o,none⟩).run Tryz.prog w= .ok (.agg (dI w b o 2).toArray) w:=
 AX h 142 _ Tryz.underlying142 rfl kr
def alg:Sem Value:=zeroValue 142
theorem Jl:zeroValue 142=alg:=rfl
theorem Jb (w:World):alg.run Tryz.prog w= .ok (.agg (ev ze).toArray) w:=
 (uI (P:=Tryz.prog) (t:=142) (v:= .agg (ev ze).toArray) (n:=2) kr).1 w
theorem Ja {w:World} {z p:aX}:
  (Yz ⟨w.heap.size,0,none⟩ (.agg (ev p).toArray)).run Tryz.prog (w.alloc (.cells (ev z).toArray 142))= .ok () (w.alloc (.cells (ev p).toArray 142)):=
 FY w 142 (ev z).toArray (ev p).toArray (by simp only [ev];kernel_rfl) (by simp [ev]) (vg (aaV p))
attribute [local go_sem ↓] IV Jl
attribute [local go_sem] I9 Jb Ja
theorem Fe {w:World} {b:Nat} {E:List aX} {t:TypeId} {fr:Nat × Nat} (h:w.heap[b]? = some (.cells (lv E).toArray t fr)) (k:Nat) (hk:k<E.length):w.rangeAt b (k*2) (ev (E.getD k ze)):=fun j x hx=>by
 have hj:j<2:=by have:=(FW.1 hx).1;simpa [ev] using this
 rw [aG h,bW,← hx];clear h hx
 induction E generalizing k with
 | nil=>simp at hk
 | cons a r ih=>
  rw [show lv (a :: r)=ev a++lv r from rfl];cases k with
  | zero=>rw [yV,qR,oJ (by simp [ev];omega)];rfl
  | succ k=>
   rw [nP (by simp [ev];omega),show (k+1)*2+j - (ev a).length=k*2+j by simp [ev];omega,ih k (by simpa using hk)]
   simp
def zZ (C:List aj):List Nat:=((aY (cl C 5)).take (lenOf (aY (cl C 5)))).map (·.first)
def bK (V:aB):List Nat:=num (cl V.C 0) 6 :: zZ V.C
theorem ajo (C:List aj) (k:Nat) (hk:k<lenOf (aY (cl C 5))):((aY (cl C 5)).getD k ze).first ∈ zZ C:=by
 have h4:=zU (aY (cl C 5));have hl:=Df (cl C 5);unfold zZ;refine gQ.2 ⟨(aY (cl C 5)).getD k ze,?_,rfl⟩;rw [aK,bI om];rw [List.mem_take_iff_getElem];exact ⟨k,om,rfl⟩
theorem aa2 {Pc:Nat→Prop} (n:Nat) (hn:10≤n) (X:Nat→Prop) (v bv B:Nat) (V:aB) (Cv Lv:Value) (w:World) (hV:aN w v Cv Lv V)
  (hbv:w.heap[bv]? = some (.cells #[.pointer (some ⟨v,0,none⟩)] 82 (0,0))) (GN: ¬ X bv) (hfv: ¬ eX v Cv Lv bv)
  (Eh: ∀ k,X k→k<w.heap.size) (h5:5<V.C.length) (hP: ∀ t ∈ bK V,Pc t):
  Lh n 173 #[.pointer (some ⟨bv,0,none⟩)] (fun x:UM Pc=> #[Value.int .i64 ((x.1:Nat):Int)]) (aT X (fun k=>B≤k) v bH) (fun ys=>ys.map (·.1)=bK V) 5 B w:=by
 intro l J W hW hBW hJ hY h0;have B0:lJ X v [(bv,.cells #[.pointer (some ⟨v,0,none⟩)] 82 (0,0))] (bH V) W:=by
  refine ⟨⟨Cv,Lv,V,hV.below hW,bH.refl V,?_⟩,?_,?_,?_⟩
  ·intro x hx;simp only [dD,jM,jO] at hx;subst hx;exact hfv
  ·intro x hx;simp only [dD,jM,jO] at hx;subst hx;exact (hW.block _ (aO hbv)).trans hbv
  ·intro x hx;simp only [dD,jM,jO] at hx;subst hx;rfl
  ·intro x hx;simp only [dD,jM,jO] at hx;subst hx;exact GN
 have qp: ∀ k,W.heap.size≤k→ ¬ X k:=fun k hk hx=>by have:=Eh _ hx;have:=hW.size;omega
 have c1:W.cell? ⟨bv,0,none⟩=some (.pointer (some ⟨v,0,none⟩)):=(aG B0.b0 0).trans rfl;have Hh:=ah (IJ W v Cv Lv V (hV.below hW) om);have hP0:Pc (num (cl V.C 0) 6):=hP _ (by simp [bK]);have B0:=ah B0;refine Zf Tryz.func173 rfl trivial ?_ rfl;simp only [Tryz.ntmps173,iR,iQ,vk,Nat.reduceAdd,Nat.reduceSub,A8,Ba,Bc,Bd,ql,sO]
 gi_wp2_with fail
 refine ⟨trivial,fun _=>om,(eY.2 Hh).mono ?_⟩;rintro e W1 ⟨rfl,hb1⟩;have B1:=B0.below hb1;have hJ1:J [] W1:=hJ [] W W1 none h0 ⟨hb1.os,hb1.tape,hb1.output,hb1.size,fun k hk _=>hb1.block k hk⟩ (fun r e=>by cases e);obtain ⟨fn,tmps,assign,body,hy,hR⟩:=hY [] ⟨num (cl V.C 0) 6,hP0⟩ W1 hJ1 sm;dsimp only at hy;have B1:=ah B1;have hw1:=hb1.size;clear Hh B0 hb1 h0 c1 hbv
 gi_wp2_with fail
 refine ⟨fun _=>om,hR.mono ?_⟩;rintro e W3 ⟨rfl,hJ3,hK3⟩;have B3:=B1.wU (fun _ _ a b=>bH.trans a b) hK3;obtain ⟨C3,L3,V3,hV3,hS3,hf3⟩:=B3.bP;have c3:W3.cell? ⟨bv,0,none⟩=some (.pointer (some ⟨v,0,none⟩)):=(aG B3.b0 0).trans rfl;have hs3:W.heap.size≤W3.heap.size:=by have:=hK3.1;omega
 have Hl:=ah (J6 W3 v C3 L3 V3 hV3 (by rw [hS3.len];exact h5));rw [hS3.low 5 om] at Hl;have hel:=Df (cl V.C 5);have B3:=ah B3;have HJ3:=ah hJ3;clear hR hy hJ1 B1 hK3 hJ3 hV3 hf3
 gi_wp2_with fail
 refine ⟨trivial,fun _=>om,(eY.2 Hl).mono ?_⟩;rintro e W4 ⟨rfl,hb4⟩;have hs4:W.heap.size≤W4.heap.size:=by have:=hb4.size;omega
 have B4:=(B3.below hb4).lay (.cells (lv (aY (cl V.C 5))).toArray 144) rfl (qp _ hs4);have hJ4:J [⟨num (cl V.C 0) 6,hP0⟩] (W4.alloc (.cells (lv (aY (cl V.C 5))).toArray 144)):=hJ.alloc _ (hJ _ W3 W4 none HJ3 ⟨hb4.os,hb4.tape,hb4.output,hb4.size,fun k hk _=>hb4.block k hk⟩ (fun r e=>by cases e));have B4:=ah (B4.sub (cs:=[(W4.heap.size,.cells (lv (aY (cl V.C 5))).toArray 144 (0,0))]) sm);have l1:=fD B4.b0 (n:=8) (by rw [dW,hel]);have l2:=fG B4.b0 (n:=8) (by rw [dW,hel]);have Hn:=ah (NT (W4.alloc (.cells (lv (aY (cl V.C 5))).toArray 144)) (aY (cl V.C 5)) hel);have hl4:=zU (aY (cl V.C 5));have HJ4:=ah hJ4;have QY:zl.length=4:=rfl;have Ee: ∀ k,k<lenOf (aY (cl V.C 5))→Pc ((aY (cl V.C 5)).getD k ze).first:=fun k hk=>hP _ (MP _ (ajo V.C k hk));have hfo:bK V=num (cl V.C 0) 6 :: ((aY (cl V.C 5)).take (lenOf (aY (cl V.C 5)))).map (·.first):=rfl;have KY:=ah hfo;clear Hl HJ3 B3 hb4 c3 hJ4 hP hfo
 generalize aY (cl V.C 5)=E at*
 gi_wp2_with fail
 refine ⟨trivial,fun _=>om,(eY.2 Hn).mono ?_⟩;rintro e W5 ⟨rfl,hb5⟩;have B5:=ah (B4.below hb5);have HJ5:Hid (J [⟨num (cl V.C 0) 6,hP0⟩] W5):=hJ _ _ W5 none HJ4 ⟨hb5.os,hb5.tape,hb5.output,hb5.size,fun k hk _=>hb5.block k hk⟩ (fun r e=>by cases e);clear Hn HJ4 B4 l1 l2 hb5;generalize hL0:lenOf E=L0 at*;have Fv:(L0:Int)≤4:=om
 gi_wp2
 gi_loopw [5,18] (fun _ i wr=> ∃ (k:Nat) (ys:List (UM Pc)),k≤L0∧i= .int .i64 k∧lJ X v [(W4.heap.size,.cells (lv E).toArray 144 (0,0))] (bH V) wr∧ys.map (·.1)=(E.take k).map (·.first)∧ys.length=k∧J (⟨num (cl V.C 0) 6,hP0⟩ :: ys) wr) (fun _ i _=>L0 - (intOf i).toNat)
 case atStart=>exact ⟨0,[],om,rfl,uh B5,rfl,rfl,uh HJ5⟩
 case round=>
  obtain ⟨k,ys,hk,rfl,hB,hys,hyl,BK⟩:=hrel;clear B5 HJ5
  by_cases hlt:k<L0
  ·have hki:(k:Int)<(L0:Int):=om;have yF:k<E.length:=om;have l1:=sV (n:=2) (Fe hB.b0 k yF) rfl;have l2:=qX (n:=2) (Fe hB.b0 k yF) rfl;have hpk:=Ee k om;have htk:(E.take (k+1)).map (·.first)=(E.take k).map (·.first)++[(E.getD k ze).first]:=by
    rw [yU yF,rE,aK,bI yF];rfl
   have VE:=ah htk;generalize E.getD k ze=p at*;have SY:J (⟨num (cl V.C 0) 6,hP0⟩ :: ys) (wr.alloc (.cells (ev p).toArray 142)):=hJ.alloc _ BK;have hBa:=ah (hB.below ((bG _ _).alloc (aP _) (.cells (ev p).toArray 142)));have c5:(wr.alloc (.cells (ev p).toArray 142)).cell? ⟨wr.heap.size,1,none⟩=some (.int .i64 (p.first:Nat)):=(vX wr _ _ _ 1).trans rfl;obtain ⟨fn2,Ox,assign2,body2,hy2,hR2⟩:=hY _ ⟨p.first,hpk⟩ _ SY (by simp;omega);dsimp only at hy2;clear htk BK SY hB;generalize p.first=pf at*
   gi_wp2
   refine ⟨fun _=>om,hR2.mono ?_⟩;rintro e W6 ⟨rfl,hJ6,hK6⟩;have B6:=ah (hBa.wU (fun _ _ a b=>bH.trans a b) hK6);clear hK6 hBa hR2 hy2
   gi_wp2
   go_roundw
   case rel=>exact ⟨k+1,ys++[⟨pf,hpk⟩],om,gn,uh B6,by rw [uh VE,rE,hys];rfl,by simp;omega,by rw [sO] at hJ6;exact hJ6⟩
   case measure=>exact cO
  ·have xK:k=L0:=om;subst xK
   gi_wp2
   go_end0
   exact ⟨⟨_,rfl⟩,_,by rw [uh KY,jC,hys],BK⟩
end
section
open Go.RowKit Go.Shelf
attribute [local go_sem ↓] dw fP fZ kS mP mV jJ kJ jY jU lD lH kQ ku kT mQ mW lZ ny jG qc qP qQ qF xM EF EI ED DZ
attribute [local go_sem] dK fO fV gK gy aV kX mG mM mJ mF gI jK kH jX kZ kW iJ jW lq lC lu kF jc jd lY l7 kG kY mO nI lT mD nH qh qM qO qN qL xX Ey EC Ez Ew Dz
attribute [local go_sem] pW pV Oper.semAt_some
def pI (k:List UInt8) (n:Nat):Nat:=if aI k (n%32768)=1 then n%32768+32768 else n
theorem abN (k:List UInt8):Marks (pI k):=by
 intro n hn h0 h6;unfold pI
 split <;> omega
theorem aqc (k:List UInt8) (hk:k.length=256) (bk M:Nat) (hM:M≤256):Zq 167 #[.pointer (some ⟨bk,0,none⟩)] [(bk,.cells (cv k).toArray 123 (0,0))] (pI k) M:=by
 intro W n hcb hn h0 hc;have hb:=hcb (bk,.cells (cv k).toArray 123 (0,0)) sm;have Hc:=ah (BH n hn W);have HL:Hid (pI k n=if aI k (n%32768)=1 then n%32768+32768 else n):=rfl;have c1:W.cell? ⟨bk,n%32768,none⟩=some (.int .u8 (aI k (n%32768):Nat)):=by rw [aG hb,bW,uO _ _ om]
 have Ho:=ah (XK (n%32768) om W);have hbl:=tV k (n%32768);have hci:((n%32768:Nat):Int)<256:=om;clear hcb hb;generalize aI k (n%32768)=bb at*;generalize n%32768=cc at*
 by_cases h1:bb=1
 ·rw [au h1] at HL;subst h1
  go_enter Tryz.func167,Tryz.ntmps167
  go_wp2_with fail
  refine Hc.mono ?_;rintro e w1 ⟨rfl,rfl⟩
  go_wp2_with fail
  refine Ho.mono ?_;rintro e w1 ⟨rfl,rfl⟩;go_wp2;go_ret;exact ⟨by rw [uh HL];rfl,rfl⟩
 ·rw [ak h1] at HL;have d1:(((bb:Nat):Int) == 1)=false:=by rw [lI];omega
  go_enter Tryz.func167,Tryz.ntmps167
  go_wp2_with fail
  refine Hc.mono ?_;rintro e w1 ⟨rfl,rfl⟩;go_wp2;go_ret;exact ⟨by rw [uh HL];rfl,rfl⟩
def gJ (V:aB) (t:Nat):Prop:=qW V t∧Ai (qW V) V.C t
theorem bH.atZ {A B:aB} (h:bH A B) (k:bH B A):qW B=qW A:=by
 funext t
 exact propext ⟨fun x=>k.Ov x,fun x=>h.Ov x⟩
theorem bH.symm {A B:aB} (h:bH A B):bH B A:=⟨h.len.symm,fun t ht=>(h.low t ht).symm,fun t i hi=>(h.zero t i hi).symm,fun t i hi=>(h.same t i hi).symm⟩
theorem bH.Di {A B:aB} (h:bH A B) {t:Nat} (ht:gJ A t):gJ B t:=by
 unfold gJ;rw [h.atZ h.symm];exact ⟨ht.1,h.ok ht.2⟩
theorem YJ {V:aB} {f:Nat} (hf:gJ V f): ∀ t ∈ sN V f,qW V t:=by
 intro t ht;unfold sN at ht;rcases dD.1 ht with rfl | ht
 ·exact hf.1
 ·unfold dL at ht;obtain ⟨n,hn,rfl⟩:=gQ.1 ht;obtain ⟨hn1,hn2⟩:=U7.1 hn;obtain ⟨i,hi,rfl⟩:=List.mem_iff_getElem.1 hn1
  have:=(hf.2 i).2
  rw [aK,bI hi] at this;exact this (by simpa using hn2)
def wz (k:List UInt8) (V:aB) (fs:List Nat):aB:=fs.foldl (fun V f=>qY (pI k) V (sN V f)) V
theorem aqb (k:List UInt8) (V:aB) (fs:List Nat) (f:Nat):wz k V (fs++[f])=qY (pI k) (wz k V fs) (sN (wz k V fs) f):=by simp [wz]
theorem air (k:List UInt8): ∀ (fs:List Nat) (V:aB),(∀ f ∈ fs,gJ V f)→bH V (wz k V fs)
 | [],V,_=>bH.refl V
 | f :: fs,V,h=>by
  have h1:=QI (abN k) (sN V f) V (YJ (h f sm));exact h1.trans (air k fs _ (fun x hx=>h1.Di (h x (by simp [hx]))))
theorem Xi (k:List UInt8): ∀ (fs:List Nat) (V:aB),(wz k V fs).L.length≤V.L.length+66*fs.length
 | [],_=>by simp [wz]
 | f :: fs,V=>by
  have h1:=Uo (pI k) (sN V f) V;have h2:=Xi k fs (qY (pI k) V (sN V f));have h3:=adl V f;show (wz k (qY (pI k) V (sN V f)) fs).L.length≤_;simp only [iQ];omega
def sF (V:aB):aB:=wz (aJ V.C) V (bK V)
theorem aiv (w:World) (v:Nat) (Cv Lv:Value) (V:aB) (h:aN w v Cv Lv V) (h5:5<V.C.length) (hC:V.C.length≤256) (hL:V.L.length≤700000000) (hF: ∀ f ∈ bK V,gJ V f):
  CallsIn Fence.wide 100 Tryz.prog 114 #[.pointer (some ⟨v,0,none⟩)] w fun e w'=>e= .returned (.tuple #[])∧ ∃ C1 L1,bZ w w' v Cv Lv C1 L1 (sF V):=by
 have E0:=(Env.start h).lay (.cells #[.pointer (some ⟨v,0,none⟩)] 82);have c0:(w.alloc (.cells #[.pointer (some ⟨v,0,none⟩)] 82)).cell? ⟨w.heap.size,0,none⟩=some (.pointer (some ⟨v,0,none⟩)):=(aG E0.o0 0).trans rfl;have Hc:=ah (Lr _ v Cv Lv V E0.at' om);have hkl:=BI V.C h.kE om;have HV:Hid (sF V=wz (aJ V.C) V (bK V)):=rfl;have E0:=ah E0;clear h;generalize aJ V.C=k at*;refine callsIn_of_wp_marks Tryz.func114 rfl trivial ?_ rfl;simp only [Tryz.ntmps114,iR,iQ,vk,Nat.reduceAdd,Nat.reduceSub,A8,Ba,Bc,Bd,ql,sO]
 gi_wp2_with fail
 refine ⟨trivial,(eY.2 Hc).mono ?_⟩;rintro e W1 ⟨rfl,hb1⟩;have E1:=(E0.later hb1).lay (.cells (cv k).toArray 123);have E1':=E1.lay (.cells #[.nilFunc] 206);simp only [jB] at E1';have c189:((W1.alloc (.cells (cv k).toArray 123)).alloc (.cells #[.nilFunc] 206)).cell? ⟨W1.heap.size+1,0,none⟩=some .nilFunc:=(aG E1'.o0 0).trans rfl;have f189:=eG E1'.o0;have E2:=E1'.put (o':= .cells #[.func (.func 167) #[] #[.pointer (some ⟨W1.heap.size,0,none⟩)]] 206 (0,0)) (by
  intro y hy;simp only [dD,jM,jO] at hy;have h1:=aO E0.o0;have h2:=hb1.size;rcases hy with rfl | rfl
  ·dsimp only;omega
  ·dsimp only;omega) (Kept.only _ (W1.heap.size+1) 0 (.func (.func 167) #[] #[.pointer (some ⟨W1.heap.size,0,none⟩)])) (heap_setCell_same _ _ _ _ _ _ _ E1'.o0)
 generalize hW2:World.setCell _ ⟨W1.heap.size+1,0,none⟩ (.func (.func 167) #[] #[.pointer (some ⟨W1.heap.size,0,none⟩)])=W2 at E2;have hst:(store ⟨W1.heap.size+1,0,none⟩ (.func (.func 167) #[] #[.pointer (some ⟨W1.heap.size,0,none⟩)])).run Tryz.prog ((W1.alloc (.cells (cv k).toArray 123)).alloc (.cells #[.nilFunc] 206))= .ok () W2:=by
  rw [run_store Tryz.prog _ _ _ _ rfl,c189];simp [f189,hW2]
 have c2:W2.cell? ⟨w.heap.size,0,none⟩=some (.pointer (some ⟨v,0,none⟩)):=(aG E2.o2 0).trans rfl;have Hm:=ah (SN W2 v);have E3:=ah (E2.lay (.cells #[.pointer (some ⟨v,0,none⟩)] 82));clear E2 E1';clear E1 Hc E0 c0 hb1
 gi_wp2_with fail
 refine ⟨trivial,(eY.2 Hm).mono ?_⟩;rintro e W2' ⟨rfl,rfl⟩
 gi_wp2_with fail
 clear c2 Hm hW2 c189 f189 hst;generalize W2.alloc (.cells #[.pointer (some ⟨v,0,none⟩)] 82)=W3 at*;have hs3:w.heap.size≤W3.heap.size:=E3.step.kept.size;have wS:=aa2 (Pc:=gJ V) 99 om (fun _=>False) v (W2.heap.size) (W3.heap.size+2) V Cv Lv W3 E3.at' E3.o0 id E3.n0 (fun _ h=>False.elim h) h5 hF;have E4:=ah (E3.sub (cs:=[(W1.heap.size+1,.cells #[.func (.func 167) #[] #[.pointer (some ⟨W1.heap.size,0,none⟩)]] 206 (0,0)),(W1.heap.size,.cells (cv k).toArray 123 (0,0)),(w.heap.size,.cells #[.pointer (some ⟨v,0,none⟩)] 82 (0,0))]) sm);clear E3;refine QF om (gf:=173) (lb:= #[.pointer (some ⟨W2.heap.size,0,none⟩)]) rfl (enters_of Tryz.func173 kr rfl) wS
  (fun A B C h k=>aT.trans (R:=bH) (fun _ _ _ a b=>a.trans b) h k) (fun W o o' hl hc=>aT.turn bH.refl W _ o o' hl hc om) (bG _ _) (fun _=>rfl)
  (fun pre W'=> ∃ C1 L1,Env w W' v Cv Lv C1 L1 (wz k V (pre.map (·.1))) [(W1.heap.size+1,.cells #[.func (.func 167) #[] #[.pointer (some ⟨W1.heap.size,0,none⟩)]] 206 (0,0)),(W1.heap.size,.cells (cv k).toArray 123 (0,0)),(w.heap.size,.cells #[.pointer (some ⟨v,0,none⟩)] 82 (0,0))])
  (fun _ _ _ _ hs hg hr=>by obtain ⟨C1,L1,hE⟩:=hs;exact ⟨C1,L1,Env.pO hE hs3 (by simp [Obj.isCells]) hg hr⟩)
  ⟨Cv,Lv,uh E4⟩
  (fun x a' _=>a'={ tmps:= #[.pointer (some ⟨v,0,none⟩),.pointer (some ⟨w.heap.size,0,none⟩),.pointer (some ⟨W1.heap.size,0,none⟩),.pointer (some ⟨W1.heap.size+1,0,none⟩),.int .i64 ((x.1:Nat):Int),.pointer (some ⟨v,0,none⟩),.agg (cv k).toArray,.func (.func 167) #[] #[.pointer (some ⟨W1.heap.size,0,none⟩)],.pointer (some ⟨v,0,none⟩),.func (.func 173) #[] #[.pointer (some ⟨W2.heap.size,0,none⟩)],.int .i64 ((x.1:Nat):Int),undef,undef,undef,undef],defers:=[] })
  (fun _ _ _ _ _ _ hs _ _=>hs)
  ?assign ?body ?done
 case assign=>
  rintro l pre x W' K hi hK
  gi_wp2
  exact hK _ _ (KeepsFrom.refl _ _) (aT.below bH.refl (bG _ _)) hi rfl
 case done=>
  rintro D ys W' hD hS ⟨C1,L1,hE⟩ hK
  gi_wp2
  refine ⟨sm,.inl ⟨_,_,rfl,run_takeDeferred hK,?_⟩⟩;have hg:=grownBy_putObj' W' D (.deferred none);have hk:Kept (fun k=>k=D) W' (W'.putObj D (.deferred none)):=⟨hg.os,hg.tape,hg.output,hg.size,fun k hk hs=>hg.block k hk (fun e=>hs (by injection e))⟩;refine ⟨_,CJ rfl _ _ _,rfl,C1,L1,?_⟩;rw [uh HV,← hS];exact hE.step.own hk (by rintro k rfl;exact ⟨om,hE.at'.Qp hK rfl⟩)
 case body=>
  rintro l pre x a' W hl ⟨r,hr⟩ ⟨C1,L1,hE⟩ rfl hlen;have hall: ∀ t ∈ pre.map (·.1),gJ V t:=by
   intro t ht;obtain ⟨y,_,rfl⟩:=gQ.1 ht;exact y.2
  have hS1:=air k (pre.map (·.1)) V hall;have Aw:=Xi k (pre.map (·.1)) V;rw [tH] at Aw;have hx1:=hS1.Di x.2;have WZ:wz k V (pre.unattach++[x.1])=qY (pI k) (wz k V (pre.map (·.1))) (sN (wz k V (pre.map (·.1))) x.1):=aqb k V (pre.map fun y:UM (gJ V)=>y.1) x.1;have hS2:=QI (abN k) (sN (wz k V (pre.map (·.1))) x.1) _ (YJ hx1);have hlen1:(wz k V (pre.map (·.1))).C.length=V.C.length:=hS1.len;generalize wz k V (pre.map (·.1))=V1 at*;obtain ⟨x,hxo⟩:=x;dsimp only at*;have c0:W.cell? ⟨w.heap.size,0,none⟩=some (.pointer (some ⟨v,0,none⟩)):=(aG hE.o2 0).trans rfl;have c1:W.cell? ⟨W1.heap.size+1,0,none⟩=some (.func (.func 167) #[] #[.pointer (some ⟨W1.heap.size,0,none⟩)]):=(aG hE.o0 0).trans rfl
  have Hr:=ah (eY.1 (ajR W v C1 L1 V1 hE.at' x hx1.1 hx1.2 om om 167 #[.pointer (some ⟨W1.heap.size,0,none⟩)] [(W1.heap.size,.cells (cv k).toArray 123 (0,0))] (pI k) (abN k) (aqc k hkl W1.heap.size _ om) (enters_of Tryz.func167 kr rfl) (by
   intro y hy;simp only [dD,jM,jO] at hy;subst hy;exact ⟨hE.o1,hE.n1⟩)))
  have HE:=ah hE;clear hE wS E4
  gi_wp2_with fail
  refine ⟨trivial,(CallsIn.inRound l (eY.2 Hr)).mono ?_⟩;rintro e W5 ⟨rfl,C5,L5,hS5⟩
  gi_wp2
  refine ⟨bZ.from HE.at' hS5 _,aT.step HE.at' hS5 hS2,C5,L5,?_⟩
  first
   | exact HE.fQ hS5
   | (rw [WZ];exact HE.fQ hS5)
end
end Go.Proofs.YtknjjjenklfeoaaGreatDoor
