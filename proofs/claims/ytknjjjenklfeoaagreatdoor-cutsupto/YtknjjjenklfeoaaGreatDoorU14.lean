import Derived.Test.YtknjjjenklfeoaaGreatDoorU13
set_option maxHeartbeats 8000000
set_option maxRecDepth 100000
set_option linter.all false
namespace Go.Proofs.YtknjjjenklfeoaaGreatDoor
open Go.RowKit
section
attribute [local go_sem ↓] dw fP fV kU mZ nC jR kP kJ kF lG lI kR kQ kV ng nD l9 nJ jE pW qM qO qA xM ED EF EC DW
attribute [local go_sem] dM fO fU gW gB aV kY mP mW mQ mO gX jT kN kH lq kX iM kG lu lD lC kM jc jd nH nK kW kZ mX nT mV mM nN qc qI qK qJ qH xU Et Ew Eu Es Dy
attribute [local go_sem] pU pR
def nameBytes (c:aj) (i:Nat):List UInt8:=(c.drop (16*i+2)).take 12
def EZ (c:aj) (i:Nat):aW:=⟨(nameBytes c i).take (qC (nameBytes c i)),num c (16*i)⟩
def yB (c:aj) (k:Nat):List aW:=(List.range 4).map fun i=>if i<k then EZ c i else ze
def aZ (c:aj):List aW:=(List.range 4).map (EZ c)
def aqs (c:aj):yB c 4=aZ c:=by
 unfold yB aZ;refine Ji fun i hi=> ?_;rw [au (G9.1 hi)]
def akB (c:aj) (i:Nat) (hc:c.length=64) (hi:i<4):(nameBytes c i).length=12:=by simp [nameBytes,hc];omega
def GN {w:World} {b:Nat} {c:aj} {t:TypeId} {fr:Nat × Nat} (a:w.heap[b]? = some (.cells (cv c).toArray t fr)) (i:Nat):w.rangeAt b (16*i+2) (cv (nameBytes c i)):=fun j v hv=>by
 rw [aF a,bZ];simp only [cv,jK,nameBytes] at hv ⊢;rw [JY] at hv
 split at hv
 ·rw [Qc] at hv;exact hv
 ·cases hv
def NJ {w:World} {b o:Nat} {c:List UInt8} (h:w.rangeAt b o (cv c)) (n:Nat):w.rangeAt b o (cv (c.take n)):=fun j v hv=>by
 refine h j v ?_;simp only [cv,jK,JY] at hv ⊢
 split at hv
 ·exact hv
 ·cases hv
def YH (A B:List aW):lv (A++B)=lv A++lv B:=by simp [lv]
def Vu (L:List aW) (k:Nat) (hk:k<L.length) (p:aW):mY (lv L).toArray (2*k) (ev p)=(lv (L.set k p)).toArray:=by
 have b:L=L.take k++[L[k]]++L.drop (k+1):=by rw [tV,Wy,List.getElem_cons_drop,LP]
 have c:L.set k p=L.take k++[p]++L.drop (k+1):=by rw [List.set_eq_take_append_cons_drop,au hk];simp
 have a:=ZF (lv (L.take k)) (lv [L[k]]) (ev p) (lv (L.drop (k+1))) (by simp [lv,ev]);rw [← YH,← YH,← b,dX,yg,SV om,Nat.mul_comm] at a;rw [a,c,YH,YH];simp [lv]
def XR (c:aj) (k:Nat) (hk:k<4):yB c (k+1)=(yB c k).set k (EZ c k):=by
 refine uY fun i=> ?_;rw [uI];simp only [yB,jK,tY,Wq]
 by_cases hi:i<4
 ·rw [yR hi]
  by_cases e:k=i
  ·subst e;simp [hk]
  ·simp only [Gf,ak e]
   congr 1
   by_cases h:i<k
   ·rw [au h,au om]
   ·rw [ak h,ak om]
 ·rw [eG (by simp;omega)];split
  ·omega
  ·rfl
def MZ (c:aj) (k:Nat):(yB c k).length=4:=by simp [yB]
def Ea (c:aj):(aZ c).length=4:=by simp [aZ]
def asl (w:World) (c:aj) (hc:c.length=64):
  Calls Tryz.prog 141 #[.agg (cv c).toArray] w fun e p=>e= .returned (.agg (lv (aZ c)).toArray)∧aC w p:=by
 have G:=ah (dW.three w (.cells (cv c).toArray 38) (.cells (lv zl).toArray 144) (.cells (lv zl).toArray 144))
 go_enter Tryz.func141,Tryz.ntmps141
 go_wp2
 go_loopw [4,5,6,7,8,9] (fun _ _ _ _ _ i p=> ∃ k:Nat,k≤4∧i= .int .i64 k∧dW w p [.cells (cv c).toArray 38,.cells (lv zl).toArray 144,.cells (lv (yB c k)).toArray 144]) (fun _ _ _ _ _ i _=>4 - (intOf i).toNat)
 case atStart=>exact ⟨0,om,rfl,uh G⟩
 case round=>
  obtain ⟨k,hk,rfl,hL⟩:=hrel;clear G
  by_cases H:k<4
  ·have q:=akB c k hc H;have hcut:=ap5 (nameBytes c k);rcases (show k=0∨k=1∨k=2∨k=3 by omega) with rfl | rfl | rfl | rfl
   ·have g:=ah (hL.alloc (.cells #[.int .u8 0] 5));have c1:(wr.alloc (.cells #[.int .u8 0] 5)).cell? ⟨wr.heap.size,0,none⟩=some (.int .u8 0):=(wM wr _ _ _ 0).trans rfl;have d:=ah (XJ _ _ _ (64 - 16*0 - 2) _ (GN g.o0 0) om om _ c1);rw [q] at d;simp only [Nat.reduceMul,Nat.reduceAdd,Nat.reduceSub] at d;have u:Hid (∀ W,Calls Tryz.prog 149 #[.agg (cv c).toArray,.int .i64 0] W fun e p=>e= .returned (.int .u16 (num c 0:Nat))∧aC W p):=fun W=>RD c 0 W hc om om;have B:=iK c 0;have hw:IntKind.i64.wrap ((num c 0:Nat):Int)=(num c 0:Nat):=FY _ om;have j:((nameBytes c 0).take (qC (nameBytes c 0))).length=qC (nameBytes c 0):=by rw [yg];omega
    have v:Hid (mY (lv (yB c 0)).toArray 0 (ev ⟨(nameBytes c 0).take (qC (nameBytes c 0)),num c 0⟩)=(lv (yB c 1)).toArray):=by
     show _=_;rw [XR c 0 om];exact Vu (yB c 0) 0 (by rw [MZ];omega) (EZ c 0)
    have h:=MZ c 0;clear hL
    go_wp2_with fail
    refine d.mono ?_;rintro e C ⟨⟨D,E,rfl⟩,l⟩;have a:=g.later l;have r:=KJ ((nameBytes c 0).take (qC (nameBytes c 0))) (NJ (GN a.drew.o0 0) _) 62;rw [j] at r;have y:=iD a.drew.o0 hc;have z:=iC a.drew.o0 hc;have a:=ah a;clear g d l hcut q c1;generalize t:(nameBytes c 0).take (qC (nameBytes c 0))=nm at*;generalize qC (nameBytes c 0)=m at*;generalize num c 0=fn at*;go_wp2
    go_region_law (
     go_simp;go_at_call 149;refine (uh u _).mono ?_;rintro e F ⟨rfl,o⟩;have b:=a.drew.later o;have s:=KJ nm (by rw [← t];exact NJ (GN b.o0 0) _) 62;rw [j] at s;have A:=iW b.o2 0 2 (by rw [jm,dX,h];omega);have b:=ah b)
    all_goals
     have f:=b.setCells 2 rfl 0 (ev ⟨nm,fn⟩);rw [uh v] at f;have f:=ah f;clear b o a;go_wp2;go_roundw
     case rel=>exact ⟨1,om,gn,uh f⟩
     case measure=>simp [intOf]
   ·have g:=ah (hL.alloc (.cells #[.int .u8 0] 5));have c1:(wr.alloc (.cells #[.int .u8 0] 5)).cell? ⟨wr.heap.size,0,none⟩=some (.int .u8 0):=(wM wr _ _ _ 0).trans rfl;have d:=ah (XJ _ _ _ (64 - 16*1 - 2) _ (GN g.o0 1) om om _ c1);rw [q] at d;simp only [Nat.reduceMul,Nat.reduceAdd,Nat.reduceSub] at d;have u:Hid (∀ W,Calls Tryz.prog 149 #[.agg (cv c).toArray,.int .i64 16] W fun e p=>e= .returned (.int .u16 (num c 16:Nat))∧aC W p):=fun W=>RD c 16 W hc om om;have B:=iK c 16;have hw:IntKind.i64.wrap ((num c 16:Nat):Int)=(num c 16:Nat):=FY _ om;have j:((nameBytes c 1).take (qC (nameBytes c 1))).length=qC (nameBytes c 1):=by rw [yg];omega
    have v:Hid (mY (lv (yB c 1)).toArray 2 (ev ⟨(nameBytes c 1).take (qC (nameBytes c 1)),num c 16⟩)=(lv (yB c 2)).toArray):=by
     show _=_;rw [XR c 1 om];exact Vu (yB c 1) 1 (by rw [MZ];omega) (EZ c 1)
    have h:=MZ c 1;clear hL
    go_wp2_with fail
    refine d.mono ?_;rintro e C ⟨⟨D,E,rfl⟩,l⟩;have a:=g.later l;have r:=KJ ((nameBytes c 1).take (qC (nameBytes c 1))) (NJ (GN a.drew.o0 1) _) 46;rw [j] at r;have y:=iD a.drew.o0 hc;have z:=iC a.drew.o0 hc;have a:=ah a;clear g d l hcut q c1;generalize t:(nameBytes c 1).take (qC (nameBytes c 1))=nm at*;generalize qC (nameBytes c 1)=m at*;generalize num c 16=fn at*;go_wp2
    go_region_law (
     go_simp;go_at_call 149;refine (uh u _).mono ?_;rintro e F ⟨rfl,o⟩;have b:=a.drew.later o;have s:=KJ nm (by rw [← t];exact NJ (GN b.o0 1) _) 46;rw [j] at s;have A:=iW b.o2 2 2 (by rw [jm,dX,h];omega);have b:=ah b)
    all_goals
     have f:=b.setCells 2 rfl 2 (ev ⟨nm,fn⟩);rw [uh v] at f;have f:=ah f;clear b o a;go_wp2;go_roundw
     case rel=>exact ⟨2,om,gn,uh f⟩
     case measure=>simp [intOf]
   ·have g:=ah (hL.alloc (.cells #[.int .u8 0] 5));have c1:(wr.alloc (.cells #[.int .u8 0] 5)).cell? ⟨wr.heap.size,0,none⟩=some (.int .u8 0):=(wM wr _ _ _ 0).trans rfl;have d:=ah (XJ _ _ _ (64 - 16*2 - 2) _ (GN g.o0 2) om om _ c1);rw [q] at d;simp only [Nat.reduceMul,Nat.reduceAdd,Nat.reduceSub] at d;have u:Hid (∀ W,Calls Tryz.prog 149 #[.agg (cv c).toArray,.int .i64 32] W fun e p=>e= .returned (.int .u16 (num c 32:Nat))∧aC W p):=fun W=>RD c 32 W hc om om;have B:=iK c 32;have hw:IntKind.i64.wrap ((num c 32:Nat):Int)=(num c 32:Nat):=FY _ om;have j:((nameBytes c 2).take (qC (nameBytes c 2))).length=qC (nameBytes c 2):=by rw [yg];omega
    have v:Hid (mY (lv (yB c 2)).toArray 4 (ev ⟨(nameBytes c 2).take (qC (nameBytes c 2)),num c 32⟩)=(lv (yB c 3)).toArray):=by
     show _=_;rw [XR c 2 om];exact Vu (yB c 2) 2 (by rw [MZ];omega) (EZ c 2)
    have h:=MZ c 2;clear hL
    go_wp2_with fail
    refine d.mono ?_;rintro e C ⟨⟨D,E,rfl⟩,l⟩;have a:=g.later l;have r:=KJ ((nameBytes c 2).take (qC (nameBytes c 2))) (NJ (GN a.drew.o0 2) _) 30;rw [j] at r;have y:=iD a.drew.o0 hc;have z:=iC a.drew.o0 hc;have a:=ah a;clear g d l hcut q c1;generalize t:(nameBytes c 2).take (qC (nameBytes c 2))=nm at*;generalize qC (nameBytes c 2)=m at*;generalize num c 32=fn at*;go_wp2
    go_region_law (
     go_simp;go_at_call 149;refine (uh u _).mono ?_;rintro e F ⟨rfl,o⟩;have b:=a.drew.later o;have s:=KJ nm (by rw [← t];exact NJ (GN b.o0 2) _) 30;rw [j] at s;have A:=iW b.o2 4 2 (by rw [jm,dX,h];omega);have b:=ah b)
    all_goals
     have f:=b.setCells 2 rfl 4 (ev ⟨nm,fn⟩);rw [uh v] at f;have f:=ah f;clear b o a;go_wp2;go_roundw
     case rel=>exact ⟨3,om,gn,uh f⟩
     case measure=>simp [intOf]
   ·have g:=ah (hL.alloc (.cells #[.int .u8 0] 5));have c1:(wr.alloc (.cells #[.int .u8 0] 5)).cell? ⟨wr.heap.size,0,none⟩=some (.int .u8 0):=(wM wr _ _ _ 0).trans rfl;have d:=ah (XJ _ _ _ (64 - 16*3 - 2) _ (GN g.o0 3) om om _ c1);rw [q] at d;simp only [Nat.reduceMul,Nat.reduceAdd,Nat.reduceSub] at d;have u:Hid (∀ W,Calls Tryz.prog 149 #[.agg (cv c).toArray,.int .i64 48] W fun e p=>e= .returned (.int .u16 (num c 48:Nat))∧aC W p):=fun W=>RD c 48 W hc om om;have B:=iK c 48;have hw:IntKind.i64.wrap ((num c 48:Nat):Int)=(num c 48:Nat):=FY _ om;have j:((nameBytes c 3).take (qC (nameBytes c 3))).length=qC (nameBytes c 3):=by rw [yg];omega
    have v:Hid (mY (lv (yB c 3)).toArray 6 (ev ⟨(nameBytes c 3).take (qC (nameBytes c 3)),num c 48⟩)=(lv (yB c 4)).toArray):=by
     show _=_;rw [XR c 3 om];exact Vu (yB c 3) 3 (by rw [MZ];omega) (EZ c 3)
    have h:=MZ c 3;clear hL
    go_wp2_with fail
    refine d.mono ?_;rintro e C ⟨⟨D,E,rfl⟩,l⟩;have a:=g.later l;have r:=KJ ((nameBytes c 3).take (qC (nameBytes c 3))) (NJ (GN a.drew.o0 3) _) 14;rw [j] at r;have y:=iD a.drew.o0 hc;have z:=iC a.drew.o0 hc;have a:=ah a;clear g d l hcut q c1;generalize t:(nameBytes c 3).take (qC (nameBytes c 3))=nm at*;generalize qC (nameBytes c 3)=m at*;generalize num c 48=fn at*;go_wp2
    go_region_law (
     go_simp;go_at_call 149;refine (uh u _).mono ?_;rintro e F ⟨rfl,o⟩;have b:=a.drew.later o;have s:=KJ nm (by rw [← t];exact NJ (GN b.o0 3) _) 14;rw [j] at s;have A:=iW b.o2 6 2 (by rw [jm,dX,h];omega);have b:=ah b)
    all_goals
     have f:=b.setCells 2 rfl 6 (ev ⟨nm,fn⟩);rw [uh v] at f;have f:=ah f;clear b o a;go_wp2;go_roundw
     case rel=>exact ⟨4,om,gn,uh f⟩
     case measure=>simp [intOf]
  ·have I:k=4:=om;subst I;rw [aqs] at hL;have h:=Ea c;have y:=fH hL.o2 (n:=8) (by rw [dX,h]);have z:=fM hL.o2 (n:=8) (by rw [dX,h]);have A:=iW hL.o1 0 8 (by simp [dX,zl]);have x:=hL.setCells 1 rfl 0 (lv (aZ c));rw [qL _ _ (by simp [dX,zl,h])] at x;have J:=fH x.o1 (n:=8) (by rw [dX,h]);have K:=fM x.o1 (n:=8) (by rw [dX,h]);have L:=ah x.below;clear hL x;go_wp2;refine iy (qZ Tryz.results141 ⟨w.heap.size+1,0,none⟩ rfl ?_) rfl ⟨rfl,uh L⟩;rw [xM,xU J,K]
def Lc (w:World) (v:Nat) (Cv Lv:Value) (V:aB) (h:aP w v Cv Lv V) (j:5<V.C.length):
  Calls Tryz.prog 83 #[.pointer (some ⟨v,0,none⟩)] w fun e o=>e= .returned (.agg (lv (aZ (cl V.C 5))).toArray)∧aC w o:=by
 have b:=dW.one w (.cells (lv zl).toArray 144);have k:=ah (Oy _ v Cv Lv V (h.below b.below) 5 j);have l:Hid (∀ W,_):=fun W=>asl W (cl V.C 5) (je h.kT j);have d:=Ea (cl V.C 5);have b:=ah b;clear h;generalize aZ (cl V.C 5)=E at*;generalize cl V.C 5=c at*
 go_enter Tryz.func83,Tryz.ntmps83
 go_wp2_with fail
 refine k.mono ?_;rintro e p ⟨rfl,g⟩;have m:=ah (b.later g);clear k b g
 go_wp2_with fail
 refine (uh l p).mono ?_;rintro e t ⟨rfl,i⟩;have f:=m.later i;have u:=iW f.o0 0 8 (by simp [dX,zl]);have a:=f.setCells 0 rfl 0 (lv E);rw [jW,qL _ _ (by simp [dX,zl,d])] at a;have q:=fH a.o0 (n:=8) (by rw [dX,d]);have r:=fM a.o0 (n:=8) (by rw [dX,d]);have s:=ah a.below;clear a f m i l;go_wp2;refine iy (qZ Tryz.results83 ⟨w.heap.size,0,none⟩ rfl ?_) rfl ⟨rfl,uh s⟩;rw [xM,xU q,r]
def Dk (E:List aW):Nat→Nat→Nat
 | 0,k=>k
 | m+1,k=>if (E.getD k ze).first=0 then k else Dk E m (k+1)
def lenOf (E:List aW):Nat:=Dk E 4 0
def ajN (E:List aW): ∀ m k,Dk E m k≤k+m
 | 0,k=>by simp [Dk]
 | m+1,k=>by
  rw [Dk];split
  ·omega
  ·have:=ajN E m (k+1);omega
def AQ (E:List aW):lenOf E≤4:=by have:=ajN E 4 0;unfold lenOf;omega
def ah0 {w:World} {b:Nat} {E:List aW} {t:TypeId} {fr:Nat × Nat} (h:w.heap[b]? = some (.cells (lv E).toArray t fr)) (k:Nat) (hk:k<E.length):w.cell? ⟨b,k*2+1,none⟩=some (.int .i64 (((E.getD k ze).first:Nat):Int)):=by
 rw [aF h,bZ];clear h
 induction E generalizing k with
 | nil=>simp at hk
 | cons a r ih=>
  rw [show lv (a :: r)=ev a++lv r from rfl];cases k with
  | zero=>rfl
  | succ k=>
   rw [nP (by simp [ev];omega),show (k+1)*2+1 - (ev a).length=k*2+1 by simp [ev];omega,ih k (by simpa using hk)]
   simp
def O7 (w:World) (E:List aW) (m:E.length=4):
  Calls Tryz.prog 85 #[.agg (lv E).toArray] w fun e c=>e= .returned (.int .i64 (lenOf E:Nat))∧aC w c:=by
 have f:=ah (dW.one w (.cells (lv E).toArray 144))
 go_enter Tryz.func85,Tryz.ntmps85
 go_wp2
 go_loopw [3] (fun i c=> ∃ k:Nat,k≤4∧i= .int .i64 k∧dW w c [.cells (lv E).toArray 144]∧lenOf E=Dk E (4 - k) k) (fun i _=>4 - (intOf i).toNat)
 case atStart=>exact ⟨0,om,rfl,uh f,rfl⟩
 case round=>
  obtain ⟨k,hk,rfl,hL,a⟩:=hrel;clear f
  by_cases l:k<4
  ·have g:(k:Int)<4:=om;have n:decide ((k:Int)<4)=true:=by simpa using g
   have c1:=ah0 hL.o0 k om;have hs:Dk E (4 - k) k=if (E.getD k ze).first=0 then k else Dk E (4 - (k+1)) (k+1):=by
    rw [show 4 - k=(4 - (k+1))+1 by omega,Dk]
   rw [hs] at a;generalize (E.getD k ze).first=fn at*;have d:=ah hL.below;have j:=ah hL;clear hL hs
   by_cases h0:fn=0
   ·rw [au h0] at a;have b:=ah a;subst h0;clear a;go_wp2;go_ret;exact ⟨by rw [uh b];rfl,uh d⟩
   ·rw [ak h0] at a;have b:=ah a;have o:(((fn:Nat):Int) != 0)=true:=by rw [ou];omega
    clear a;go_wp2;go_roundw
    case rel=>exact ⟨k+1,om,gn,uh j,uh b⟩
    case measure=>exact bW
  ·have h:k=4:=om;subst h;have b:=ah a;have d:=ah hL.below;clear a hL;go_wp2;go_ret;exact ⟨by rw [uh b];rfl,uh d⟩
end
section
open Go.RowKit Go.Shelf
attribute [local go_sem ↓] dw fP fV kU mZ nC jR kP kJ kF lG lI kR kQ kV ng nD l9 nJ jE pW qM qO qA xM ED EF EC DW
attribute [local go_sem] dM fO fU gW gB aV kY mP mW mQ mO gX jT kN kH lq kX iM kG lu lD lC kM jc jd nH nK kW kZ mX nT mV mM nN qc qI qK qJ qH xU Et Ew Eu Es Dy
attribute [local go_sem] pU pR Oper.semAt_some
def aj0 (a:Addr):Sem Value:=loadVar 142 a
def IY (a:Addr):loadVar 142 a=aj0 a:=rfl
def Jc {w:World} {b o:Nat} (h:dU w b o 2):(aj0 ⟨b,o,none⟩).run Tryz.prog w= .ok (.agg (dO w b o 2).toArray) w:=
 BQ h 142 _ Tryz.underlying142 rfl kr
def ank:Sem Value:=zeroValue 142
def Jh:zeroValue 142=ank:=rfl
def Jf (w:World):ank.run Tryz.prog w= .ok (.agg (ev ze).toArray) w:=
 (uZ (P:=Tryz.prog) (t:=142) (v:= .agg (ev ze).toArray) (n:=2) kr).1 w
def Je {w:World} {z p:aW}:
  (ZO ⟨w.heap.size,0,none⟩ (.agg (ev p).toArray)).run Tryz.prog (w.alloc (.cells (ev z).toArray 142))= .ok () (w.alloc (.cells (ev p).toArray 142)):=
 Ic w 142 (ev z).toArray (ev p).toArray (by simp only [ev];kernel_rfl) (by simp [ev]) (vU (acr p))
attribute [local go_sem ↓] IY Jh
attribute [local go_sem] Jc Jf Je
def Gw {w:World} {b:Nat} {E:List aW} {t:TypeId} {fr:Nat × Nat} (h:w.heap[b]? = some (.cells (lv E).toArray t fr)) (k:Nat) (hk:k<E.length):w.rangeAt b (k*2) (ev (E.getD k ze)):=fun j x c=>by
 have hj:j<2:=by have:=(Ia.1 c).1;simpa [ev] using this
 rw [aF h,bZ,← c];clear h c
 induction E generalizing k with
 | nil=>simp at hk
 | cons a r ih=>
  rw [show lv (a :: r)=ev a++lv r from rfl];cases k with
  | zero=>rw [zS,rE,nV (by simp [ev];omega)];rfl
  | succ k=>
   rw [nP (by simp [ev];omega),show (k+1)*2+j - (ev a).length=k*2+j by simp [ev];omega,ih k (by simpa using hk)]
   simp
def AZ (C:List aj):List Nat:=((aZ (cl C 5)).take (lenOf (aZ (cl C 5)))).map (·.first)
def bP (V:aB):List Nat:=num (cl V.C 0) 6 :: AZ V.C
def alg (C:List aj) (k:Nat) (hk:k<lenOf (aZ (cl C 5))):((aZ (cl C 5)).getD k ze).first ∈ AZ C:=by
 have a:=AQ (aZ (cl C 5));have b:=Ea (cl C 5);unfold AZ;refine gY.2 ⟨(aZ (cl C 5)).getD k ze,?_,rfl⟩;rw [aN,bJ om];rw [List.mem_take_iff_getElem];exact ⟨k,om,rfl⟩
def acD {Pc:Nat→Prop} (n:Nat) (hn:10≤n) (X:Nat→Prop) (v bv B:Nat) (V:aB) (Cv Lv:Value) (w:World) (hV:aP w v Cv Lv V)
  (G:w.heap[bv]? = some (.cells #[.pointer (some ⟨v,0,none⟩)] 82 (0,0))) (IJ: ¬ X bv) (an: ¬ eX v Cv Lv bv)
  (Fq: ∀ k,X k→k<w.heap.size) (h5:5<V.C.length) (K: ∀ t ∈ bP V,Pc t):
  ML n 173 #[.pointer (some ⟨bv,0,none⟩)] (fun x:UM Pc=> #[Value.int .i64 ((x.1:Nat):Int)]) (aT X (fun k=>B≤k) v bK) (fun g=>g.map (·.1)=bP V) 5 B w:=by
 intro l J W z ar u hY h0;have y:lZ X v [(bv,.cells #[.pointer (some ⟨v,0,none⟩)] 82 (0,0))] (bK V) W:=by
  refine ⟨⟨Cv,Lv,V,hV.below z,bK.refl V,?_⟩,?_,?_,?_⟩
  ·intro x c;simp only [cO,jM,jO] at c;subst c;exact an
  ·intro x c;simp only [cO,jM,jO] at c;subst c;exact (z.block _ (aK G)).trans G
  ·intro x c;simp only [cO,jM,jO] at c;subst c;rfl
  ·intro x c;simp only [cO,jM,jO] at c;subst c;exact IJ
 have qE: ∀ k,W.heap.size≤k→ ¬ X k:=fun k hk c=>by have:=Fq _ c;have:=z.size;omega
 have c1:W.cell? ⟨bv,0,none⟩=some (.pointer (some ⟨v,0,none⟩)):=(aF y.b0 0).trans rfl;have Hh:=ah (JD W v Cv Lv V (hV.below z) om);have s:Pc (num (cl V.C 0) 6):=K _ (by simp [bP]);have y:=ah y;refine aaE Tryz.func173 rfl trivial ?_ rfl;simp only [Tryz.ntmps173,jm,iO,vV,Nat.reduceAdd,Nat.reduceSub,BX,BZ,Cb,Cc,qy,rU]
 gi_wp2_with fail
 refine ⟨trivial,fun _=>om,(fE.2 Hh).mono ?_⟩;rintro e L ⟨rfl,d⟩;have A:=y.below d;have O:J [] L:=u [] W L none h0 ⟨d.os,d.tape,d.output,d.size,fun k hk _=>d.block k hk⟩ (fun r e=>by cases e);obtain ⟨fn,tmps,assign,body,hy,hR⟩:=hY [] ⟨num (cl V.C 0) 6,s⟩ L O sm;dsimp only at hy;have A:=ah A;have av:=d.size;clear Hh y d h0 c1 G
 gi_wp2_with fail
 refine ⟨fun _=>om,hR.mono ?_⟩;rintro e D ⟨rfl,P,H⟩;have j:=A.xI (fun _ _ a b=>bK.trans a b) H;obtain ⟨C3,L3,V3,Q,R,ao⟩:=j.bH;have c3:D.cell? ⟨bv,0,none⟩=some (.pointer (some ⟨v,0,none⟩)):=(aF j.b0 0).trans rfl;have aw:W.heap.size≤D.heap.size:=by have:=H.1;omega
 have M:=ah (Lc D v C3 L3 V3 Q (by rw [R.len];exact h5));rw [R.low 5 om] at M;have I:=Ea (cl V.C 5);have j:=ah j;have S:=ah P;clear hR hy O A H P Q ao
 gi_wp2_with fail
 refine ⟨trivial,fun _=>om,(fE.2 M).mono ?_⟩;rintro e m ⟨rfl,f⟩;have aq:W.heap.size≤m.heap.size:=by have:=f.size;omega
 have o:=(j.below f).lay (.cells (lv (aZ (cl V.C 5))).toArray 144) rfl (qE _ aq);have T:J [⟨num (cl V.C 0) 6,s⟩] (m.alloc (.cells (lv (aZ (cl V.C 5))).toArray 144)):=u.alloc _ (u _ D m none S ⟨f.os,f.tape,f.output,f.size,fun k hk _=>f.block k hk⟩ (fun r e=>by cases e));have o:=ah (o.sub (cs:=[(m.heap.size,.cells (lv (aZ (cl V.C 5))).toArray 144 (0,0))]) sm);have l1:=fH o.b0 (n:=8) (by rw [dX,I]);have l2:=fM o.b0 (n:=8) (by rw [dX,I]);have Hn:=ah (O7 (m.alloc (.cells (lv (aZ (cl V.C 5))).toArray 144)) (aZ (cl V.C 5)) I);have ax:=AQ (aZ (cl V.C 5));have U:=ah T;have SL:zl.length=4:=rfl;have Fj: ∀ k,k<lenOf (aZ (cl V.C 5))→Pc ((aZ (cl V.C 5)).getD k ze).first:=fun k hk=>K _ (LX _ (alg V.C k hk));have Y:bP V=num (cl V.C 0) 6 :: ((aZ (cl V.C 5)).take (lenOf (aZ (cl V.C 5)))).map (·.first):=rfl;have MH:=ah Y;clear M S j f c3 T K Y
 generalize aZ (cl V.C 5)=E at*
 gi_wp2_with fail
 refine ⟨trivial,fun _=>om,(fE.2 Hn).mono ?_⟩;rintro e W5 ⟨rfl,h⟩;have B5:=ah (o.below h);have Z:Hid (J [⟨num (cl V.C 0) 6,s⟩] W5):=u _ _ W5 none U ⟨h.os,h.tape,h.output,h.size,fun k hk _=>h.block k hk⟩ (fun r e=>by cases e);clear Hn U o l1 l2 h;generalize az:lenOf E=q at*;have Ee:(q:Int)≤4:=om
 gi_wp2
 gi_loopw [5,18] (fun _ i wr=> ∃ (k:Nat) (g:List (UM Pc)),k≤q∧i= .int .i64 k∧lZ X v [(m.heap.size,.cells (lv E).toArray 144 (0,0))] (bK V) wr∧g.map (·.1)=(E.take k).map (·.first)∧g.length=k∧J (⟨num (cl V.C 0) 6,s⟩ :: g) wr) (fun _ i _=>q - (intOf i).toNat)
 case atStart=>exact ⟨0,[],om,rfl,uh B5,rfl,rfl,uh Z⟩
 case round=>
  obtain ⟨k,g,hk,rfl,hB,aa,aD,N⟩:=hrel;clear B5 Z
  by_cases aE:k<q
  ·have aL:(k:Int)<(q:Int):=om;have F:k<E.length:=om;have l1:=sU (n:=2) (Gw hB.b0 k F) rfl;have l2:=qU (n:=2) (Gw hB.b0 k F) rfl;have ab:=Fj k om;have ad:(E.take (k+1)).map (·.first)=(E.take k).map (·.first)++[(E.getD k ze).first]:=by
    rw [x9 F,rQ,aN,bJ F];rfl
   have Xi:=ah ad;generalize E.getD k ze=p at*;have Uz:J (⟨num (cl V.C 0) 6,s⟩ :: g) (wr.alloc (.cells (ev p).toArray 142)):=u.alloc _ N;have ae:=ah (hB.below ((bG _ _).alloc (aO _) (.cells (ev p).toArray 142)));have c5:(wr.alloc (.cells (ev p).toArray 142)).cell? ⟨wr.heap.size,1,none⟩=some (.int .i64 (p.first:Nat)):=(wM wr _ _ _ 1).trans rfl;obtain ⟨aM,PV,assign2,body2,af,ag⟩:=hY _ ⟨p.first,ab⟩ _ Uz (by simp;omega);dsimp only at af;clear ad N Uz hB;generalize p.first=pf at*
   gi_wp2
   refine ⟨fun _=>om,ag.mono ?_⟩;rintro e W6 ⟨rfl,ai,al⟩;have B6:=ah (ae.xI (fun _ _ a b=>bK.trans a b) al);clear al ae ag af
   gi_wp2
   go_roundw
   case rel=>exact ⟨k+1,g++[⟨pf,ab⟩],om,gn,uh B6,by rw [uh Xi,rQ,aa];rfl,by simp;omega,by rw [rU] at ai;exact ai⟩
   case measure=>exact bW
  ·have yG:k=q:=om;subst yG
   gi_wp2
   go_end0
   exact ⟨⟨_,rfl⟩,_,by rw [uh MH,jU,aa],N⟩
end
section
open Go.RowKit Go.Shelf
attribute [local go_sem ↓] dw fP fV kU mZ nC jR kP kJ kF lG lI kR kQ kV ng nD l9 nJ jE pW qM qO qA xM ED EF EC DW
attribute [local go_sem] dM fO fU gW gB aV kY mP mW mQ mO gX jT kN kH lq kX iM kG lu lD lC kM jc jd nH nK kW kZ mX nT mV mM nN qc qI qK qJ qH xU Et Ew Eu Es Dy
attribute [local go_sem] pU pR Oper.semAt_some
def pX (k:List UInt8) (n:Nat):Nat:=if aI k (n%32768)=1 then n%32768+32768 else n
def ads (k:List UInt8):Marks (pX k):=by
 intro n hn h0 a;unfold pX
 split <;> omega
def asC (k:List UInt8) (hk:k.length=256) (bk M:Nat) (m:M≤256):aaR 167 #[.pointer (some ⟨bk,0,none⟩)] [(bk,.cells (cv k).toArray 123 (0,0))] (pX k) M:=by
 intro W n c hn h0 hc;have d:=c (bk,.cells (cv k).toArray 123 (0,0)) sm;have f:=ah (CW n hn W);have a:Hid (pX k n=if aI k (n%32768)=1 then n%32768+32768 else n):=rfl;have c1:W.cell? ⟨bk,n%32768,none⟩=some (.int .u8 (aI k (n%32768):Nat)):=by rw [aF d,bZ,vG _ _ om]
 have i:=ah (Y9 (n%32768) om W);have j:=uy k (n%32768);have l:((n%32768:Nat):Int)<256:=om;clear c d;generalize aI k (n%32768)=g at*;generalize n%32768=o at*
 by_cases b:g=1
 ·rw [au b] at a;subst b
  go_enter Tryz.func167,Tryz.ntmps167
  go_wp2_with fail
  refine f.mono ?_;rintro e h ⟨rfl,rfl⟩
  go_wp2_with fail
  refine i.mono ?_;rintro e h ⟨rfl,rfl⟩;go_wp2;go_ret;exact ⟨by rw [uh a];rfl,rfl⟩
 ·rw [ak b] at a;have p:(((g:Nat):Int) == 1)=false:=by rw [lY];omega
  go_enter Tryz.func167,Tryz.ntmps167
  go_wp2_with fail
  refine f.mono ?_;rintro e h ⟨rfl,rfl⟩;go_wp2;go_ret;exact ⟨by rw [uh a];rfl,rfl⟩
def gU (V:aB) (t:Nat):Prop:=rJ V t∧Bo (rJ V) V.C t
def bK.awl {A B:aB} (h:bK A B) (k:bK B A):rJ B=rJ A:=by
 funext t
 exact propext ⟨fun x=>k.PU x,fun x=>h.PU x⟩
def bK.symm {A B:aB} (h:bK A B):bK B A:=⟨h.len.symm,fun t a=>(h.low t a).symm,fun t i hi=>(h.zero t i hi).symm,fun t i hi=>(h.same t i hi).symm⟩
def bK.BF {A B:aB} (h:bK A B) {t:Nat} (a:gU A t):gU B t:=by
 unfold gU;rw [h.awl h.symm];exact ⟨a.1,h.ok a.2⟩
def Z5 {V:aB} {f:Nat} (b:gU V f): ∀ t ∈ tH V f,rJ V t:=by
 intro t a;unfold tH at a;rcases cO.1 a with rfl | a
 ·exact b.1
 ·unfold dJ at a;obtain ⟨n,hn,rfl⟩:=gY.1 a;obtain ⟨c,d⟩:=SY.1 hn;obtain ⟨i,hi,rfl⟩:=List.mem_iff_getElem.1 c
  have:=(b.2 i).2
  rw [aN,bJ hi] at this;exact this (by simpa using d)
def wU (k:List UInt8) (V:aB) (fs:List Nat):aB:=fs.foldl (fun V f=>rM (pX k) V (tH V f)) V
def asB (k:List UInt8) (V:aB) (fs:List Nat) (f:Nat):wU k V (fs++[f])=rM (pX k) (wU k V fs) (tH (wU k V fs) f):=by simp [wU]
def ake (k:List UInt8): ∀ (fs:List Nat) (V:aB),(∀ f ∈ fs,gU V f)→bK V (wU k V fs)
 | [],V,_=>bK.refl V
 | f :: fs,V,h=>by
  have a:=RY (ads k) (tH V f) V (Z5 (h f sm));exact a.trans (ake k fs _ (fun x b=>a.BF (h x (by simp [b]))))
def YC (k:List UInt8): ∀ (fs:List Nat) (V:aB),(wU k V fs).L.length≤V.L.length+66*fs.length
 | [],_=>by simp [wU]
 | f :: fs,V=>by
  have a:=VI (pX k) (tH V f) V;have b:=YC k fs (rM (pX k) V (tH V f));have c:=aeV V f;show (wU k (rM (pX k) V (tH V f)) fs).L.length≤_;simp only [iO];omega
def sD (V:aB):aB:=wU (aJ V.C) V (bP V)
def akh (w:World) (v:Nat) (Cv Lv:Value) (V:aB) (h:aP w v Cv Lv V) (h5:5<V.C.length) (hC:V.C.length≤256) (hL:V.L.length≤700000000) (hF: ∀ f ∈ bP V,gU V f):
  CallsIn Fence.wide 100 Tryz.prog 114 #[.pointer (some ⟨v,0,none⟩)] w fun e w'=>e= .returned (.tuple #[])∧ ∃ g i,dF w w' v Cv Lv g i (sD V):=by
 have j:=(Env.start h).lay (.cells #[.pointer (some ⟨v,0,none⟩)] 82);have c0:(w.alloc (.cells #[.pointer (some ⟨v,0,none⟩)] 82)).cell? ⟨w.heap.size,0,none⟩=some (.pointer (some ⟨v,0,none⟩)):=(aF j.o0 0).trans rfl;have Q:=ah (MS _ v Cv Lv V j.at' om);have ab:=CY V.C h.kT om;have HV:Hid (sD V=wU (aJ V.C) V (bP V)):=rfl;have j:=ah j;clear h;generalize aJ V.C=k at*;refine callsIn_of_wp_marks Tryz.func114 rfl trivial ?_ rfl;simp only [Tryz.ntmps114,jm,iO,vV,Nat.reduceAdd,Nat.reduceSub,BX,BZ,Cb,Cc,qy,rU]
 gi_wp2_with fail
 refine ⟨trivial,(fE.2 Q).mono ?_⟩;rintro e c ⟨rfl,H⟩;have S:=(j.later H).lay (.cells (cv k).toArray 123);have p:=S.lay (.cells #[.nilFunc] 206);simp only [jV] at p;have M:((c.alloc (.cells (cv k).toArray 123)).alloc (.cells #[.nilFunc] 206)).cell? ⟨c.heap.size+1,0,none⟩=some .nilFunc:=(aF p.o0 0).trans rfl;have N:=eY p.o0;have E:=p.put (o':= .cells #[.func (.func 167) #[] #[.pointer (some ⟨c.heap.size,0,none⟩)]] 206 (0,0)) (by
  intro y u;simp only [cO,jM,jO] at u;have h1:=aK j.o0;have h2:=H.size;rcases u with rfl | rfl
  ·dsimp only;omega
  ·dsimp only;omega) (Kept.only _ (c.heap.size+1) 0 (.func (.func 167) #[] #[.pointer (some ⟨c.heap.size,0,none⟩)])) (heap_setCell_same _ _ _ _ _ _ _ p.o0)
 generalize O:World.setCell _ ⟨c.heap.size+1,0,none⟩ (.func (.func 167) #[] #[.pointer (some ⟨c.heap.size,0,none⟩)])=m at E;have ad:(store ⟨c.heap.size+1,0,none⟩ (.func (.func 167) #[] #[.pointer (some ⟨c.heap.size,0,none⟩)])).run Tryz.prog ((c.alloc (.cells (cv k).toArray 123)).alloc (.cells #[.nilFunc] 206))= .ok () m:=by
  rw [run_store Tryz.prog _ _ _ _ rfl,M];simp [N,O]
 have c2:m.cell? ⟨w.heap.size,0,none⟩=some (.pointer (some ⟨v,0,none⟩)):=(aF E.o2 0).trans rfl;have T:=ah (Uu m v);have q:=ah (E.lay (.cells #[.pointer (some ⟨v,0,none⟩)] 82));clear E p;clear S Q j c0 H
 gi_wp2_with fail
 refine ⟨trivial,(fE.2 T).mono ?_⟩;rintro e ai ⟨rfl,rfl⟩
 gi_wp2_with fail
 clear c2 T O M N ad;generalize m.alloc (.cells #[.pointer (some ⟨v,0,none⟩)] 82)=J at*;have ae:w.heap.size≤J.heap.size:=q.step.kept.size;have U:=acD (Pc:=gU V) 99 om (fun _=>False) v (m.heap.size) (J.heap.size+2) V Cv Lv J q.at' q.o0 id q.n0 (fun _ h=>False.elim h) h5 hF;have X:=ah (q.sub (cs:=[(c.heap.size+1,.cells #[.func (.func 167) #[] #[.pointer (some ⟨c.heap.size,0,none⟩)]] 206 (0,0)),(c.heap.size,.cells (cv k).toArray 123 (0,0)),(w.heap.size,.cells #[.pointer (some ⟨v,0,none⟩)] 82 (0,0))]) sm);clear q;refine RU om (gf:=173) (lb:= #[.pointer (some ⟨m.heap.size,0,none⟩)]) rfl (enters_of Tryz.func173 kr rfl) U
  (fun A B C h k=>aT.trans (R:=bK) (fun _ _ _ a b=>a.trans b) h k) (fun W o o' Y hc=>aT.turn bK.refl W _ o o' Y hc om) (bG _ _) (fun _=>rfl)
  (fun pre s=> ∃ g i,Env w s v Cv Lv g i (wU k V (pre.map (·.1))) [(c.heap.size+1,.cells #[.func (.func 167) #[] #[.pointer (some ⟨c.heap.size,0,none⟩)]] 206 (0,0)),(c.heap.size,.cells (cv k).toArray 123 (0,0)),(w.heap.size,.cells #[.pointer (some ⟨v,0,none⟩)] 82 (0,0))])
  (fun _ _ _ _ hs n hr=>by obtain ⟨g,i,d⟩:=hs;exact ⟨g,i,Env.qj d ae (by simp [Obj.isCells]) n hr⟩)
  ⟨Cv,Lv,uh X⟩
  (fun x Z _=>Z={ tmps:= #[.pointer (some ⟨v,0,none⟩),.pointer (some ⟨w.heap.size,0,none⟩),.pointer (some ⟨c.heap.size,0,none⟩),.pointer (some ⟨c.heap.size+1,0,none⟩),.int .i64 ((x.1:Nat):Int),.pointer (some ⟨v,0,none⟩),.agg (cv k).toArray,.func (.func 167) #[] #[.pointer (some ⟨c.heap.size,0,none⟩)],.pointer (some ⟨v,0,none⟩),.func (.func 173) #[] #[.pointer (some ⟨m.heap.size,0,none⟩)],.int .i64 ((x.1:Nat):Int),undef,undef,undef,undef],defers:=[] })
  (fun _ _ _ _ _ _ hs _ _=>hs)
  ?assign ?body ?done
 case assign=>
  rintro l pre x s K hi F
  gi_wp2
  exact F _ _ (KeepsFrom.refl _ _) (aT.below bK.refl (bG _ _)) hi rfl
 case done=>
  rintro D ys s hD hS ⟨g,i,d⟩ F
  gi_wp2
  refine ⟨sm,.inl ⟨_,_,rfl,run_takeDeferred F,?_⟩⟩;have n:=grownBy_putObj' s D (.deferred none);have hk:Kept (fun k=>k=D) s (s.putObj D (.deferred none)):=⟨n.os,n.tape,n.output,n.size,fun k hk hs=>n.block k hk (fun e=>hs (by injection e))⟩;refine ⟨_,DF rfl _ _ _,rfl,g,i,?_⟩;rw [uh HV,← hS];exact d.step.own hk (by rintro k rfl;exact ⟨om,d.at'.Ry F rfl⟩)
 case body=>
  rintro l pre x Z W Y ⟨r,hr⟩ ⟨g,i,d⟩ rfl hlen;have aa: ∀ t ∈ pre.map (·.1),gU V t:=by
   intro t ht;obtain ⟨y,_,rfl⟩:=gY.1 ht;exact y.2
  have P:=ake k (pre.map (·.1)) V aa;have zB:=YC k (pre.map (·.1)) V;rw [tY] at zB;have I:=P.BF x.2;have Yt:wU k V (pre.unattach++[x.1])=rM (pX k) (wU k V (pre.map (·.1))) (tH (wU k V (pre.map (·.1))) x.1):=asB k V (pre.map fun y:UM (gU V)=>y.1) x.1;have af:=RY (ads k) (tH (wU k V (pre.map (·.1))) x.1) _ (Z5 I);have ag:(wU k V (pre.map (·.1))).C.length=V.C.length:=P.len;generalize wU k V (pre.map (·.1))=V1 at*;obtain ⟨x,al⟩:=x;dsimp only at*;have c0:W.cell? ⟨w.heap.size,0,none⟩=some (.pointer (some ⟨v,0,none⟩)):=(aF d.o2 0).trans rfl;have c1:W.cell? ⟨c.heap.size+1,0,none⟩=some (.func (.func 167) #[] #[.pointer (some ⟨c.heap.size,0,none⟩)]):=(aF d.o0 0).trans rfl
  have Hr:=ah (fE.1 (alP W v g i V1 d.at' x I.1 I.2 om om 167 #[.pointer (some ⟨c.heap.size,0,none⟩)] [(c.heap.size,.cells (cv k).toArray 123 (0,0))] (pX k) (ads k) (asC k ab c.heap.size _ om) (enters_of Tryz.func167 kr rfl) (by
   intro y u;simp only [cO,jM,jO] at u;subst u;exact ⟨d.o1,d.n1⟩)))
  have G:=ah d;clear d U X
  gi_wp2_with fail
  refine ⟨trivial,(CallsIn.inRound l (fE.2 Hr)).mono ?_⟩;rintro e W5 ⟨rfl,C5,L5,z⟩
  gi_wp2
  refine ⟨dF.from G.at' z _,aT.step G.at' z af,C5,L5,?_⟩
  first
   | exact G.gG z
   | (rw [Yt];exact G.gG z)
end
end Go.Proofs.YtknjjjenklfeoaaGreatDoor
