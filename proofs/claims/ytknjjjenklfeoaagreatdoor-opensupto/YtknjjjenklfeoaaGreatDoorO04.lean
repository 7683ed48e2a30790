import Derived.Test.YtknjjjenklfeoaaGreatDoorO03
import Derived.Deep.RegionLaw
set_option maxHeartbeats 8000000
set_option maxRecDepth 100000
set_option linter.all false
namespace Go.Proofs.YtknjjjenklfeoaaGreatDoor
open Go.RowKit
attribute [local go_sem ↓] dw fP fZ kS mP mV jJ kJ jY jU lD lH kQ
attribute [local go_sem] dK fO fV gK gy aV kX mG mM mJ mF gI jK kH jX kZ kW iJ jW lq lC lu kF jc jd lY l7
def JI (T:List Nat):Nat→aj
 | 0=>zc
 | k+1=>uU (JI T k) (2*k) (T.getD k 0)
def bytesOf (T:List Nat):aj:=JI T 32
theorem Sz (T:List Nat) (k:Nat):(JI T k).length=64:=by
 induction k with
 | zero=>exact aV
 | succ k ih=>rw [JI,QC,ih]
theorem bytesOf_length (T:List Nat):(bytesOf T).length=64:=Sz T 32
theorem arM (T:List Nat) (i:Nat) (hi:i<T.length) (w:World):(part 167 (tv T).toArray (i*1)).run Tryz.prog w= .ok (.int .u16 ((T.getD i 0:Nat):Int)) w:=by
 have ha:(isAgg 167).run Tryz.prog w= .ok false w:=by unfold isAgg;rw [jh,xw Tryz.underlying167 w];rfl
 unfold part;rw [jh,ha];simp only [rQ,Bg,yc,Vj];rw [bW,Oy T i hi];rfl
theorem run_sizeOf {P:Program} {e:TypeId} {sz:Nat} (hs:(P.info? e).map (·.size)=some sz) (w:World):(Go.sizeOf e).run P w= .ok sz w:=by
 obtain ⟨i,hi,rfl⟩:=Rf.1 hs;simp [Go.sizeOf,typeInfo,hi,go_sem]
theorem Tryz.ac5:(Tryz.prog.info? 5).map (·.size)=some 1:=kr
theorem Yg {P:Program} (w:World) (t e:TypeId) (n sz:Nat) (hu:P.underlying t=some (.array n e)) (hs:(P.info? e).map (·.size)=some sz) (cs:Array Value) (k:Nat) (hk:k<n) (v:Value) (hp:(part e cs (k*sz)).run P w= .ok v w):
  (Instr.index t (.agg cs) (.int .i64 (k:Int))).run P w= .ok v w:=by
 have hsz:=run_sizeOf hs w;unfold Instr.index;simp only [asIntOf,jh,yX,rQ,xw hu w];rw [au om,jh,hsz];simpa using hp
theorem acV (w:World) (T:List Nat) (hT:T.length=32) (k:Nat) (hk:k<32):(Instr.index 169 (.agg (tv T).toArray) (.int .i64 (k:Int))).run Tryz.prog w= .ok (.int .u16 ((T.getD k 0:Nat):Int)) w:=
 Yg w _ _ 32 1 Tryz.underlying169 kr _ k hk _ (arM T k om w)
theorem acU (w:World) (c:List UInt8) (hc:c.length=256) (k:Nat) (hk:k<256):(Instr.index 123 (.agg (cv c).toArray) (.int .i64 (k:Int))).run Tryz.prog w= .ok (.int .u8 (aI c k:Nat)) w:=
 Yg w _ _ 256 1 Tryz.underlying123 kr _ k hk _ (acw c k om w)
theorem adk (w:World) (T:List Nat) (hT:T.length=32) (hs: ∀ i,T.getD i 0<65536):
  Calls Tryz.prog 163 #[.agg (tv T).toArray] w fun e w'=>e= .returned (.agg (cv (bytesOf T)).toArray)∧aC w w':=by
 have L0:=ah (dU.three w (.cells (tv T).toArray 169) (.cells (cv zc).toArray 38) (.cells (cv zc).toArray 38));have l1:=fD L0.o0 (n:=32) (by rw [pR,hT]);have l2:=fG L0.o0 (n:=32) (by rw [pR,hT])
 go_enter Tryz.func163,Tryz.ntmps163
 go_wp2;clear l1 l2
 go_loopw [4,5,7] (fun _ _ i w'=> ∃ k:Nat,k≤32∧i= .int .i64 k∧dU w w' [.cells (tv T).toArray 169,.cells (cv zc).toArray 38,.cells (cv (JI T k)).toArray 38]) (fun _ _ i _=>32 - (intOf i).toNat)
 case atStart=>exact ⟨0,om,rfl,uh L0⟩
 case round=>
  obtain ⟨k,hk,rfl,hL⟩:=hrel;clear L0
  by_cases hlt:k<32
  ·have hki:(k:Int)<32:=om;have Hn:=ah (Oe wr _ _ _ hL.o2 (Sz T k) (2*k) (T.getD k 0) om (hs k));have HL:=ah hL;clear hL;have hix:=acV wr T hT k hlt;rw [show ((2*k:Nat):Int)=2*(k:Int) by omega] at Hn;generalize hnn:T.getD k 0=n at*
   go_wp2_with fail
   refine Hn.mono ?_;rintro e w1 ⟨rfl,hb1,hk1⟩;have L1:=ah (HL.put 2 _ hk1 hb1);clear Hn HL hix hb1 hk1;go_wp2;go_roundw
   case rel=>
    refine ⟨k+1,om,gn,?_⟩
    have:=uh L1
    rw [JI,hnn];exact this
   case measure=>exact cO
  ·have hk32:k=32:=om;subst hk32;have b1:=hL.o1;have b2:=hL.o2;have hbl:=Sz T 32;have l1:=gZ b2 hbl;have l2:=gY b2 hbl;have th:=iI b1 0 64 (by simp [bg,aV]);have hset:=hL.setCells 1 rfl 0 (cv (JI T 32));rw [qw _ _ (by simp [bg,aV,hbl])] at hset;have o1:=hset.o1;have l3:=gZ o1 hbl;have l4:=gY o1 hbl;have HB:=ah hset.below;clear hL b1 b2 hset o1;go_wp2;refine gV (qK Tryz.results163 ⟨w.heap.size+1,0,none⟩ rfl ?_) rfl ⟨rfl,uh HB⟩;rw [dw,dK l3,l4];rfl
theorem NM (w:World) (c:aj) (hc:c.length=64):
  Calls Tryz.prog 92 #[.agg (cv c).toArray] w fun e w'=>e= .returned (.agg (hv (num c 4) (num c 6)).toArray)∧aC w w':=by
 have L0:=ah (dU.two w (.cells (cv c).toArray 38) (.cells (hv 0 0).toArray 128));have l1:=gZ L0.drew.o0 hc;have l2:=gY L0.drew.o0 hc;have Hn:Hid (∀ W k,k=4∨k=6→Calls Tryz.prog 149 #[.agg (cv c).toArray,.int .i64 k] W fun e w'=>e= .returned (.int .u16 (num c k.toNat:Nat))∧aC W w'):=fun W k hk=>Qu c k W hc om om;have n4:=iD c 4;have n6:=iD c 6;have e4:IntKind.i64.wrap ((num c 4:Nat):Int)=(num c 4:Nat):=Jo _ om;have e6:IntKind.i64.wrap ((num c 6:Nat):Int)=(num c 6:Nat):=Jo _ om
 go_enter Tryz.func92,Tryz.ntmps92
 go_wp2
 go_region_law (
  go_simp;go_at_call 149;refine (uh Hn _ _ om).mono ?_;rintro e w1 ⟨rfl,hb1⟩;have L1:=ah (dU.later (by first | exact uh L1 | exact L1.drew | exact uh L0 | exact L0.drew) hb1);have m1:=gZ L1.o0 hc;have m2:=gY L1.o0 hc;have th:=iI L1.o1 0 2 (by simp [sD]))
 all_goals
  have hset:=L1.setCells 1 rfl 0 (hv (num c 4) (num c 6));rw [qw _ _ (by simp [sD])] at hset;have l3:=fD hset.o1 (n:=2) (sD _ _);have l4:=fG hset.o1 (n:=2) (sD _ _);have HB:=ah hset.below;clear hset L0 Hn hb1 m1 m2 l1 l2 th;go_wp2;refine gV (qK Tryz.results92 ⟨w.heap.size+1,0,none⟩ rfl ?_) rfl ⟨rfl,uh HB⟩;rw [jU,jW l3,l4]
end Go.Proofs.YtknjjjenklfeoaaGreatDoor
