import Derived.Test.YtknjjjenklfeoaaGreatDoorU10
import Derived.Lib.BytesEntry
import Derived.Laws.Externs
import Derived.OwnWalk
import Derived.RangeFuncNested
import Derived.RangeFuncBound
import Derived.RangeFuncCalls
import Derived.RangeFuncLeaves
import Derived.Shelf.Abstract
import Derived.Shelf.RegionOpen
import Derived.OwnWalkIn
import Derived.TacticsInMore
import Derived.LoopNIn
import Derived.LoopIn
set_option maxHeartbeats 8000000
set_option maxRecDepth 100000
set_option linter.all false
namespace Go.Proofs.YtknjjjenklfeoaaGreatDoor
open Go.RowKit
section
attribute [local go_sem ↓] dw fP fV kU mZ nC jR kP kJ kF lG lI kR kQ kV ng nD l9 nJ jE pW qM qO qA
attribute [local go_sem] dM fO fU gW gB aV kY mP mW mQ mO gX jT kN kH lq kX iM kG lu lD lC kM jc jd nH nK kW kZ mX nT mV mM nN qc qI qK qJ qH
attribute [local go_sem] pU pR
def FV:aB:=⟨[],[],false,false⟩
def seven:List Nat:=[0,1,2,3,4,5,6]
def JJ:aB:=lT FV (gI zk seven) 4
def Nu:aB:=bQ JJ 5 zc
def Nv:aB:=bQ Nu 6 zc
def Le:aB:=fF Nv
def Ru:aB:=bQ Le 0 (fG 7 6)
def xP:aB:=fF Ru
def asZ:JJ.C.length≤10∧Nu.C.length≤10∧Nv.C.length≤10∧Le.C.length≤10∧Ru.C.length≤10∧JJ.L.length≤40∧Nu.L.length≤40∧Nv.L.length≤40∧Le.L.length≤40∧Ru.L.length≤40:=by
 have a:=als FV (gI zk seven) 4;have b1:=Px FV (gI zk seven) 4;have c0:FV.C.length=0:=rfl;have b:FV.L.length=0:=rfl;have c:JJ.C.length≤5:=by unfold JJ;omega
 have d:JJ.L.length≤8:=by unfold JJ;omega
 have e:Nu.C.length=max JJ.C.length 6:=zL _ _ _;have f:Nu.L.length≤JJ.L.length+2:=uH _ _ _;have g:Nv.C.length=max Nu.C.length 7:=zL _ _ _;have h:Nv.L.length≤Nu.L.length+2:=uH _ _ _;have i:Le.C.length=Nv.C.length:=by unfold Le;rw [zX]
 have j:Le.L.length≤Nv.L.length+1:=zn _;have k:Ru.C.length=max Le.C.length 1:=zL _ _ _;have l:Ru.L.length≤Le.L.length+2:=uH _ _ _;omega
def avQ: ∀ k,k<7→seven.take (k+1)=seven.take k++[k]:=dc
def aw8 (w:World):aP (w.alloc (.cells #[.slice none 0 0,.slice none 0 0,.bool false,.bool false] 121)) w.heap.size (.slice none 0 0) (.slice none 0 0) FV:=
 ⟨aX w _,wH _ _ _ _,wH _ _ _ _,(by intro c hc;cases hc),(by intro c hc;cases hc),(by intro h;cases h)⟩
def axe (w:World):Calls Tryz.prog 36 #[] w fun e j=> ∃ Cv Lv,e= .returned (.pointer (some ⟨w.heap.size,0,none⟩))∧dF (w.alloc (.cells #[.slice none 0 0,.slice none 0 0,.bool false,.bool false] 121)) j w.heap.size (.slice none 0 0) (.slice none 0 0) Cv Lv xP:=by
 have c:=(Env.start (aw8 w)).lay (.cells (cv zk).toArray 123);have K:=asZ;have L: ∀ W,(abC #[(0,.int .i64 7),(1,.int .i64 6)]).run Tryz.prog W= .ok (.agg (hv 7 6).toArray) W:=fun W=>kM 7 6 W;have c:=ah c
 go_enter Tryz.func36,Tryz.ntmps36
 go_wp2;rw [jV] at c;generalize (w.alloc (.cells #[.slice none 0 0,.slice none 0 0,.bool false,.bool false] 121)).alloc (.cells (cv zk).toArray 123)=W at c ⊢;generalize B:w.alloc (.cells #[.slice none 0 0,.slice none 0 0,.bool false,.bool false] 121)=z at*
 go_loopw [3,6] (fun _ i j=> ∃ k:Nat,k≤7∧i= .int .i64 k∧Env z j w.heap.size (.slice none 0 0) (.slice none 0 0) (.slice none 0 0) (.slice none 0 0) FV [(w.heap.size+1,.cells (cv (gI zk (seven.take k))).toArray 123)]) (fun _ i _=>7 - (intOf i).toNat)
 case atStart=>exact ⟨0,om,rfl,uh c⟩
 case round=>
  obtain ⟨k,hk,rfl,a⟩:=hrel;clear c;have r:(gI zk (seven.take k)).length=256:=by rw [adV];exact iM
  by_cases C:k<7
  ·have M:(k:Int)<7:=om;have c1:wr.cell? ⟨w.heap.size+1,k,none⟩=some (.int .u8 (aI (gI zk (seven.take k)) k:Nat)):=by
    rw [aF a.o0,bZ,vG _ _ om]
   have N:=eY a.o0;have b:=a.put sm (Kept.only _ (w.heap.size+1) k (.int .u8 1)) (heap_setCell_same _ _ _ _ _ _ _ a.o0);have q:(cv (gI zk (seven.take k))).toArray.setIfInBounds k (.int .u8 1)=(cv (gI zk (seven.take (k+1)))).toArray:=by
    rw [avQ k C,ak4,Bh]
    congr 1
    have:=MV (gI zk (seven.take k)) k 1 om
    exact this.symm
   rw [q] at b;have f:=ah b;clear b a q;go_wp2;go_roundw
   case rel=>exact ⟨k+1,om,gn,uh f⟩
   case measure=>exact bW
  ·have D:k=7:=om;subst D;have d:Env z wr w.heap.size (.slice none 0 0) (.slice none 0 0) (.slice none 0 0) (.slice none 0 0) FV [(w.heap.size+1,.cells (cv (gI zk seven)).toArray 123)]:=a;have g:(gI zk seven).length=256:=r;have F:=fH d.o0 (n:=256) (by rw [bC,g]);have G:=fM d.o0 (n:=256) (by rw [bC,g]);have A:=ah (VF wr _ _ _ FV d.at' (gI zk seven) g dc dc);have f:=ah d;clear a d r;have E:Hid (JJ=lT FV (gI zk seven) 4):=rfl;generalize gI zk seven=O at*
   go_wp2_with fail
   refine A.mono ?_;rintro e P ⟨rfl,Q,S,h⟩;rw [← uh E] at h;have l:=ah (f.gG h);clear h f A F G
   go_wp2_with fail
   refine (GX _ _ _ _ _ l.at' 5 om zc aV om om).mono ?_;rintro e T ⟨rfl,U,V,s⟩;have m:Hid (Env _ _ _ _ _ _ _ Nu _):=ah (l.gG s);clear s l
   go_wp2_with fail
   refine (GX _ _ _ _ _ m.at' 6 om zc aV om om).mono ?_;rintro e Z ⟨rfl,C3,L3,t⟩;have b:Hid (Env _ _ _ _ _ _ _ Nv _):=ah (m.gG t);clear t m
   go_wp2_with fail
   refine (Az _ _ _ _ _ b.at' om).mono ?_;rintro e w4 ⟨rfl,C4,L4,u⟩;have o:Hid (Env _ _ _ _ _ _ _ Le _):=ah (b.gG u);clear u b
   go_wp2_with fail
   refine (ad8 _ _ _ _ _ o.at' 7 6 om om om om).mono ?_;rintro e w5 ⟨rfl,C5,L5,x⟩;have p:Hid (Env _ _ _ _ _ _ _ Ru _):=ah (o.gG x);clear x o
   go_wp2_with fail
   refine (Az _ _ _ _ _ p.at' om).mono ?_;rintro e w6 ⟨rfl,H,I,y⟩;have J:Hid (dF _ _ _ _ _ _ _ xP):=ah (p.gG y).step;clear y p;go_wp2;go_ret;exact ⟨H,I,rfl,by rw [B];exact uh J⟩
def as1 {w a:World} {Cv Lv:Value} {V:aB} {o:Obj} (h:dF (w.alloc o) a w.heap.size (.slice none 0 0) (.slice none 0 0) Cv Lv V):aC w a∧ ∀ k,eX w.heap.size Cv Lv k→w.heap.size≤k:=by
 refine ⟨⟨h.kept.os,h.kept.tape,h.kept.output,by have:=h.kept.size;simp at this;omega,fun k hk=> ?_⟩,fun k hk=> ?_⟩
 ·rw [h.kept.block k (by simp;omega) (by rintro (e | e | e);omega;cases e;cases e)];exact jX _ _ _ hk
 ·rcases h.new k hk with (e | e | e) | e
  ·omega
  ·cases e
  ·cases e
  ·simp at e;omega
def ahP (w:World):Calls Tryz.prog 11 #[] w fun e c=> ∃ d v Cv Lv,e= .returned (.pointer (some ⟨d,0,none⟩))∧pK c d v Cv Lv xP∧aC w c∧ ∀ k,MW d v Cv Lv k→w.heap.size≤k:=by
 have g:=ah (axe w)
 go_enter Tryz.func11,Tryz.ntmps11
 go_wp2_with fail
 refine g.mono ?_;rintro e h ⟨Cv,Lv,rfl,a⟩;obtain ⟨hB,f⟩:=as1 a;have i:=ah a.at';have b:=ah hB;have j:=ah f;clear a hB f;go_wp2;go_ret;refine ⟨h.heap.size,w.heap.size,Cv,Lv,rfl,⟨aX _ _,i.alloc _⟩,b.alloc b.size _,fun k hk=> ?_⟩;rcases hk with e | e
 ·have:=b.size;omega
 ·exact uh j k e
def zeroAt (c:List UInt8):Int:=Lib.indexByte c 0
def anf (c:List UInt8): -1≤zeroAt c∧zeroAt c<c.length:=by
 unfold zeroAt
 induction c with
 | nil=>simp [Lib.indexByte]
 | cons a r ih=>
  simp only [Lib.indexByte,iO];split
  ·omega
  ·split
   ·omega
   ·rename_i h;simp only [Tt] at h;omega
def apk (c:List UInt8):Lib.bytesOf (c.map fun b=>((b.toNat:Nat):Int))=c:=by
 unfold Lib.bytesOf;rw [Qd]
 conv=>rhs;rw [← List.map_id c]
 refine Ji fun b _=> ?_
 simp
def arU (w:World) (b o cap:Nat) (c:List UInt8) (hr:w.rangeAt b o (cv c)):
  Calls Tryz.prog 183 #[.slice (some ⟨b,o,none⟩) c.length cap,.int .u8 0] w fun e d=>e= .returned (.int .i64 (zeroAt c))∧d=w:=by
 have a:(c.map fun b=>((b.toNat:Nat):Int)).length=c.length:=sm;have hc: ∀ i,i<c.length→w.cell? ⟨b,o+i,none⟩=some (.int .u8 ((c.map fun b=>((b.toNat:Nat):Int)).getD i 0)):=by
  intro i hi
  have:=hr i (.int .u8 (aI c i:Nat)) (by rw [vG _ _ hi])
  rw [this,aN,jK,bJ hi];simp [aI,hi]
 have hex: ∀ W,W=w→(callFunc 188 #[.slice (some ⟨b,o,none⟩) c.length cap,.int .u8 0]).run Tryz.prog W= .ok (.value (.int .i64 (zeroAt c))) W:=by
  rintro W rfl;rw [run_callFunc_extern Tryz.func188 kr kr kr (e:=Extern.BytealgIndexByte.indexByte) kr,Lib.run_indexByteSlice W b o c.length cap _ a hc 0,apk];rfl
 have hex:=hex w rfl;clear a hc hr;generalize zeroAt c=z at*
 go_enter Tryz.func183,Tryz.ntmps183
 go_wp2;go_ret;exact ⟨rfl,rfl⟩
def arV (w:World) (b o cap:Nat) (c:List UInt8) (hr:w.rangeAt b o (cv c)) (s:Nat) (hs:w.cell? ⟨s,0,none⟩=some (.int .u8 0)):
  Calls Tryz.prog 180 #[.slice (some ⟨b,o,none⟩) c.length cap,.slice (some ⟨s,0,none⟩) 1 1] w fun e a=>e= .returned (.int .i64 (zeroAt c))∧a=w:=by
 have d:=ah (arU w b o cap c hr);clear hr;generalize zeroAt c=z at*
 go_enter Tryz.func180,Tryz.ntmps180
 go_wp2_with fail
 refine d.mono ?_;rintro e f ⟨rfl,rfl⟩;go_wp2;go_ret;exact ⟨rfl,rfl⟩
def qC (c:List UInt8):Nat:=if 0≤zeroAt c then (zeroAt c).toNat else c.length
def ap5 (c:List UInt8):qC c≤c.length:=by
 have:=anf c
 unfold qC
 split <;> omega
def XJ (w:World) (b o cap:Nat) (c:List UInt8) (hr:w.rangeAt b o (cv c)) (n:c.length≤cap) (m:cap≤1000) (s:Nat) (hs:w.cell? ⟨s,0,none⟩=some (.int .u8 0)):
  Calls Tryz.prog 170 #[.slice (some ⟨b,o,none⟩) c.length cap,.slice (some ⟨s,0,none⟩) 1 1] w fun e i=>(∃ j k,e= .returned (.tuple #[.slice (some ⟨b,o,none⟩) (qC c) cap,j,k]))∧aC w i:=by
 have d:=ah (arV w b o cap c hr s hs);have f:=anf c;have a:Hid (qC c=if 0≤zeroAt c then (zeroAt c).toNat else c.length):=rfl;clear hr hs
 by_cases h0:0≤zeroAt c
 ·rw [au h0] at a;obtain ⟨z,g⟩:=Cj h0;rw [g] at d a f;rw [tZ] at a;have p:=f.2;have q:(z:Int)<(c.length:Int):=om;have r:(z:Int)+1≤(c.length:Int):=om;have t:(z:Int)≤(cap:Int):=om;have hw:IntKind.i64.wrap ((z:Int)+1)=(z:Int)+1:=FY _ om;clear g h0 f
  go_enter Tryz.func170,Tryz.ntmps170
  go_wp2_with fail
  refine d.mono ?_;rintro e l ⟨rfl,rfl⟩;go_wp2
  go_quiet (fail)
  go_wp2
  all_goals
   rw [uh a];refine iy (aaD rfl _ _ _) rfl ?_;exact ⟨⟨_,_,rfl⟩,⟨rfl,rfl,rfl,aO _,fun _ _=>rfl⟩⟩
 ·rw [ak h0] at a;have h:zeroAt c= -1:=om;rw [h] at d
  go_enter Tryz.func170,Tryz.ntmps170
  go_wp2_with fail
  refine d.mono ?_;rintro e l ⟨rfl,rfl⟩;go_wp2;rw [uh a];refine iy (aaD rfl _ _ _) rfl ?_;exact ⟨⟨_,_,rfl⟩,bG _ _⟩
def KJ {w:World} {b o:Nat} (c:List UInt8) (h:w.rangeAt b o (cv c)) (cap:Nat):
  (convert 73 9 (.slice (some ⟨b,o,none⟩) c.length cap)).run Tryz.prog w= .ok (.string (bM c)) w:=by
 have:=run_convert_bytes_arg (P:=Tryz.prog) w 73 5 Tryz.underlying73 Tryz.underlying5 b o c.length cap (c.map fun x=>(x.toNat:Int)) sm (fun i hi=>by
  rw [h i (.int .u8 (aI c i:Nat)) (by rw [vG _ _ hi])];simp only [aN,jK,aI];rw [bJ hi]
  rfl) 9 Tryz.underlying9
 rw [this]
 congr 2
 unfold bM strOfNums
 congr 1
 have e:((fun n:Int=>UInt8.ofNat n.toNat) ∘ fun x:UInt8=>(x.toNat:Int))=id:=by funext x;simp
 simp [e]
structure aW where
 name:List UInt8
 first:Nat
def ev (p:aW):List Value:=[.string (bM p.name),.int .i64 (p.first:Nat)]
def lv (L:List aW):List Value:=L.flatMap ev
def acr (p:aW): ∀ v ∈ ev p,v.oneCell'=true:=by
 intro v hv;simp only [ev,cO,jM,jO] at hv;rcases hv with rfl | rfl <;> rfl
def Rl (L:List aW): ∀ v ∈ lv L,v.oneCell'=true:=by
 intro v hv;obtain ⟨x,_,a⟩:=zT.1 hv;exact acr x v a
def dX (L:List aW):(lv L).length=L.length*2:=by
 induction L with
 | nil=>rfl
 | cons a r ih=>rw [show lv (a :: r)=ev a++lv r from rfl,oL,ih,iO];simp [ev];omega
def ze:aW:=⟨[],0⟩
def zl:List aW:=[ze,ze,ze,ze]
def aj2 (a:Addr):Sem Value:=loadVar 144 a
def xM (a:Addr):loadVar 144 a=aj2 a:=rfl
def xU {w:World} {b o:Nat} (h:dU w b o 8):(aj2 ⟨b,o,none⟩).run Tryz.prog w= .ok (.agg (dO w b o 8).toArray) w:=
 BQ h 144 _ Tryz.underlying144 rfl kr
def ZQ (a:Addr) (v:Value):Sem Unit:=storeVar 144 a v
def ED (a:Addr) (v:Value):storeVar 144 a v=ZQ a v:=rfl
def Et {w:World} {b o:Nat} {L:List aW} (a:w.there b o 8) (hL:L.length=4):(ZQ ⟨b,o,none⟩ (.agg (lv L).toArray)).run Tryz.prog w= .ok () (w.setCells b o (lv L)):=by
 have:=Ib (P:=Tryz.prog) w b o 144 (lv L).toArray (by simpa [dX,hL] using a) (by simp only [jm,dX,hL];kernel_rfl) (vU (Rl L))
 simpa [ZQ] using this
def ano:Sem Value:=zeroValue 144
def EF:zeroValue 144=ano:=rfl
def Ew (w:World):ano.run Tryz.prog w= .ok (.agg (lv zl).toArray) w:=
 (uZ (P:=Tryz.prog) (t:=144) (v:= .agg (lv zl).toArray) (n:=8) kr).1 w
def Eu {w:World} {z L:List aW} (a:z.length=4) (hL:L.length=4):
  (ZQ ⟨w.heap.size,0,none⟩ (.agg (lv L).toArray)).run Tryz.prog (w.alloc (.cells (lv z).toArray 144))= .ok () (w.alloc (.cells (lv L).toArray 144)):=
 Ic w 144 (lv z).toArray (lv L).toArray (by simp only [jm,dX,hL];kernel_rfl) (by simp [dX,a,hL]) (vU (Rl L))
def ZO (a:Addr) (v:Value):Sem Unit:=storeVar 142 a v
def EC (a:Addr) (v:Value):storeVar 142 a v=ZO a v:=rfl
def Es {w:World} {b o:Nat} {p:aW} (a:w.there b o 2):(ZO ⟨b,o,none⟩ (.agg (ev p).toArray)).run Tryz.prog w= .ok () (w.setCells b o (ev p)):=by
 have:=Ib (P:=Tryz.prog) w b o 142 (ev p).toArray (by simpa [ev] using a) (by simp only [ev];kernel_rfl) (vU (acr p))
 simpa [ZO] using this
def abB (parts:Array (Nat × Value)):Sem Value:=Instr.build 142 parts
def DW (parts:Array (Nat × Value)):Instr.build 142 parts=abB parts:=rfl
def Dy (nm:List UInt8) (n:Nat) (w:World):(abB #[(0,.string (bM nm)),(1,.int .i64 n)]).run Tryz.prog w= .ok (.agg (ev ⟨nm,n⟩).toArray) w:=by
 have a:=(uZ (P:=Tryz.prog) (t:=142) (v:= .agg (ev ze).toArray) (n:=2) kr).1;exact LH w 142 _ (.agg (ev ze).toArray) #[(0,1),(1,1)] #[(0,.string (bM nm)),(1,.int .i64 n)] _ Tryz.underlying142 a (fun w=>kr) (by rfl)
end
section
open Go.RowKit Go.Shelf
attribute [local go_sem ↓] dw fP fV kU mZ nC jR kP kJ kF lG lI kR kQ kV ng nD l9 nJ jE pW qM qO qA
attribute [local go_sem] dM fO fU gW gB aV kY mP mW mQ mO gX jT kN kH lq kX iM kG lu lD lC kM jc jd nH nK kW kZ mX nT mV mM nN qc qI qK qJ qH
attribute [local go_sem] pU pR Oper.semAt_some
def EP (Pc:Nat→Prop) (n:Nat):Prop:=n<65536∧(n≠0→Pc (n%32768))
structure nS (Pc:Nat→Prop) where
 table:Nat
 index:Nat
 number:Nat
 hi:index<32
 hn:number<65536
 h0:number≠0
 hc:Pc (number%32768)
def oK {Pc:Nat→Prop} (s:nS Pc):Value:= .agg #[.int .i64 ((s.table:Nat):Int),.int .i64 ((s.index:Nat):Int),.int .u16 ((s.number:Nat):Int)]
def tu {Pc:Nat→Prop} (t:Nat) (T:List Nat) (a: ∀ i,EP Pc (T.getD i 0)):(k:Nat)→k≤32→List (nS Pc)
 | 0,_=>[]
 | k+1,hk=>tu t T a k om++if h:T.getD k 0≠0 then [⟨t,k,T.getD k 0,om,(a k).1,h,(a k).2 h⟩] else []
def VU {Pc:Nat→Prop} (t:Nat) (T:List Nat) (a: ∀ i,EP Pc (T.getD i 0)) (k:Nat) (hk:k+1≤32) (h:T.getD k 0=0):tu t T a (k+1) hk=tu t T a k om:=by
 rw [tu,dif_neg (by simpa using h),sN]
def VT {Pc:Nat→Prop} (t:Nat) (T:List Nat) (a: ∀ i,EP Pc (T.getD i 0)) (k:Nat) (hk:k+1≤32) (h:T.getD k 0≠0):tu t T a (k+1) hk=tu t T a k om++[⟨t,k,T.getD k 0,om,(a k).1,h,(a k).2 h⟩]:=by
 rw [tu,dif_pos h]
def aeL {Pc:Nat→Prop} (t:Nat) (T:List Nat) (a: ∀ i,EP Pc (T.getD i 0)): ∀ k hk,(tu t T a k hk).length≤k
 | 0,_=>by simp [tu]
 | k+1,hk=>by
  have:=aeL t T a k om
  rw [tu]
  split <;> simp <;> omega
def av3 {Pc:Nat→Prop} (t:Nat) (T:List Nat) (a: ∀ i,EP Pc (T.getD i 0)) (k:Nat) (hk:k≤32):tu t T a k hk <+: tu t T a 32 (aO _):=by
 have: ∀ j (hj:k+j≤32),tu t T a k hk <+: tu t T a (k+j) hj:=by
  intro j
  induction j with
  | zero=>intro _;exact List.prefix_refl _
  | succ j ih=>intro hj;exact (ih om).trans (by show _ <+: tu t T a ((k+j)+1) hj;rw [tu];exact List.prefix_append _ _)
 have h:=this (32 - k) om;have e:k+(32 - k)=32:=om;simpa [e] using h
def atj {Pc:Nat→Prop} (n:Nat) (hn:3≤n) (l bv y v table:Nat) (V:aB) (J z:List (nS Pc)→World→Prop) (P:World→Prop)
  (a: ∀ i,EP Pc ((numsOf (cl V.C table)).getD i 0))
  (S: ∀ pre x W,J pre W→pre.length<32→YieldAt Fence.wide (n - 1) Tryz.prog l #[oK x] W fun e b=>
   (e= .returned (.bool true)∧J (pre++[x]) b∧(P W→P b))∨(e= .returned (.bool false)∧z (pre++[x]) b))
  (A: ∀ W,P W→W.cell? ⟨y,0,none⟩=some (.int .i64 (table:Nat))) (K: ∀ W b,P W→aC W b→P b)
  (W:World) (B:AbidesFrom W.heap.size J) (j:P W) (L:W.cell? ⟨bv,0,none⟩=some (.pointer (some ⟨v,0,none⟩))) (Cv Lv:Value) (D:aP W v Cv Lv V) (U:table<V.C.length) (h0:J [] W):
  CallsIn Fence.wide n Tryz.prog 182 #[.func (.yield l) #[] #[],.pointer (some ⟨bv,0,none⟩),.pointer (some ⟨y,0,none⟩)] W fun e b=>(∃ v,e= .returned v)∧
   ((∃ E,E=tu table (numsOf (cl V.C table)) a 32 (aO _)∧J E b)∨(∃ pre,pre <+: tu table (numsOf (cl V.C table)) a 32 (aO _)∧z pre b)):=by
 have c1:=A W j;have F:=ah (VZ W v Cv Lv V D table U);have M:=numsOf_length (cl V.C table);generalize numsOf (cl V.C table)=T at*;refine aaE Tryz.func182 rfl trivial ?_ rfl;simp only [Tryz.ntmps182,jm,iO,vV,Nat.reduceAdd,Nat.reduceSub,BX,BZ,Cb,Cc,qy,rU]
 gi_wp2_with fail
 refine ⟨trivial,fun _=>om,(fE.2 F).mono ?_⟩;rintro e G ⟨rfl,c⟩;have o:=ah (K W G j c);have p:=ah (B [] W G none h0 ⟨c.os,c.tape,c.output,c.size,fun k hk _=>c.block k hk⟩ (fun r e=>by cases e));clear j h0 c1 F c L D B
 gi_wp2
 gi_loopw [4,5,9] (fun _ _ i wr=> ∃ (k:Nat) (hk:k≤32),i= .int .i64 k∧P wr∧J (tu table T a k hk) wr) (fun _ _ i _=>32 - (intOf i).toNat)
 case atStart=>exact ⟨0,om,rfl,uh o,uh p⟩
 case round=>
  obtain ⟨k,hk,rfl,f,m⟩:=hrel;clear o p;have c1:=A wr f
  by_cases d:k<32
  ·have aa:(k:Int)<32:=om;have N:=aew wr T M k d;have hlen:=aeL table T a k hk
   by_cases h0:T.getD k 0=0
   ·have g:=ah (VU table T a k d h0);rw [h0] at N
    gi_wp2
    refine ⟨fun _ h=>(by cases h),?_⟩
    gi_wp2
    go_roundw
    case rel=>exact ⟨k+1,om,gn,f,by rw [uh g];exact m⟩
    case measure=>exact bW
   ·obtain ⟨x,q,s,t,u⟩: ∃ x:nS Pc,x.table=table∧x.index=k∧x.number=T.getD k 0∧tu table T a (k+1) d=tu table T a k hk++[x]:=⟨⟨table,k,T.getD k 0,d,(a k).1,h0,(a k).2 h0⟩,rfl,rfl,rfl,VT table T a k d h0⟩;have g:=ah u;obtain ⟨fn,tmps,assign,body,Z,hR⟩:=S _ x wr m om;rw [oK,q,s,t] at Z;have ab:=(a k).1;have d0:((((T.getD k 0:Nat)):Int) != 0)=true:=by rw [ou];omega
    clear u q s t;generalize T.getD k 0=nn at*
    gi_wp2
    refine ⟨fun _=>om,hR.mono ?_⟩;rintro e W3 (⟨rfl,O,w⟩ | ⟨rfl,H⟩)
    ·have Q:=ah (w f);clear w c1 f
     gi_wp2
     go_roundw
     case rel=>exact ⟨k+1,om,gn,uh Q,by rw [uh g];exact O⟩
     case measure=>exact bW
    ·gi_wp2
     refine iy (DF rfl _ _ _) rfl ?_;exact ⟨⟨_,rfl⟩,.inr ⟨_,by rw [← uh g];exact av3 table T a _ d,H⟩⟩
  ·have I:k=32:=om;subst I
   gi_wp2
   go_end0
   exact ⟨⟨_,rfl⟩,.inl ⟨_,rfl,m⟩⟩
def ahO {a b:List UInt8} (h:cv a=cv b):a=b:=by
 unfold cv at h;refine List.map_inj_right (fun x y c=> ?_) |>.1 h;injection c with _ d;exact Qk.1 om
def aio: ∀ {A B:List aj},(∀ c ∈ A,c.length=64)→(∀ c ∈ B,c.length=64)→aS A=aS B→A=B
 | [],[],_,_,_=>rfl
 | [],b :: r,_,hB,h=>by
  have d:=hB b sm
  have:=H9 List.length h
  simp [aS,bC,d] at this;omega
 | a :: r,[],e,_,h=>by
  have d:=e a sm
  have:=H9 List.length h
  simp [aS,bC,d] at this
 | a :: r,b :: q,e,hB,h=>by
  have d:=e a sm;have g:=hB b sm;simp only [aS,qx] at h;have f:=List.append_inj h (by rw [bC,bC,d,g]);rw [ahO f.1,aio (fun c hc=>e c (by simp [hc])) (fun c hc=>hB c (by simp [hc])) f.2]
def ait: ∀ {A B:List fZ},(∀ c ∈ A,c.data.length=64)→(∀ c ∈ B,c.data.length=64)→jg A=jg B→A=B
 | [],[],_,_,_=>rfl
 | [],b :: r,_,_,h=>by
  have:=H9 List.length h
  simp [jg,bT] at this
 | a :: r,[],_,_,h=>by
  have:=H9 List.length h
  simp [jg,bT] at this
 | a :: r,b :: q,f,hB,h=>by
  have j:=f a sm;have k:=hB b sm;simp only [jg,qx] at h;have g:=List.append_inj h (by rw [tN j,tN k]);have e:=g.1;simp only [bT,List.cons.injEq] at e;have l:a=b:=by
   obtain ⟨ac,m⟩:=a;obtain ⟨bc,n⟩:=b;have d:=e.1;injection d with _ d;have i:=ahO e.2;dsimp only at d i;rw [d,i]
  rw [l,ait (fun c hc=>f c (by simp [hc])) (fun c hc=>hB c (by simp [hc])) g.2]
def al1 {w:World} {b1 b2:Nat} {e:TypeId} {size:Nat} {v:Value} {n1 h:Nat} {xs i:List Value} (c:w.ownsRow b1 e size v n1 xs) (d:w.ownsRow b2 e size v h i):n1=h∧xs=i:=by
 obtain ⟨u,c1,n⟩:=gQ c;obtain ⟨x,c2,j⟩:=gQ d;rw [n] at j;injection j with y o z;subst o;refine ⟨rfl,?_⟩;rcases c.2 with ⟨k,l⟩ | ⟨g,cap,cur,rfl,_,p,_,_,_,q⟩
 ·have:=c.1;have f:=d.1
  rw [l,zS] at this f;rw [aaF.1 this,aaF.1 f]
 ·rcases d.2 with ⟨k,l⟩ | ⟨A,s,t,r,_,b,_,_,_,m⟩
  ·cases k
  ·injection r with a _ _;injection a with a;injection a with a _ _;subst a;rw [p] at b;simp only [jH,Obj.cells.injEq] at b;rw [← q,← m,b.1]
def aP.unique {w:World} {v:Nat} {f g i j:Value} {b d:aB} (h:aP w v f g b) (k:aP w v i j d):f=i∧g=j∧b=d:=by
 have e:=h.aG;rw [k.aG] at e;simp only [P5,jH,Obj.cells.injEq,Array.mk.injEq,List.cons.injEq,Value.bool.injEq,and_true] at e;obtain ⟨p,q,a⟩:=e;subst p;subst q;have m:=aio h.kT k.kT (al1 h.jS k.jS).2;have n:=ait h.zZ k.zZ (al1 h.fJ k.fJ).2;obtain ⟨c,l,o,s⟩:=b;obtain ⟨t,u,o',x⟩:=d;dsimp only at m n a;obtain ⟨a,r⟩:=a;subst m;subst n;subst a;subst r;exact ⟨rfl,rfl,rfl⟩
def aT (X Y:Nat→Prop) (v:Nat) (R:aB→aB→Prop) (A B:World):Prop:=
 A.heap.size≤B.heap.size∧(∀ k o,A.heap[k]? = some o→o.isCells=false→Y k→B.heap[k]? = some o)∧ ∀ a b c,aP A v a b c→ ∃ d e f,aP B v d e f∧R c f∧
  (∀ k o,A.heap[k]? = some o→o.isCells=true→ ¬ X k→ ¬ eX v a b k→B.heap[k]? = some o)∧(∀ k,k<A.heap.size→eX v d e k→eX v a b k)
def aP.cells {w:World} {v:Nat} {c d:Value} {f:aB} (a:aP w v c d f) {k:Nat} (g:eX v c d k): ∃ o,w.heap[k]? = some o∧o.isCells=true:=by
 rcases g with rfl | e | e
 ·exact ⟨_,a.aG,rfl⟩
 ·rcases a.jS.2 with ⟨rfl,_⟩ | ⟨h,cap,cur,rfl,_,b,_⟩
  ·cases e
  ·simp only [Value.ownBlock,jH] at e;subst e;exact ⟨_,b,rfl⟩
 ·rcases a.fJ.2 with ⟨rfl,_⟩ | ⟨h,cap,cur,rfl,_,b,_⟩
  ·cases e
  ·simp only [Value.ownBlock,jH] at e;subst e;exact ⟨_,b,rfl⟩
def aP.Ry {w:World} {v:Nat} {c d:Value} {e:aB} (f:aP w v c d e) {k:Nat} {o:Obj} (g:w.heap[k]? = some o) (hc:o.isCells=false): ¬ eX v c d k:=by
 intro h;obtain ⟨q,a,b⟩:=f.cells h;rw [g] at a;injection a with a;subst a;rw [hc] at b;cases b
section
variable {X Y:Nat→Prop} {v:Nat} {R:aB→aB→Prop}
def aT.trans (hR: ∀ a b c,R a b→R b c→R a c) {A B C:World} (h:aT X Y v R A B) (k:aT X Y v R B C):aT X Y v R A C:=by
 refine ⟨jL h.1 k.1,fun i o hi hc e=>k.2.1 i o (h.2.1 i o hi hc e) hc e,fun n p q r=> ?_⟩;obtain ⟨s,t,u,j,w,o2,f⟩:=h.2.2 n p q r;obtain ⟨x,y,z,l,D,E,F⟩:=k.2.2 s t u j;exact ⟨x,y,z,l,hR _ _ _ w D,fun i o hi hc g d=>E i o (o2 i o hi hc g d) hc g (fun m=>d (f i (aK hi) m)),fun i hi d=>f i hi (F i (iL hi h.1) d)⟩
def aT.turn (hR: ∀ a,R a a) (W:World) (l:Nat) (o o':Obj) (m:W.heap[l]? = some o) (n:o.isCells=false) (p: ¬ Y l):aT X Y v R W (W.putObj l o'):=by
 have c:=grownBy_putObj' W l o';have hk:Kept (fun k=>k=l) W (W.putObj l o'):=⟨c.os,c.tape,c.output,c.size,fun k hk hs=>c.block k hk (fun e=>hs (by injection e))⟩;refine ⟨hk.size,fun k q b _ i=>hk.aG (by rintro rfl;exact p i) b,fun f g r h=> ?_⟩;have hn: ∀ k q,W.heap[k]? = some q→q.isCells=true→ ¬ (k=l):=by
  rintro k q b hc rfl;rw [m] at b;injection b with b;subst b;rw [n] at hc;cases hc
 have d: ∀ k,eX v f g k→ ¬ (k=l):=by
  intro k d;obtain ⟨q,b,j⟩:=h.cells d;exact hn k q b j
 exact ⟨f,g,r,h.kept hk d,hR _,fun k q b hc _ _=>hk.aG (hn k q b hc) b,fun _ _ d=>d⟩
def aT.of {A B:World} {a b c d:Value} {g e:aB} (h:aP A v a b g) (hB:aP B v c d e) (hs:A.heap.size≤B.heap.size) (r:R g e)
  (y: ∀ k o,A.heap[k]? = some o→o.isCells=false→Y k→B.heap[k]? = some o)
  (o: ∀ k o,A.heap[k]? = some o→o.isCells=true→ ¬ X k→ ¬ eX v a b k→B.heap[k]? = some o) (f: ∀ k,k<A.heap.size→eX v c d k→eX v a b k):aT X Y v R A B:=by
 refine ⟨hs,y,fun j l m i=> ?_⟩;obtain ⟨rfl,rfl,rfl⟩:=h.unique i;exact ⟨c,d,e,hB,r,o,f⟩
def aT.step {A B:World} {c d g i:Value} {e f:aB} (h:aP A v c d e) (hs:dF A B v c d g i f) (r:R e f):aT X Y v R A B:=
 aT.of h hs.at' hs.kept.size r (fun _ _ a hc _=>hs.kept.aG (h.Ry a hc) a) (fun _ _ a _ _ b=>hs.kept.aG b a) (fun k hk b=>(hs.new k b).elim id om)
def aT.own {A B:World} {g i:Value} {c:aB} (h:aP A v g i c) {S:Nat→Prop} (hk:Kept S A B) (d: ∀ k,S k→X k∧ ¬ eX v g i k∧ ∃ o,A.heap[k]? = some o∧o.isCells=true) (r:R c c):aT X Y v R A B:=
 aT.of h (h.kept hk (fun k e hs=>(d k hs).2.1 e)) hk.size r (fun k o a hc _=>hk.aG (fun hs=>by
  obtain ⟨q,b,f⟩:=(d k hs).2.2;rw [a] at b;injection b with b;subst b;rw [hc] at f;cases f) a) (fun k _ a _ j _=>hk.aG (fun hs=>j (d k hs).1) a) (fun _ _ e=>e)
def aT.below (hR: ∀ a,R a a) {A B:World} (h:aC A B):aT X Y v R A B:=
 ⟨h.size,fun k _ b _ _=>(h.block k (aK b)).trans b,fun c d e f=>⟨c,d,e,f.below h,hR _,fun k _ b _ _ _=>(h.block k (aK b)).trans b,fun _ _ g=>g⟩⟩
def aT.P6 {Y':Nat→Prop} {A B:World} (h:aT X Y v R A B) (b: ∀ k,Y' k→Y k):aT X Y' v R A B:=⟨h.1,fun k o c hc a=>h.2.1 k o c hc (b k a),h.2.2⟩
structure Me (X:Nat→Prop) (v b:Nat) (o:Obj) (P:aB→Prop) (W:World):Prop where
 bH: ∃ C1 L1 V1,aP W v C1 L1 V1∧P V1∧ ¬ eX v C1 L1 b
 box:W.heap[b]? = some o
 cells:o.isCells=true
 free: ¬ X b
def Me.xI {b:Nat} {o:Obj} {P:aB→Prop} (f: ∀ a b,P a→R a b→P b) {A B:World} (h:Me X v b o P A) (k:aT X Y v R A B):Me X v b o P B:=by
 obtain ⟨g,i,j,l,m,c⟩:=h.bH;obtain ⟨n,p,q,d,r,o2,s⟩:=k.2.2 g i j l;exact ⟨⟨n,p,q,d,f _ _ m r,fun e=>c (s b (aK h.box) e)⟩,o2 b o h.box h.cells h.free c,h.cells,h.free⟩
def Me.below {b:Nat} {o:Obj} {P:aB→Prop} {A B:World} (h:Me X v b o P A) (k:aC A B):Me X v b o P B:=by
 obtain ⟨a,c,d,e,f,g⟩:=h.bH;exact ⟨⟨a,c,d,e.below k,f,g⟩,(k.block b (aK h.box)).trans h.box,h.cells,h.free⟩
end
def RF (w:World) (v table:Nat):Calls Tryz.prog 172 #[.pointer (some ⟨v,0,none⟩),.int .i64 (table:Nat)] w fun e a=>
  e= .returned (.func (.func 182) #[] #[.pointer (some ⟨w.heap.size,0,none⟩),.pointer (some ⟨w.heap.size+1,0,none⟩)])∧a=(w.alloc (.cells #[.pointer (some ⟨v,0,none⟩)] 82)).alloc (.cells #[.int .i64 (table:Nat)] 3):=by
 go_enter Tryz.func172,Tryz.ntmps172
 go_wp2;go_ret;exact ⟨rfl,rfl⟩
def awp (w:World) (v table:Nat):Calls Tryz.prog 171 #[.pointer (some ⟨v,0,none⟩),.int .i64 (table:Nat)] w fun e a=>
  e= .returned (.func (.func 181) #[] #[.pointer (some ⟨w.heap.size+1,0,none⟩),.pointer (some ⟨w.heap.size,0,none⟩)])∧a=(w.alloc (.cells #[.pointer (some ⟨v,0,none⟩)] 82)).alloc (.cells #[.int .i64 (table:Nat)] 3):=by
 go_enter Tryz.func171,Tryz.ntmps171
 go_wp2;go_ret;exact ⟨rfl,rfl⟩
def Uu (w:World) (v:Nat):Calls Tryz.prog 150 #[.pointer (some ⟨v,0,none⟩)] w fun e a=>
  e= .returned (.func (.func 173) #[] #[.pointer (some ⟨w.heap.size,0,none⟩)])∧a=w.alloc (.cells #[.pointer (some ⟨v,0,none⟩)] 82):=by
 go_enter Tryz.func150,Tryz.ntmps150
 go_wp2;go_ret;exact ⟨rfl,rfl⟩
def ahv (w:World) (a:Option Addr) (n cap:Nat):Calls Tryz.prog 165 #[.slice a n cap] w fun e b=>
  e= .returned (.func (.func 179) #[] #[.pointer (some ⟨w.heap.size,0,none⟩)])∧b=w.alloc (.cells #[.slice a n cap] 260):=by
 go_enter Tryz.func165,Tryz.ntmps165
 go_wp2;go_ret;exact ⟨rfl,rfl⟩
def Bo (Pc:Nat→Prop) (C:List aj) (t:Nat):Prop:= ∀ i,EP Pc ((numsOf (cl C t)).getD i 0)
def vO {Pc:Nat→Prop} (V:aB) (t:Nat) (a:Bo Pc V.C t):List (nS Pc):=tu t (numsOf (cl V.C t)) a 32 (aO _)
def aas {F:Fence} {m:Nat} {P:Program} {l:Nat} {args:Array Value} {W:World} {R R':Ending→World→Prop} (h:YieldAt F m P l args W R) (hr: ∀ e w,R e w→R' e w):YieldAt F m P l args W R':=by
 obtain ⟨fn,tmps,assign,body,a,hR⟩:=h;exact ⟨fn,tmps,assign,body,a,hR.mono hr⟩
def RG {Pc:Nat→Prop} (n:Nat) (hn:3≤n) (X Y:Nat→Prop) (R:aB→aB→Prop) (v bv d table:Nat) (V:aB) (Cv Lv:Value) (w:World) (m:aP w v Cv Lv V)
  (j:w.heap[bv]? = some (.cells #[.pointer (some ⟨v,0,none⟩)] 82 (0,0))) (k:w.heap[d]? = some (.cells #[.int .i64 (table:Nat)] 3 (0,0))) (q: ¬ X d) (r: ¬ eX v Cv Lv d) (t:table<V.C.length)
  (i:Bo Pc V.C table):
  SeqStopsK Fence.wide n Tryz.prog 182 #[.pointer (some ⟨bv,0,none⟩),.pointer (some ⟨d,0,none⟩)] (fun s:nS Pc=> #[oK s]) (aT X Y v R) (fun u=>u=vO V table i) (fun pre=>pre <+: vO V table i) 32 w:=
 fun l J y W g z _ A h0=>
  atj n hn l bv d v table V J y (Me X v d (.cells #[.int .i64 (table:Nat)] 3 (0,0)) (fun _=>True)) i
   (fun pre x o p B=>aas (A pre x o p B) (by
    rintro e E (⟨a,b,c⟩ | h)
    ·exact aA ⟨a,b,fun f=>f.xI (fun _ _ _ _=>trivial) c⟩
    ·exact ay h))
   (fun o f=>(aF f.box 0).trans rfl) (fun _ _ f D=>f.below D) W z
   ⟨⟨Cv,Lv,V,m.below g,trivial,r⟩,(g.block d (aK k)).trans k,rfl,q⟩ ((aF ((g.block bv (aK j)).trans j) 0).trans rfl) Cv Lv (m.below g) t h0
abbrev U256:={ n:Nat // n<256 }
def dJ (a:List Nat):List Nat:=(a.filter (· != 0)).map (· % 32768)
def apQ (n:Nat) (hn:3≤n) (l u p cap:Nat) (a:List Nat) (C: ∀ m ∈ a,m<65536∧m%32768<256) (O:a.length≤100) (J w:List U256→World→Prop) (P:World→Prop)
  (F: ∀ pre x W,J pre W→pre.length<a.length→YieldAt Fence.wide (n - 1) Tryz.prog l #[.int .i64 ((x.1:Nat):Int)] W fun e d=>
   (e= .returned (.bool true)∧J (pre++[x]) d∧(P W→P d))∨(e= .returned (.bool false)∧w (pre++[x]) d))
  (G: ∀ W,P W→W.heap[p]? = some (.cells (tv a).toArray 167 (0,0)))
  (W:World) (H:P W) (K:W.cell? ⟨u,0,none⟩=some (.slice (some ⟨p,0,none⟩) a.length cap)) (h0:J [] W):
  CallsIn Fence.wide n Tryz.prog 179 #[.func (.yield l) #[] #[],.pointer (some ⟨u,0,none⟩)] W fun e d=>(∃ v,e= .returned v)∧
   ((∃ b:List U256,b.map (·.1)=dJ a∧J b d)∨(∃ pre:List U256,w pre d)):=by
 refine aaE Tryz.func179 rfl trivial ?_ rfl;simp only [Tryz.ntmps179,jm,iO,vV,Nat.reduceAdd,Nat.reduceSub,BX,BZ,Cb,Cc,qy,rU]
 gi_wp2
 gi_loopw [4,7] (fun _ i wr=> ∃ (k:Nat) (b:List U256),k≤a.length∧i= .int .i64 k∧P wr∧b.map (·.1)=dJ (a.take k)∧b.length≤k∧J b wr) (fun _ i _=>a.length - (intOf i).toNat)
 case atStart=>exact ⟨0,[],om,rfl,H,rfl,sm,h0⟩
 case round=>
  obtain ⟨k,b,hk,rfl,j,f,L,q⟩:=hrel;have y:=G wr j
  by_cases g:k<a.length
  ·have M:(k:Int)<(a.length:Int):=om;have hm:=C _ (o9 g);have c1:wr.cell? ⟨p,k,none⟩=some (.int .u16 ((a[k]:Nat):Int)):=by
    rw [aF y,bZ,PW _ _ g,aN,bJ g];rfl
   have c:dJ (a.take (k+1))=dJ (a.take k)++(if a[k]=0 then [] else [a[k]%32768]):=by
    rw [x9 g,dJ,Qe,rQ];unfold dJ
    congr 1
    by_cases h:a[k]=0
    ·simp [h]
    ·simp [h]
   generalize a[k]=o at*
   by_cases h0:o=0
   ·rw [au h0,sN] at c;have r:=ah c;subst h0;clear c
    gi_wp2
    refine ⟨trivial,?_⟩
    gi_wp2
    refine ⟨fun _ h=>(by cases h),?_⟩
    gi_wp2
    go_roundw
    case rel=>exact ⟨k+1,b,om,gn,j,by rw [uh r];exact f,om,q⟩
    case measure=>exact bW
   ·rw [ak h0] at c;have r:=ah c;clear c;have Q:(((o:Nat):Int) != 0)=true:=by rw [ou];omega
    have I:=ah (CW o hm.1 wr);have N:=hm.1;have s:=hm.2;clear hm;generalize o%32768=z at*;obtain ⟨fn,tmps,assign,body,S,hR⟩:=F b ⟨z,s⟩ wr q om
    gi_wp2
    refine ⟨trivial,fun _=>om,(fE.2 I).mono ?_⟩;rintro e T ⟨rfl,rfl⟩
    gi_wp2
    refine ⟨fun _=>om,hR.mono ?_⟩;rintro e U (⟨rfl,D,t⟩ | ⟨rfl,A⟩)
    ·have E:=ah (t j);clear t c1 j y
     gi_wp2
     go_roundw
     case rel=>exact ⟨k+1,b++[⟨z,s⟩],om,gn,uh E,by rw [uh r,rQ,f];rfl,by simp;omega,D⟩
     case measure=>exact bW
    ·gi_wp2
     refine iy (DF rfl _ _ _) rfl ?_;exact ⟨⟨_,rfl⟩,.inr ⟨_,A⟩⟩
  ·have B:k=a.length:=om;subst B;rw [H7] at f
   gi_wp2
   go_end0
   exact ⟨⟨_,rfl⟩,.inl ⟨b,f,q⟩⟩
def apR (n:Nat) (hn:3≤n) (X Y:Nat→Prop) (R:aB→aB→Prop) (v g f cap:Nat) (d:List Nat) (s: ∀ m ∈ d,m<65536∧m%32768<256) (i:d.length≤100) (V:aB) (Cv Lv:Value) (w:World) (u:aP w v Cv Lv V)
  (o:w.heap[g]? = some (.cells #[.slice (some ⟨f,0,none⟩) d.length cap] 260 (0,0))) (p:w.heap[f]? = some (.cells (tv d).toArray 167 (0,0))) (y: ¬ X f) (z: ¬ eX v Cv Lv f):
  SeqStopsK Fence.wide n Tryz.prog 179 #[.pointer (some ⟨g,0,none⟩)] (fun x:U256=> #[Value.int .i64 ((x.1:Nat):Int)]) (aT X Y v R) (fun A=>A.map (·.1)=dJ d) (fun _=>True) d.length w:=
 fun l J B W j _ _ C h0=>
  (apQ n hn l g f cap d s i J B (Me X v f (.cells (tv d).toArray 167 (0,0)) (fun _=>True))
   (fun pre x q t i=>aas (C pre x q t i) (by
    rintro e D (⟨a,b,c⟩ | h)
    ·exact aA ⟨a,b,fun k=>k.xI (fun _ _ _ _=>trivial) c⟩
    ·exact ay h))
   (fun q k=>k.box) W
   ⟨⟨Cv,Lv,V,u.below j,trivial,z⟩,(j.block f (aK p)).trans p,rfl,y⟩ ((aF ((j.block g (aK o)).trans o) 0).trans rfl) h0).mono (by
   rintro e D ⟨r,E | ⟨pre,F⟩⟩
   ·exact ⟨r,aA E⟩
   ·exact ⟨r,ay ⟨pre,trivial,F⟩⟩)
end
end Go.Proofs.YtknjjjenklfeoaaGreatDoor
