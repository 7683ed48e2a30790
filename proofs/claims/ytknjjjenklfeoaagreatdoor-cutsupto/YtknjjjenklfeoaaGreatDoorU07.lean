import Derived.Test.YtknjjjenklfeoaaGreatDoorU06
import Derived.Lib.LazyBuf
set_option maxHeartbeats 8000000
set_option maxRecDepth 100000
set_option linter.all false
namespace Go.Proofs.YtknjjjenklfeoaaGreatDoor
open Go.RowKit
section
attribute [local go_sem ↓] dw fP fV kU mZ nC jR kP kJ kF lG lI kR
attribute [local go_sem] dM fO fU gW gB aV kY mP mW mQ mO gX jT kN kH lq kX iM kG lu lD lC kM
def vK (c:aj) (k n:Nat):aj:=(c.set k (UInt8.ofNat (n / 256))).set (k+1) (UInt8.ofNat (n%256))
def RQ (c:aj) (k n:Nat):(vK c k n).length=c.length:=by simp [vK]
def MV (c:aj) (k:Nat) (b:Nat) (a:b<256):cv (c.set k (UInt8.ofNat b))=(cv c).set k (.int .u8 (b:Nat)):=by
 rw [cv,Og]
 congr 2
 have:(UInt8.ofNat b).toNat=b:=by rw [NZ];omega
 rw [this]
def Py (w:World) (b:Nat) (c:aj) (t:TypeId) (a:w.heap[b]? = some (.cells (cv c).toArray t (0,0))) (hc:c.length=64) (k n:Nat) (hk:k<63) (hn:n<65536):
  Calls Tryz.prog 169 #[.pointer (some ⟨b,0,none⟩),.int .i64 (k:Nat),.int .u16 (n:Nat)] w fun e g=>e= .returned (.tuple #[])∧g.heap[b]? = some (.cells (cv (vK c k n)).toArray t (0,0))∧Kept (fun x=>x=b) w g:=by
 have l:=eY a k;have m:=eY a (k+1);have c1:w.cell? ⟨b,k,none⟩=some (.int .u8 (aI c k:Nat)):=by rw [aF a,bZ,vG _ _ om]
 have c2:w.cell? ⟨b,k+1,none⟩=some (.int .u8 (aI c (k+1):Nat)):=by rw [aF a,bZ,vG _ _ om]
 have j:(k:Int)<63:=om;have d:((w.setCell ⟨b,k,none⟩ (.int .u8 ((n / 256:Nat):Int))).setCell ⟨b,k+1,none⟩ (.int .u8 ((n%256:Nat):Int))).heap[b]? = some (.cells (cv (vK c k n)).toArray t (0,0)):=by
  rw [heap_setCell_same _ _ _ _ _ _ _ (heap_setCell_same _ _ _ _ _ _ _ a),vK,MV _ _ _ om,MV _ _ _ om]
  simp
 have f:=(Kept.only w b k (.int .u8 ((n / 256:Nat):Int))).trans (Kept.only _ b (k+1) (.int .u8 ((n%256:Nat):Int)));rw [Int.natCast_ediv,Int.natCast_emod] at d f;have h:=ah d;have i:=ah f;clear d f
 go_enter Tryz.func169,Tryz.ntmps169
 go_wp2
 go_region
 go_end0
 exact ⟨rfl,uh h,i.drew⟩
def numsOf (c:aj):List Nat:=(List.range 32).map fun i=>num c (2*i)
def numsOf_length (c:aj):(numsOf c).length=32:=by simp [numsOf]
def vJ (c:aj) (i:Nat) (hi:i<32):(numsOf c).getD i 0=num c (2*i):=by simp [numsOf,List.getD,hi]
def I8 (c:aj) (k:Nat):List Nat:=(List.range 32).map fun i=>if i<k then num c (2*i) else 0
def atp (c:aj):I8 c 0=zt:=by
 unfold I8 zt;refine List.eq_replicate_iff.2 ⟨sm,fun b a=> ?_⟩;obtain ⟨i,_,rfl⟩:=gY.1 a;rw [ak om]
def atm (c:aj):I8 c 32=numsOf c:=by
 unfold I8 numsOf;refine Ji fun i hi=> ?_;rw [au (G9.1 hi)]
def atn (c:aj) (k:Nat):(I8 c k).length=32:=by simp [I8]
def ato (c:aj) (k:Nat) (hk:k<32):I8 c (k+1)=(I8 c k).set k (num c (2*k)):=by
 refine uY fun i=> ?_;rw [uI];simp only [I8,jK,tY,Wq]
 by_cases hi:i<32
 ·rw [yR hi]
  by_cases e:k=i
  ·subst e;simp [hk]
  ·simp only [Gf,ak e]
   congr 1
   by_cases h:i<k
   ·rw [au h,au om]
   ·rw [ak h,ak om]
 ·rw [eG (by simp;omega)];split
  ·omega
  ·rfl
def aah (T:List Nat) (k n:Nat):tv (T.set k n)=(tv T).set k (.int .u16 (n:Nat)):=by simp [tv,Og]
def awn (w:World) (c:aj) (hc:c.length=64):
  Calls Tryz.prog 178 #[.agg (cv c).toArray] w fun e d=>e= .returned (.agg (tv (numsOf c)).toArray)∧aC w d:=by
 have h:=ah (dW.three w (.cells (cv c).toArray 38) (.cells (tv zt).toArray 169) (.cells (tv zt).toArray 169))
 go_enter Tryz.func178,Tryz.ntmps178
 go_wp2
 go_loopw [4,5] (fun _ i d=> ∃ k:Nat,k≤32∧i= .int .i64 k∧dW w d [.cells (cv c).toArray 38,.cells (tv zt).toArray 169,.cells (tv (I8 c k)).toArray 169]) (fun _ i _=>32 - (intOf i).toNat)
 case atStart=>exact ⟨0,om,rfl,by rw [atp];exact uh h⟩
 case round=>
  obtain ⟨k,hk,rfl,hL⟩:=hrel;clear h
  by_cases f:k<32
  ·have x:(k:Int)<32:=om;have b0:=hL.o0;have j:=iD b0 hc;have l:=iC b0 hc;have m:=ah (RD c (2*(k:Int)) wr hc om om);have o:=ah hL;have q:=ah (ato c k f);clear hL b0
   go_wp2_with fail
   refine m.mono ?_;rintro e r ⟨rfl,g⟩;have b:=o.later g;have b2:=b.o2;have z:=eY b2 k;have c1:r.cell? ⟨w.heap.size+1+1,k,none⟩=some (.int .u16 (((I8 c k).getD k 0:Nat):Int)):=by
    rw [aF b2,bZ,PW _ _ (by rw [atn];exact f)]
   have s:=ah (b.setCell 2 rfl k (.int .u16 (num c (2*k):Nat)));rw [show (2*(k:Int)).toNat=2*k by omega];clear b b2 g o m j l;go_wp2;go_roundw
   case rel=>
    refine ⟨k+1,om,gn,?_⟩;rw [uh q,aah];simpa using uh s
   case measure=>exact bW
  ·have p:k=32:=om;subst p;rw [atm] at hL;have b1:=hL.o1;have b2:=hL.o2;have j:=fH b2 (n:=32) (by rw [ql,numsOf_length]);have l:=fM b2 (n:=32) (by rw [ql,numsOf_length]);have A:=iW b1 0 32 (by simp [ql,gX]);have y:=numsOf_length c;have a:=hL.setCells 1 rfl 0 (tv (numsOf c));rw [qL _ _ (by simp [ql,gX,numsOf_length])] at a;have o1:=a.o1;have t:=fH o1 (n:=32) (by rw [ql,numsOf_length]);have u:=fM o1 (n:=32) (by rw [ql,numsOf_length]);have v:=ah a.below;clear hL b1 b2 a o1;go_wp2;refine iy (qZ Tryz.results178 ⟨w.heap.size+1,0,none⟩ rfl ?_) rfl ⟨rfl,uh v⟩;rw [kU,kY t,u]
attribute [local go_sem] jc jd nH nK
def KE (T:List Nat):Nat→aj
 | 0=>zc
 | k+1=>vK (KE T k) (2*k) (T.getD k 0)
def bytesOf (T:List Nat):aj:=KE T 32
def Uc (T:List Nat) (k:Nat):(KE T k).length=64:=by
 induction k with
 | zero=>exact aV
 | succ k ih=>rw [KE,RQ,ih]
def bytesOf_length (T:List Nat):(bytesOf T).length=64:=Uc T 32
def aud (T:List Nat) (i:Nat) (hi:i<T.length) (w:World):(part 167 (tv T).toArray (i*1)).run Tryz.prog w= .ok (.int .u16 ((T.getD i 0:Nat):Int)) w:=by
 have a:(isAgg 167).run Tryz.prog w= .ok false w:=by unfold isAgg;rw [jC,yh Tryz.underlying167 w];rfl
 unfold part;rw [jC,a];simp only [sK,Ce,yS,WO];rw [bZ,PW T i hi];rfl
def run_sizeOf {P:Program} {e:TypeId} {sz:Nat} (hs:(P.info? e).map (·.size)=some sz) (w:World):(Go.sizeOf e).run P w= .ok sz w:=by
 obtain ⟨i,hi,rfl⟩:=SS.1 hs;simp [Go.sizeOf,typeInfo,hi,go_sem]
def Tryz.aeJ:(Tryz.prog.info? 5).map (·.size)=some 1:=kr
def Zv {P:Program} (w:World) (t e:TypeId) (n sz:Nat) (hu:P.underlying t=some (.array n e)) (hs:(P.info? e).map (·.size)=some sz) (cs:Array Value) (k:Nat) (hk:k<n) (v:Value) (b:(part e cs (k*sz)).run P w= .ok v w):
  (Instr.index t (.agg cs) (.int .i64 (k:Int))).run P w= .ok v w:=by
 have a:=run_sizeOf hs w;unfold Instr.index;simp only [asIntOf,jC,zU,sK,yh hu w];rw [au om,jC,a];simpa using b
def aew (w:World) (T:List Nat) (a:T.length=32) (k:Nat) (hk:k<32):(Instr.index 169 (.agg (tv T).toArray) (.int .i64 (k:Int))).run Tryz.prog w= .ok (.int .u16 ((T.getD k 0:Nat):Int)) w:=
 Zv w _ _ 32 1 Tryz.underlying169 kr _ k hk _ (aud T k om w)
def aev (w:World) (c:List UInt8) (hc:c.length=256) (k:Nat) (hk:k<256):(Instr.index 123 (.agg (cv c).toArray) (.int .i64 (k:Int))).run Tryz.prog w= .ok (.int .u8 (aI c k:Nat)) w:=
 Zv w _ _ 256 1 Tryz.underlying123 kr _ k hk _ (ad3 c k om w)
def aeU (w:World) (T:List Nat) (d:T.length=32) (hs: ∀ i,T.getD i 0<65536):
  Calls Tryz.prog 163 #[.agg (tv T).toArray] w fun e f=>e= .returned (.agg (cv (bytesOf T)).toArray)∧aC w f:=by
 have c:=ah (dW.three w (.cells (tv T).toArray 169) (.cells (cv zc).toArray 38) (.cells (cv zc).toArray 38));have l:=fH c.o0 (n:=32) (by rw [ql,d]);have m:=fM c.o0 (n:=32) (by rw [ql,d])
 go_enter Tryz.func163,Tryz.ntmps163
 go_wp2;clear l m
 go_loopw [4,5,7] (fun _ _ i f=> ∃ k:Nat,k≤32∧i= .int .i64 k∧dW w f [.cells (tv T).toArray 169,.cells (cv zc).toArray 38,.cells (cv (KE T k)).toArray 38]) (fun _ _ i _=>32 - (intOf i).toNat)
 case atStart=>exact ⟨0,om,rfl,uh c⟩
 case round=>
  obtain ⟨k,hk,rfl,hL⟩:=hrel;clear c
  by_cases q:k<32
  ·have y:(k:Int)<32:=om;have g:=ah (Py wr _ _ _ hL.o2 (Uc T k) (2*k) (T.getD k 0) om (hs k));have o:=ah hL;clear hL;have r:=aew wr T d k q;rw [show ((2*k:Nat):Int)=2*(k:Int) by omega] at g;generalize s:T.getD k 0=n at*
   go_wp2_with fail
   refine g.mono ?_;rintro e z ⟨rfl,h,j⟩;have t:=ah (o.put 2 _ j h);clear g o r h j;go_wp2;go_roundw
   case rel=>
    refine ⟨k+1,om,gn,?_⟩
    have:=uh t
    rw [KE,s];exact this
   case measure=>exact bW
  ·have p:k=32:=om;subst p;have b1:=hL.o1;have b2:=hL.o2;have a:=Uc T 32;have l:=iD b2 a;have m:=iC b2 a;have A:=iW b1 0 64 (by simp [bC,aV]);have b:=hL.setCells 1 rfl 0 (cv (KE T 32));rw [qL _ _ (by simp [bC,aV,a])] at b;have o1:=b.o1;have u:=iD o1 a;have v:=iC o1 a;have x:=ah b.below;clear hL b1 b2 b o1;go_wp2;refine iy (qZ Tryz.results163 ⟨w.heap.size+1,0,none⟩ rfl ?_) rfl ⟨rfl,uh x⟩;rw [dw,dM u,v];rfl
def OU (w:World) (c:aj) (hc:c.length=64):
  Calls Tryz.prog 92 #[.agg (cv c).toArray] w fun e f=>e= .returned (.agg (hv (num c 4) (num c 6)).toArray)∧aC w f:=by
 have d:=ah (dW.two w (.cells (cv c).toArray 38) (.cells (hv 0 0).toArray 128));have i:=iD d.drew.o0 hc;have j:=iC d.drew.o0 hc;have h:Hid (∀ W k,k=4∨k=6→Calls Tryz.prog 149 #[.agg (cv c).toArray,.int .i64 k] W fun e f=>e= .returned (.int .u16 (num c k.toNat:Nat))∧aC W f):=fun W k hk=>RD c k W hc om om;have s:=iK c 4;have t:=iK c 6;have u:IntKind.i64.wrap ((num c 4:Nat):Int)=(num c 4:Nat):=FY _ om;have v:IntKind.i64.wrap ((num c 6:Nat):Int)=(num c 6:Nat):=FY _ om
 go_enter Tryz.func92,Tryz.ntmps92
 go_wp2
 go_region_law (
  go_simp;go_at_call 149;refine (uh h _ _ om).mono ?_;rintro e x ⟨rfl,g⟩;have a:=ah (dW.later (by first | exact uh a | exact a.drew | exact uh d | exact d.drew) g);have l:=iD a.o0 hc;have m:=iC a.o0 hc;have o:=iW a.o1 0 2 (by simp [sV]))
 all_goals
  have b:=a.setCells 1 rfl 0 (hv (num c 4) (num c 6));rw [qL _ _ (by simp [sV])] at b;have p:=fH b.o1 (n:=2) (sV _ _);have q:=fM b.o1 (n:=2) (sV _ _);have r:=ah b.below;clear b d h g l m i j o;go_wp2;refine iy (qZ Tryz.results92 ⟨w.heap.size+1,0,none⟩ rfl ?_) rfl ⟨rfl,uh r⟩;rw [kF,kG p,q]
def fG (a b:Nat):aj:=vK (vK (zO++List.replicate 60 0) 4 a) 6 b
def JC (a b:Nat):(fG a b).length=64:=by rw [fG,RQ,RQ];rfl
def Ju (a b:List UInt8):cv (a++b)=cv a++cv b:=rQ
def aw7:mY (cv zc).toArray 0 (cv zO)=(cv (zO++List.replicate 60 0)).toArray:=by
 have h:zc=List.replicate 4 0++List.replicate 60 0:=by rw [zc,aaC]
 rw [h,Ju,Ju];exact PN _ _ _ (by simp [bC,zO])
def ari (a b:Nat):fG a b=vK (vK (zO++List.replicate 60 0) 4 a) 6 b:=rfl
def avo (w:World) (b:Nat) (t:TypeId) (a:w.heap[b]? = some (.cells (cv zc).toArray t (0,0))):
  (Builtin.copy_ #[73,9] 3 #[.slice (some ⟨b,0,none⟩) 64 64,.string ⟨#[86,69,76,77]⟩]).run Tryz.prog w= .ok (.int .i64 4) (w.setCells b 0 (cv zO)):=by
 have h:=run_copy_string (P:=Tryz.prog) w 73 9 3 5 b 0 64 64 ⟨#[86,69,76,77]⟩ Tryz.underlying73
  (run_sizeOf Tryz.aeJ) dc (fun j hj=>by rw [rE,aF a,bZ,vG _ _ (by rw [aV];have:j<4:=hj;omega)];rfl) (fun j _=>eY a _)
 rw [h];rfl
def QZ (w:World) (a b:Nat) (u:a<65536) (v:b<65536):
  Calls Tryz.prog 134 #[.agg (hv a b).toArray] w fun e x=>e= .returned (.agg (cv (fG a b)).toArray)∧aC w x:=by
 have j:=ah (dW.three w (.cells (hv a b).toArray 128) (.cells (cv zc).toArray 38) (.cells (cv zc).toArray 38));have k:=avo _ _ _ j.o2;have d:=j.setCells 2 rfl 0 (cv zO);rw [aw7] at d;generalize World.setCells _ _ _ (cv zO)=r at k d;simp only [xg,oq] at d;have y:r.cell? ⟨w.heap.size,0,none⟩=some (.int .i64 (a:Nat)):=(aF d.o0 0).trans rfl;have D:IntKind.u16.wrap (a:Int)=a:=wraps_u16 _ om om;have E:IntKind.u16.wrap (b:Int)=b:=wraps_u16 _ om om;have l:=ah (Py r _ _ _ d.o2 (by simp [zO]) 4 a om u);have d:=ah d;clear j
 go_enter Tryz.func134,Tryz.ntmps134
 go_wp2_with fail
 refine l.mono ?_;rintro e s ⟨rfl,m,n⟩;have f:=d.put 2 _ n m;simp only [xg,oq] at f;have z:s.cell? ⟨w.heap.size,1,none⟩=some (.int .i64 (b:Nat)):=(aF f.o0 1).trans rfl;have o:=ah (Py s _ _ _ f.o2 (by rw [RQ];simp [zO]) 6 b om v);have f:=ah f;clear d l m n y k
 go_wp2_with fail
 refine o.mono ?_;rintro e F ⟨rfl,p,q⟩;have g:=f.put 2 _ q p;simp only [xg,oq] at g;rw [← ari] at g;have h:=JC a b;have G:=iD g.o2 h;have H:=iC g.o2 h;have I:=iW g.o1 0 64 (by simp [bC,aV]);have i:=g.setCells 1 rfl 0 (cv (fG a b));rw [qL _ _ (by simp [bC,aV,h])] at i;have o1:=i.o1;have A:=iD o1 h;have B:=iC o1 h;have C:=ah i.below;clear f g o p q z i o1;generalize t:fG a b=c at*;go_wp2;refine iy (qZ Tryz.results134 ⟨w.heap.size+1,0,none⟩ rfl ?_) rfl ⟨rfl,uh C⟩;rw [dw,dM A,B,t]
def PO (k:List UInt8) (p:Nat) (c:aj):List UInt8:=k.take (64*p)++c++k.drop (64*p+64)
def avM (k:List UInt8) (p:Nat) (c:aj) (hk:k.length=256) (hc:c.length=64) (a:p<4):(PO k p c).length=256:=by
 simp [PO,hk,hc];omega
def ZF (a b vs d:List Value) (h:b.length=vs.length):mY (a++b++d).toArray a.length vs=(a++vs++d).toArray:=by
 refine Jl fun i=> ?_;rw [Ey vs a.length _ i (by simp;omega)];simp only [bZ]
 by_cases c:i<a.length
 ·rw [ak om,tV,tV,nV c,nV c]
 ·by_cases e:i<a.length+vs.length
  ·rw [au om,nV (by simp;omega),nP om]
  ·rw [ak om,nP (by simp;omega),nP (by simp;omega)];simp [h]
def avK (k:List UInt8) (p:Nat) (c:aj) (hk:k.length=256) (hc:c.length=64) (b:p<4):mY (cv k).toArray (64*p) (cv c)=(cv (PO k p c)).toArray:=by
 have h:k=k.take (64*p)++(k.drop (64*p)).take 64++k.drop (64*p+64):=by
  rw [tV,← List.drop_drop,LP,LP]
 have a:=ZF (cv (k.take (64*p))) (cv ((k.drop (64*p)).take 64)) (cv c) (cv (k.drop (64*p+64))) (by simp [bC,hk,hc];omega);rw [← Ju,← Ju,← Ju,← Ju,← h,bC,yg,hk,SV om] at a;exact a
def avn (w:World) (b x p:Nat) (t u:TypeId) (k:List UInt8) (c:aj) (hk:k.length=256) (hc:c.length=64) (e:p<4) (a:w.heap[b]? = some (.cells (cv k).toArray t (0,0))) (d:w.heap[x]? = some (.cells (cv c).toArray u (0,0))) (n:Nat) (hn:n=256 - 64*p):
  (Builtin.copy_ #[73,73] 3 #[.slice (some ⟨b,64*p,none⟩) n n,.slice (some ⟨x,0,none⟩) 64 64]).run Tryz.prog w= .ok (.int .i64 64) (w.setCells b (64*p) (cv c)):=by
 have h:=run_copy_cells (P:=Tryz.prog) w 73 73 3 5 b (64*p) n n ⟨x,0,none⟩ 64 64 (cv c) Tryz.underlying73 Tryz.aeJ
  (by rw [bC,hc];exact (SV om).symm)
  (fun j v hv=>by rw [show (⟨x,0,none⟩:Addr).add j=⟨x,j,none⟩ by simp [Addr.add];omega];rw [aF d,bZ];exact hv)
  (fun j hj=>by rw [bC,hc] at hj;rw [aF a,bZ,vG _ _ om];rfl) (fun j _=>eY a _) (Au c)
 rw [h,bC,hc];rfl
def avJ (w:World) (b:Nat) (k:List UInt8) (hk:k.length=256) (o:w.heap[b]? = some (.cells (cv k).toArray 123 (0,0))) (p:Nat) (q:p<4) (c:aj) (hc:c.length=64):
  Calls Tryz.prog 158 #[.pointer (some ⟨b,0,none⟩),.int .i64 (p:Nat),.agg (cv c).toArray] w fun e r=>e= .returned (.tuple #[])∧r.heap[b]? = some (.cells (cv (PO k p c)).toArray 123 (0,0))∧Kept (fun x=>x=b) w r:=by
 have s:=aK o;have j:=((Kept.refl (fun x=>x=b) w).alloc (.cells (cv c).toArray 38)).drew;have h:(w.alloc (.cells (cv c).toArray 38)).drew.heap[b]? = some (.cells (cv k).toArray 123 (0,0)):=(jX _ _ _ s).trans o;have l:(w.alloc (.cells (cv c).toArray 38)).drew.heap[w.heap.size]? = some (.cells (cv c).toArray 38 (0,0)):=aX w _;have a:=fun n hn=>avn _ b _ p _ _ k c hk hc q h l n hn;have m:=j.setCells (b:=b) (aA rfl) (64*p) (cv c);have i:=KU (cv c) (64*p) _ _ _ _ _ h;rw [avK k p c hk hc q] at i;have f:=ah m;have g:=ah i;clear h l j m i;rcases (show p=0∨p=1∨p=2∨p=3 by omega) with rfl | rfl | rfl | rfl
 ·have d:=a 256 rfl;simp only [Nat.reduceMul] at d;clear a
  go_enter Tryz.func158,Tryz.ntmps158
  go_wp2
  go_region
  go_end0
  exact ⟨rfl,uh g,uh f⟩
 ·have d:=a 192 rfl;simp only [Nat.reduceMul] at d;clear a
  go_enter Tryz.func158,Tryz.ntmps158
  go_wp2
  go_region
  go_end0
  exact ⟨rfl,uh g,uh f⟩
 ·have d:=a 128 rfl;simp only [Nat.reduceMul] at d;clear a
  go_enter Tryz.func158,Tryz.ntmps158
  go_wp2
  go_region
  go_end0
  exact ⟨rfl,uh g,uh f⟩
 ·have d:=a 64 rfl;simp only [Nat.reduceMul] at d;clear a
  go_enter Tryz.func158,Tryz.ntmps158
  go_wp2
  go_region
  go_end0
  exact ⟨rfl,uh g,uh f⟩
def partOf (k:List UInt8) (p:Nat):aj:=(k.drop (64*p)).take 64
def ad2 (k:List UInt8) (p:Nat) (hk:k.length=256) (a:p<4):(partOf k p).length=64:=by simp [partOf,hk];omega
def ald {w:World} {b:Nat} {k:List UInt8} {t:TypeId} {fr:Nat × Nat} (a:w.heap[b]? = some (.cells (cv k).toArray t fr)) (p:Nat):w.rangeAt b (64*p) (cv (partOf k p)):=fun j v hv=>by
 rw [aF a,bZ];simp only [cv,jK,partOf] at hv ⊢;rw [JY] at hv
 split at hv
 ·rw [Qc] at hv;exact hv
 ·cases hv
def run_arrayAt (w:World) (a:Addr) (cap:Nat):(Instr.arrayAt 38 (.slice (some a) 64 cap)).run Tryz.prog w= .ok (.pointer (some a)) w:=by
 unfold Instr.arrayAt;simp [yh Tryz.underlying38,go_sem]
attribute [local go_sem] run_arrayAt
def aua (w:World) (k:List UInt8) (hk:k.length=256) (p:Nat) (f:p<4):
  Calls Tryz.prog 132 #[.agg (cv k).toArray,.int .i64 (p:Nat)] w fun e g=>e= .returned (.agg (cv (partOf k p)).toArray)∧aC w g:=by
 have d:=dW.two w (.cells (cv k).toArray 123) (.cells (cv zc).toArray 38);have b:=ad2 k p hk f;have h:=sU (n:=64) (ald d.o0 p) (by rw [bC,b]);have i:=qU (n:=64) (ald d.o0 p) (by rw [bC,b]);have q:=iW d.o1 0 64 (by simp [bC,aV]);have a:=d.setCells 1 rfl 0 (cv (partOf k p));rw [qL _ _ (by simp [bC,aV,b])] at a;have j:=iD a.o1 b;have l:=iC a.o1 b;have m:=ah a.below;clear d a;rcases (show p=0∨p=1∨p=2∨p=3 by omega) with rfl | rfl | rfl | rfl
 all_goals
  generalize o:partOf k _=c at*;simp only [Nat.reduceMul] at h i
  go_enter Tryz.func132,Tryz.ntmps132
  go_wp2;refine iy (qZ Tryz.results132 ⟨w.heap.size+1,0,none⟩ rfl ?_) rfl ⟨rfl,uh m⟩;rw [dw,dM j,l]
end
section
attribute [local go_sem ↓] dw fP fV jE
attribute [local go_sem] dM fO fU aV
def Ei (n:Int) (w:World):Calls Tryz.prog 64 #[.int .i64 n] w fun e a=>e= .returned (.int .i64 n)∧a=w:=by
 go_enter Tryz.func64,Tryz.ntmps64
 go_wp2;go_ret;exact ⟨rfl,rfl⟩
structure Iq (w w':World) (z c:aj):Prop where
 below:aC w w'
 one:w'.heap[w.heap.size]? = some (.cells (cv z).toArray 38 (0,0))
 two:w'.heap[w.heap.size+1]? = some (.cells (cv c).toArray 38 (0,0))
def Iq.start (w:World):Iq w ((w.alloc (.cells (cv zc).toArray 38)).alloc (.cells (cv zc).toArray 38)) zc zc:=by
 refine ⟨(fC).alloc sm _,?_,?_⟩
 ·rw [jX _ _ _ sm];exact aX _ _
 ·have:=aX (w.alloc (.cells (cv zc).toArray 38)) (.cells (cv zc).toArray 38)
  simpa using this
def acg (c:aj) (i:Nat) (b:UInt8):(cv c).set i (.int .u8 (b.toNat:Int))=cv (c.set i b):=by simp [cv,Og]
def Iq.set {w a:World} {z c:aj} (h:Iq w a z c) (i:Nat) (b:UInt8):Iq w (a.setCell ⟨w.heap.size+1,i,none⟩ (.int .u8 (b.toNat:Int))) z (c.set i b):=
 ⟨h.below.setCell sm _,by rw [Tv _ _ _ _ sm];exact h.one,by rw [heap_setCell_same _ _ _ _ _ _ _ h.two,Bh,acg]⟩
def KG (l:List UInt8) (k:Nat):aj:=l.take k++List.replicate (64 - k) 0
def Gs (l:List UInt8):aj:=KG l (min l.length 64)
def Xy (l:List UInt8) (k:Nat) (h:k≤l.length) (a:k≤64):(KG l k).length=64:=by simp [KG];omega
def apO (l:List UInt8) (k:Nat) (h:k<l.length) (a:k<64):(KG l k).set k (l.getD k 0)=KG l (k+1):=by
 unfold KG;rw [J7 _ _ (by simp;omega),yg,show k - min k l.length=0 by omega,show 64 - k=(64 - (k+1))+1 by omega,Wu,oq,x9 h,tV];rw [aN,bJ h];rfl
def Iq.back {w a:World} {z c:aj} (h:Iq w a z c) (b:z.length=64) (hc:c.length=64):
  a.there w.heap.size 0 64∧dU a (w.heap.size+1) 0 64∧dO a (w.heap.size+1) 0 64=cv c∧dU (a.setCells w.heap.size 0 (cv c)) w.heap.size 0 64∧dO (a.setCells w.heap.size 0 (cv c)) w.heap.size 0 64=cv c∧aC w (a.setCells w.heap.size 0 (cv c)):=by
 have hs:=OA h.one b hc;exact ⟨iW h.one _ _ (by simp [bC,b]),iD h.two hc,iC h.two hc,iD hs hc,iC hs hc,below_setCells h.below (aO _) _ _⟩
def ahu (s:ByteArray) (w:World) (hs:s.size≤maxLen):
  Calls Tryz.prog 45 #[.string s] w fun e g=>e= .returned (.agg (cv (Gs s.data.toList)).toArray)∧aC w g:=by
 unfold maxLen at hs;have hlen:s.data.toList.length=s.size:=by rw [Ws];rfl
 have h:Hid (Gs s.data.toList=KG s.data.toList (min s.size 64)):=by unfold Gs;rw [hlen];rfl
 have n:=ah (Iq.start w);have b:=ah hlen;clear hlen
 go_enter Tryz.func45,Tryz.ntmps45
 go_wp2
 go_loopw [4] (fun i g=> ∃ k:Nat,k≤s.size∧k≤64∧i= .int .i64 k∧Iq w g zc (KG s.data.toList k)) (fun i _=>64 - (intOf i).toNat)
 case atStart=>exact ⟨0,om,om,rfl,uh n⟩
 case round=>
  obtain ⟨k,hk,y,rfl,a⟩:=hrel;clear n
  by_cases t:k<s.size∧k<64
  ·obtain ⟨j,u⟩:=t;have l:=Xy s.data.toList k (by rw [uh b];omega) om;have A:=MR a.two k om;have B:=eY a.two k;have d:s.data.toList.getD k 0=s[k]:=by
    rw [aN,bJ (by rw [uh b];exact j)];rfl
   have f:=a.set k s[k];rw [← d,apO _ _ (by rw [uh b];exact j) u,d] at f;have x:=ah f;clear a f d l;go_wp2;go_roundw
   case rel=>exact ⟨k+1,om,om,gn,uh x⟩
   case measure=>exact bW
  ·have m:k=min s.size 64:=om;have l:=Xy s.data.toList k (by rw [uh b];omega) om;rw [← m] at h;obtain ⟨b1,b2,C,o,p,q⟩:=a.back aV l;have r:=ah q;clear a q m;generalize KG s.data.toList k=c at*
   by_cases j:k<s.size
   ·have z: ¬ (k:Int)<64:=om;go_wp2;rw [uh h];exact iy (v:= .agg (cv c).toArray) (qZ Tryz.results45 ⟨w.heap.size,0,none⟩ rfl (by rw [dw,dM o,p])) rfl ⟨rfl,uh r⟩
   ·go_wp2;rw [uh h];exact iy (v:= .agg (cv c).toArray) (qZ Tryz.results45 ⟨w.heap.size,0,none⟩ rfl (by rw [dw,dM o,p])) rfl ⟨rfl,uh r⟩
def amD (L:List aj) (k:Nat) (h:k<L.length):L.take (k+1)=L.take k++[cl L k]:=by
 rw [x9 h];unfold cl;rw [aN,bJ h];rfl
def avE (w:World) (x bv:Value) (A B:List aj) (l:kK w x A) (hB:kK w bv B) (U:A.length≤100000) (V:B.length≤100000):
  Calls Tryz.prog 60 #[x,bv] w fun e r=>e= .returned (.bool (decide (A=B)))∧aC w r:=by
 obtain ⟨N,I,rfl⟩:=gQ l.row;obtain ⟨O,J,rfl⟩:=gQ hB.row;have W:(A.length:Int)≤100000:=om;have X:(B.length:Int)≤100000:=om
 by_cases hlen:A.length=B.length
 ·have dl:((A.length:Int) != (B.length:Int))=false:=by rw [afl];omega
  have v:=ah hlen;clear hlen
  go_enter Tryz.func60,Tryz.ntmps60
  go_wp2
  go_loopw [5] (fun i r=> ∃ k:Nat,k≤A.length∧i= .int .i64 k∧aC w r∧A.take k=B.take k) (fun i _=>A.length - (intOf i).toNat)
  case atStart=>exact ⟨0,om,rfl,bG _ _,rfl⟩
  case round=>
   obtain ⟨k,hk,rfl,m,y⟩:=hrel;have z:=ah y;have j:=ah m;have c:=l.kept (S:=fun _=>False) (Kept.dQ m) (fun _ _=>id);have d:=hB.kept (S:=fun _=>False) (Kept.dQ m) (fun _ _=>id);clear y m
   by_cases f:k<A.length
   ·have o:k<B.length:=by rw [← uh v];exact f
    obtain ⟨g,G,C,_⟩:=gy l.row om;obtain ⟨rfl,rfl⟩:N=some ⟨g,0,none⟩∧I=G:=by injection C with s Q t;exact ⟨s,t⟩
    obtain ⟨u,H,D,_⟩:=gy hB.row om;obtain ⟨rfl,rfl⟩:O=some ⟨u,0,none⟩∧J=H:=by injection D with s Q t;exact ⟨s,t⟩
    have l1: ∀ n,dU (wr.drewN n) g (k*64) 64:=fun n=>oQ c.row c.lens k f;have l2: ∀ n,dO (wr.drewN n) g (k*64) 64=cv (cl A k):=fun n=>oP c.row c.lens k f;have l3: ∀ n,dU (wr.drewN n) u (k*64) 64:=fun n=>oQ d.row d.lens k o;have l4: ∀ n,dO (wr.drewN n) u (k*64) 64=cv (cl B k):=fun n=>oP d.row d.lens k o;have K:=je l.lens f;have L:=je hB.lens o;have he:=wY K L;have Y:(k:Int)<(A.length:Int):=om;have Z:(k:Int)<(B.length:Int):=om;have p:=ah (amD A k f);have q:=ah (amD B k o);clear C D c d
    by_cases b:cl A k=cl B k
    ·rw [dZ b] at he;have a:Hid (A.take (k+1)=B.take (k+1)):=by
      have E:=uh p;have R:=uh q;have T:=uh z;rw [T,b,← R] at E;exact E
     clear b p q;go_wp2
     go_quiet (fail)
     go_wp2;go_roundw
     case rel=>exact ⟨k+1,om,gn,j.trans ((((Kept.refl (fun _=>False) wr).drewN nq).below).mono j.size),uh a⟩
     case measure=>exact bW
    ·rw [gK b] at he;have a:Hid (decide (A=B)=false):=by
      refine gK ?_;intro e;exact b (by rw [e])
     clear b p q;go_wp2
     go_quiet (fail)
     go_wp2;go_ret;exact ⟨by rw [uh a];rfl,j.trans ((((Kept.refl (fun _=>False) wr).drewN nq).below).mono j.size)⟩
   ·have F:A=B:=by
     have h:=uh z;have M:k=A.length:=om;rw [M,H7,uh v,H7] at h;exact h
    have a:Hid (decide (A=B)=true):=dZ F;clear F;go_wp2;go_ret;exact ⟨by rw [uh a];rfl,uh j⟩
 ·have dl:((A.length:Int) != (B.length:Int))=true:=by rw [ou];omega
  have a:Hid (decide (A=B)=false):=gK (fun e=>hlen (by rw [e]));clear hlen
  go_enter Tryz.func60,Tryz.ntmps60
  go_wp2;go_ret;exact ⟨by rw [uh a];rfl,bG _ _⟩
def dV (m:UInt8):aj:=(zc.set 0 m).set 63 (m ^^^ 85)
def Dn (m:UInt8):(dV m).length=64:=by simp [dV,aV]
def ao6 (m:UInt8):bits BinOp.xor IntKind.u8 (m.toNat:Int) 85=((m ^^^ 85).toNat:Int):=by
 have h: ∀ n:Fin 256,bits BinOp.xor IntKind.u8 ((n.val:Nat):Int) 85=(((UInt8.ofNat n.val) ^^^ 85).toNat:Int):=by decide +kernel
 have:=h ⟨m.toNat,m.toNat_lt⟩
 simpa using this
def KZ (m:UInt8) (w:World):
  Calls Tryz.prog 68 #[.int .u8 (m.toNat:Int)] w fun e d=>e= .returned (.agg (cv (dV m)).toArray)∧aC w d:=by
 have b:=Iq.start w;have c0:=MR b.two 0 (by rw [aV];omega);have a:(cv zc).set 0 (.int .u8 (m.toNat:Int))=cv (zc.set 0 m):=acg zc 0 m;have i:((cv zc).set 0 (.int .u8 (m.toNat:Int))).set 63 (.int .u8 (bits BinOp.xor IntKind.u8 (m.toNat:Int) 85))=cv (dV m):=by rw [a,ao6,acg];rfl
 have t2:Iq w ((w.alloc (.cells (cv zc).toArray 38)).alloc (.cells (cv (dV m)).toArray 38)) zc (dV m):=by
  refine ⟨(fC).alloc sm _,?_,?_⟩
  ·rw [jX _ _ _ sm];exact aX _ _
  ·have:=aX (w.alloc (.cells (cv zc).toArray 38)) (.cells (cv (dV m)).toArray 38)
   simpa using this
 obtain ⟨b1,b2,k,f,g,c⟩:=t2.back aV (Dn m);have j:=Dn m;have h:=ah c;clear b t2 c a
 go_enter Tryz.func68,Tryz.ntmps68
 go_wp2;exact iy (v:= .agg (cv (dV m)).toArray) (qZ Tryz.results68 ⟨w.heap.size,0,none⟩ rfl (by rw [dw,dM f,g])) rfl ⟨rfl,uh h⟩
end
section
variable {P:Program} (w:World)
def aov (t ty:TypeId) (base:Nat) (e:TypeId) (i:TypeInfo) (z:Value) (size bytes:Nat) (q:P.underlying t=some (.slice e)) (hi:P.info? e=some i) (A:i.zero=some z)
  (C:i.size=size) (E:i.bytes=bytes) (v:Value) (n:Nat) (xs:List Value) (o:w.ownsRow base e size v n xs)
  (d:Addr) (m c:Nat) (news:List Value) (f:news.length=m*size) (l: ∀ j u,news[j]? = some u→w.cell? (d.add j)=some u) (G: ∀ u ∈ news,u.oneCell'=true)
  (hm:0<m) (F:n+m≤maxLen) (x:(n+m)*bytes≤140737488355328) (g cap:Nat) (h:World)
  (hr:(Builtin.append_ #[t,t] ty #[v,.slice (some d) m c]).run P w= .ok (.slice (some ⟨g,0,none⟩) (n+m) cap) h) (H:w.grownBy h v.ownBlock):
  (v= .slice (some ⟨g,0,none⟩) n cap∧w.grownBy h (some g))∨(g=w.heap.size∧w.grownBy h none):=by
 subst C;subst E;have K:n+m≤9223372036854775807:=by simp only [maxLen] at F;omega
 rcases o.2 with ⟨rfl,rfl⟩ | ⟨r,p,cur,rfl,B,I,hn,hc,hs,L⟩
 ·have b:=run_append_nil (P:=P) w t ty e i z q hi A d m c news f l om om (by have B:=x;simp only [rE] at B;omega);rw [b] at hr;injection hr with a s;injection a with a _ _;injection a with a;injection a with a _ _;refine ay ⟨a.symm,?_⟩;rw [← s];exact ⟨rfl,rfl,rfl,sm,fun k hk _=>jX w.drew _ k hk⟩
 ·by_cases y:n+m≤p
  ·have D:n*i.size+news.length≤cur.size:=by rw [f,hs,← Nat.add_mul];exact Qb _ y
   have b:=run_append_room (P:=P) w t ty e i q hi r n p cur I d m c news f l G y D;rw [b] at hr;injection hr with a _;injection a with a _ J;injection a with a;injection a with a _ _;subst a;subst J;exact aA ⟨rfl,H⟩
  ·have b:=run_append_grow (P:=P) w t ty e i z q hi A ⟨r,0,none⟩ n p xs o.1 (o.cells (g:=r) rfl) d m c news f l om om (growslice_fits om x);rw [b] at hr;injection hr with a s;injection a with a _ _;injection a with a;injection a with a _ _;refine ay ⟨a.symm,?_⟩;rw [← s];exact ⟨rfl,rfl,rfl,sm,fun k hk _=>jX w.drew _ k hk⟩
def axx {o:Oper} {a:Act} {K:Act→World→Prop} {Q:Exit→Act→World→Prop} (s x:Operand) (t:TypeId)
  (I:o.op= .call { callee:= .builtin .append,args:= #[s,x],argTypes:= #[t,t] })
  (base:Nat) (e:TypeId) (i:TypeInfo) (z:Value) (size bytes:Nat) (y:P.underlying t=some (.slice e)) (hi:P.info? e=some i) (A:i.zero=some z)
  (k:i.size=size) (q:i.bytes=bytes) (F:z.cells.size=size) (G:0<size)
  (v:Value) (n:Nat) (xs:List Value) (hs:a.eval s=v) (p:w.ownsRow base e size v n xs)
  (d:Addr) (m c:Nat) (news:List Value) (J:a.eval x= .slice (some d) m c) (B:news.length=m*size) (l: ∀ j u,news[j]? = some u→w.cell? (d.add j)=some u) (C: ∀ u ∈ news,u.oneCell'=true)
  (hm:0<m) (r:n+m≤maxLen) (f:(n+m)*bytes≤140737488355328) (E:base≤w.heap.size) (H:Nat) (D:w.heap.size=H)
  (h: ∀ g cap b,b.ownsRow base e size (.slice (some ⟨g,0,none⟩) (n+m) cap) (n+m) (xs++news)→((v= .slice (some ⟨g,0,none⟩) n cap∧w.grownBy b (some g))∨(g=H∧w.grownBy b none))→g<b.heap.size→K (a.put o.dst (.slice (some ⟨g,0,none⟩) (n+m) cap)) b):o.wp P a w K Q:=by
 obtain ⟨g,cap,b,hr,L,M,O,N⟩:=run_append_lies (P:=P) w t o.type base e i z size bytes y hi A k q F G v n xs p d m c news B l C hm r f E H D;have hw:=aov w t o.type base e i z size bytes y hi A k q v n xs p d m c news B l C hm r f g cap b hr M;rw [D] at hw;unfold Oper.wp execOp;simp only [I,resolve,invoke,builtin,jC,zU,sK,List.map_toArray,jU,LQ,hs,J,hr];exact h g cap b L hw N
def P7 {ops:Array Oper} {rest:List Oper} {o:Oper} {a:Act} {Q:Exit→Act→World→Prop} (r:o.guard=none) (s x:Operand) (t:TypeId)
  (D:o.op= .call { callee:= .builtin .append,args:= #[s,x],argTypes:= #[t,t] })
  (base:Nat) (e:TypeId) (i:TypeInfo) (z:Value) (size bytes:Nat) (E:P.underlying t=some (.slice e)) (hi:P.info? e=some i) (F:i.zero=some z)
  (k:i.size=size) (y:i.bytes=bytes) (A:z.cells.size=size) (B:0<size)
  (v:Value) (n:Nat) (xs:List Value) (hs:a.eval s=v) (q:w.ownsRow base e size v n xs)
  (d:Addr) (m c:Nat) (news:List Value) (G:a.eval x= .slice (some d) m c) (I:news.length=m*size) (l: ∀ j u,news[j]? = some u→w.cell? (d.add j)=some u) (J: ∀ u ∈ news,u.oneCell'=true)
  (hm:0<m) (C:n+m≤maxLen) (f:(n+m)*bytes≤140737488355328) (p:base≤w.heap.size) (H:Nat) (K:w.heap.size=H)
  (h: ∀ g cap b,b.ownsRow base e size (.slice (some ⟨g,0,none⟩) (n+m) cap) (n+m) (xs++news)→((v= .slice (some ⟨g,0,none⟩) n cap∧w.grownBy b (some g))∨(g=H∧w.grownBy b none))→g<b.heap.size→wpList P ops Q rest (a.put o.dst (.slice (some ⟨g,0,none⟩) (n+m) cap)) b):wpList P ops Q (o :: rest) a w:=
 wpList_plain r fun _ L=>axx w s x t D base e i z size bytes E hi F k y A B v n xs hs q d m c news G I l J hm C f p H K fun g cap b M N O=>L _ _ (h g cap b M N O)
def VK {w:World} {base g cap n m:Nat} {e:TypeId} {size:Nat} {xs news:List Value} (h:w.ownsRow base e size (.slice (some ⟨g,0,none⟩) (n+m) cap) (n+m) (xs++news)) (c:xs.length=n*size):
  w.ownsRow base e size (.slice (some ⟨g,0,none⟩) n cap) n xs:=by
 refine ⟨c,?_⟩;rcases h.2 with ⟨b,_⟩ | ⟨l,k,cur,b,d,f,hn,hm,hs,i⟩
 ·cases b
 ·injection b with a _ j;injection a with a;injection a with a _ _;subst a;subst j;refine ay ⟨g,cap,cur,rfl,d,f,om,hm,hs,?_⟩
  have:cur.toList.take (n*size)=(cur.toList.take ((n+m)*size)).take (n*size):=by
   rw [List.take_take,SV (Qb _ om)]
  rw [this,i,← c,afm]
def PG {w a:World} {base g cap n m:Nat} {e:TypeId} {size:Nat} {v:Value} {xs news:List Value} (h:w.ownsRow base e size v n xs) (i:a.ownsRow base e size (.slice (some ⟨g,0,none⟩) (n+m) cap) (n+m) (xs++news))
  {H:Nat} (hw:(v= .slice (some ⟨g,0,none⟩) n cap∧w.grownBy a (some g))∨(g=H∧w.grownBy a none)):a.ownsRow base e size v n xs:=by
 rcases hw with ⟨rfl,_⟩ | ⟨_,j⟩
 ·exact VK i h.1
 ·obtain ⟨k,b⟩:=h;refine ⟨k,?_⟩;rcases b with b | ⟨c,f,cur,rfl,l,d,r⟩
  ·exact aA b
  ·exact ay ⟨c,f,cur,rfl,l,by rw [j.block c (aK d) sm];exact d,r⟩
def DZ {w b:World} {g cap n H:Nat} {v:Value} (hw:(v= .slice (some ⟨g,0,none⟩) n cap∧w.grownBy b (some g))∨(g=H∧w.grownBy b none)):Kept (fun k=>v.ownBlock=some k) w b:=by
 rcases hw with ⟨rfl,a⟩ | ⟨_,a⟩
 ·exact ⟨a.os,a.tape,a.output,a.size,fun k hk hs=>a.block k hk (fun e=>hs e.symm)⟩
 ·exact ⟨a.os,a.tape,a.output,a.size,fun k hk _=>a.block k hk sm⟩
end
structure WS where
 v:Value
 n:Nat
 m:UInt8
structure Xl where
 v:Value
 n:Nat
 m:Int
structure abo where
 v:Value
 n:Nat
 s:ByteArray
structure nG where
 names:List abo
 files:List WS
 writes:List Xl
 next:Nat
structure oM where
 n:Value
 nm:Value
 f:Value
 fm:Value
 w:Value
 wm:Value
def y5 (V:oM) (next:Nat):List Value:=[V.n,V.nm,V.f,V.fm,V.w,V.wm,.int .i64 next]
def ah6 (x:WS):List Value:=aS (List.replicate x.n (dV x.m))
def ah8 (x:Xl):List Value:=jg (List.replicate x.n ⟨x.m,zc⟩)
def ah7 (x:abo):List Value:=List.replicate x.n (.string x.s)
structure iY (w:World) (b:Nat) (V:oM) (B:nG) (S:Nat→Prop):Prop where
 aG:w.heap[b]? = some (.cells (y5 V B.next).toArray 77 (0,0))
 rN:w.ownsRow 0 34 1 V.n B.names.length (B.names.map (·.v))
 uU:w.ownsRow 0 9 1 V.nm B.names.length (B.names.map fun x=> .string x.s)
 rF:w.ownsRow 0 28 1 V.f B.files.length (B.files.map (·.v))
 xQ:w.ownsRow 0 5 1 V.fm B.files.length (B.files.map fun x=> .int .u8 (x.m.toNat:Int))
 rW:w.ownsRow 0 58 1 V.w B.writes.length (B.writes.map (·.v))
 xR:w.ownsRow 0 3 1 V.wm B.writes.length (B.writes.map fun x=> .int .i64 x.m)
 eN: ∀ x ∈ B.names,w.ownsRow 0 9 1 x.v x.n (ah7 x)
 eF: ∀ x ∈ B.files,w.ownsRow 0 38 64 x.v x.n (ah6 x)
 eW: ∀ x ∈ B.writes,w.ownsRow 0 104 65 x.v x.n (ah8 x)
 apart: ∀ x ∈ B.names,∀ g,x.v.ownBlock=some g→V.nm.ownBlock≠some g
 AB:S b
 iI: ∀ g,(V.n.ownBlock=some g∨V.nm.ownBlock=some g∨V.f.ownBlock=some g∨V.fm.ownBlock=some g∨V.w.ownBlock=some g∨V.wm.ownBlock=some g)→S g
 IU: ∀ x ∈ B.names,∀ g,x.v.ownBlock=some g→S g
 IQ: ∀ x ∈ B.files,∀ g,x.v.ownBlock=some g→S g
 IV: ∀ x ∈ B.writes,∀ g,x.v.ownBlock=some g→S g
 lt: ∀ k,S k→k<w.heap.size
def iY.kept {w e:World} {b:Nat} {V:oM} {B:nG} {S T:Nat→Prop} (h:iY w b V B S) (hk:Kept T w e) (c: ∀ k,S k→ ¬ T k):iY e b V B S where
 aG:=hk.aG (c b h.AB) h.aG
 rN:=bV hk h.rN fun g a=>c g (h.iI g (aA a))
 uU:=bV hk h.uU fun g a=>c g (h.iI g (ay (aA a)))
 rF:=bV hk h.rF fun g a=>c g (h.iI g (ay (ay (aA a))))
 xQ:=bV hk h.xQ fun g a=>c g (h.iI g (ay (ay (ay (aA a)))))
 rW:=bV hk h.rW fun g a=>c g (h.iI g (ay (ay (ay (ay (aA a))))))
 xR:=bV hk h.xR fun g a=>c g (h.iI g (ay (ay (ay (ay (ay a))))))
 eN:=fun x d=>bV hk (h.eN x d) fun g a=>c g (h.IU x d g a)
 eF:=fun x d=>bV hk (h.eF x d) fun g a=>c g (h.IQ x d g a)
 eW:=fun x d=>bV hk (h.eW x d) fun g a=>c g (h.IV x d g a)
 apart:=h.apart
 AB:=h.AB
 iI:=h.iI
 IU:=h.IU
 IQ:=h.IQ
 IV:=h.IV
 lt:=fun k f=>iL (h.lt k f) hk.size
def iY.below {w a:World} {b:Nat} {V:oM} {B:nG} {S:Nat→Prop} (h:iY w b V B S) (c:aC w a):iY a b V B S:=
 h.kept (T:=fun _=>False) (Kept.dQ c) (fun _ _=>id)
def aes {P:Program} (w:World) (t e:TypeId) (n:Nat) (z v u:Value) (d:P.underlying t=some (.slice e)) (hi:(P.info? e).map (fun i=>(i.zero,i.size))=some (some z,n)) (h0:0<n) (hn:n≤1000000) (hv:v.cells.size=n) (hu:u.cells.size=n):
  (Instr.buildSlice t 2 #[(0,v),(1,u)]).run P w= .ok (.slice (some ⟨w.heap.size,0,none⟩) 2 2) (w.alloc (.cells (v.cells.toList++u.cells.toList).toArray e)):=by
 obtain ⟨f,hs⟩:=uZ hi;cases hq:P.info? e with
 | none=>simp [hq] at hs
 | some i=>
  have c:i.size=n:=by simpa [hq] using hs
  have g:Instr.fill (fun i=>some (i*n,n)) ((Array.range (2*n)).map (z.cells[· % z.cells.size]!)) [(0,v),(1,u)]=some (v.cells.toList++u.cells.toList).toArray:=by
   generalize a:(Array.range (2*n)).map (z.cells[· % z.cells.size]!)=A;have k:A.toList.length=2*n:=by rw [← a];simp
   rw [KO _ _ 0 0 n v _ sm hv (by rw [← a];simp;omega),KO _ _ 1 n n u [] sm hu (by rw [ZG,← a];simp;omega),Instr.fill];have h:mY A 0 v.cells.toList=(v.cells.toList++A.toList.drop n).toArray:=by
    have j:A=(A.toList.take n++A.toList.drop n).toArray:=by rw [LP]
    conv=>lhs;rw [j]
    exact PN _ _ _ (by simp [hv];rw [← Ws];omega)
   rw [h];have b:=ZE v.cells.toList (A.toList.drop n) u.cells.toList (by simp [hu];rw [← Ws];omega);rw [show v.cells.toList.length=n by simp [hv]] at b;rw [b]
  unfold Instr.buildSlice;rw [jC,yh d w];simp only [sK,Go.sizeOf,typeInfo,jC,WM,hq,zU,c];rw [ak om,ak om];simp only [jC,f,sK,zU,g];simp [newRow]
def agW (parts:Array (Nat × Value)):Sem Value:=Instr.buildSlice 28 2 parts
def ag3 (parts:Array (Nat × Value)):Instr.buildSlice 28 2 parts=agW parts:=rfl
def al4 {w:World} {c d:List UInt8} (hc:c.length=64) (a:d.length=64):(agW #[(0,.agg (cv c).toArray),(1,.agg (cv d).toArray)]).run Tryz.prog w= .ok (.slice (some ⟨w.heap.size,0,none⟩) 2 2) (w.alloc (.cells (cv c++cv d).toArray 38)):=
 aes w 28 38 64 (.agg (cv zc).toArray) (.agg (cv c).toArray) (.agg (cv d).toArray) Tryz.underlying28 kr om om (by simp [Value.cells,bC,hc]) (by simp [Value.cells,bC,a])
end Go.Proofs.YtknjjjenklfeoaaGreatDoor
