import Derived.Test.YtknjjjenklfeoaaGreatDoorO13
set_option maxHeartbeats 8000000
set_option maxRecDepth 100000
set_option linter.all false
namespace Go.Proofs.YtknjjjenklfeoaaGreatDoor
open Go.RowKit Go.Shelf
attribute [local go_sem ↓] dw fP fZ kS mP mV jJ kJ jY jU lD lH kQ ku kT mQ mW lZ ny jG qc qP qQ qF
attribute [local go_sem] dK fO fV gK gy aV kX mG mM mJ mF gI jK kH jX kZ kW iJ jW lq lC lu kF jc jd lY l7 kG kY mO nI lT mD nH qh qM qO qN qL
attribute [local go_sem] pW pV Oper.semAt_some
theorem Aj (c:List UInt8) (i:Nat) (b:UInt8) (j:Nat) (hi:i<c.length):aI (c.set i b) j=if i=j then b.toNat else aI c j:=by
 unfold aI;rw [aK,uf]
 by_cases h:i=j
 ·rw [au h,au h,au hi];rfl
 ·rw [ak h,ak h,aK]
theorem toNat_ofNat (n:Nat) (h:n<256):(UInt8.ofNat n).toNat=n:=by rw [MN];omega
theorem aqU (c:aj) (k n:Nat) (hk:k+1<c.length) (hn:n<65536):num (uU c k n) k=n:=by
 unfold num uU;have e1:k+1<(c.set k (UInt8.ofNat (n / 256))).length:=by rw [rG];exact hk
 have e2:k<c.length:=om;rw [Aj _ _ _ _ e1,Aj _ _ _ _ e1,Aj _ _ _ _ e2,ak om,au rfl,au rfl,toNat_ofNat _ om,toNat_ofNat _ om];omega
theorem aqT (c:aj) (k n j:Nat) (hk:k+1<c.length) (hj:j+1<k∨k+1<j):num (uU c k n) j=num c j:=by
 unfold num uU;have e1:k+1<(c.set k (UInt8.ofNat (n / 256))).length:=by rw [rG];exact hk
 have e2:k<c.length:=om;rw [Aj _ _ _ _ e1,Aj _ _ _ _ e1,Aj _ _ _ _ e2,Aj _ _ _ _ e2,ak om,ak om,ak om,ak om]
theorem ai2 (T:List Nat) (hT: ∀ i,T.getD i 0<65536): ∀ k,k≤32→ ∀ i,i<k→num (JI T k) (2*i)=T.getD i 0
 | 0,_,i,hi=>om
 | k+1,hk,i,hi=>by
  rw [JI]
  by_cases h:i=k
  ·subst h;exact aqU _ _ _ (by rw [Sz];omega) (hT i)
  ·rw [aqT _ _ _ _ (by rw [Sz];omega) om];exact ai2 T hT k om i om
theorem XE (T:List Nat) (hT: ∀ i,T.getD i 0<65536) (i:Nat) (hi:i<32):num (bytesOf T) (2*i)=T.getD i 0:=ai2 T hT 32 (aP _) i hi
def vY (ch:Nat→Nat) (T:List Nat):List Nat:=T.map fun n=>if n=0 then 0 else ch n
theorem SC (ch:Nat→Nat) (T:List Nat):(vY ch T).length=T.length:=by simp [vY]
theorem JJ (ch:Nat→Nat) (T:List Nat) (i:Nat):(vY ch T).getD i 0=if T.getD i 0=0 then 0 else ch (T.getD i 0):=by
 unfold vY;rw [aK,aK,jD];cases h:T[i]? with
 | none=>simp
 | some x=>simp
def zi (ch:Nat→Nat) (V:aB) (t:Nat):aB:=bT V t (bytesOf (vY ch (numsOf (cl V.C t))))
def qY (ch:Nat→Nat) (V:aB) (ts:List Nat):aB:=ts.foldl (zi ch) V
theorem asC (ch:Nat→Nat) (V:aB) (ts:List Nat) (t:Nat):qY ch V (ts++[t])=zi ch (qY ch V ts) t:=by simp [qY]
def Marks (ch:Nat→Nat):Prop:= ∀ n,n<65536→n≠0→6≤n%32768→ch n<65536∧ch n%32768=n%32768
theorem anz (C:List aj) (k:Nat) (c:aj) (hk:k<C.length) (t:Nat):cl (C.set k c) t=if k=t then c else cl C t:=by
 unfold cl;rw [aK,uf]
 by_cases h:k=t
 ·rw [au h,au h,au hk];rfl
 ·rw [ak h,ak h,aK]
theorem acD (V:aB) (n:Nat) (d:aj) (hn:n<V.C.length) (t:Nat):cl (bT V n d).C t=if n=t then d else cl V.C t:=by
 unfold bT;split
 ·rename_i h
  by_cases e:n=t
  ·subst e;rw [au rfl];exact h.2
  ·rw [ak e]
 ·have:oW V.C (n+1)=V.C:=by unfold oW;rw [show n+1 - V.C.length=0 by omega];simp
  show cl ((oW V.C (n+1)).set n d) t=_;rw [this];exact anz V.C n d hn t
theorem afD {ch:Nat→Nat} (hch:Marks ch) {Pc:Nat→Prop} (h6: ∀ c,Pc c→6≤c) {T:List Nat} (hT: ∀ i,DU Pc (T.getD i 0)): ∀ i,(vY ch T).getD i 0<65536:=by
 intro i;rw [JJ];split
 ·decide
 ·rename_i h;exact (hch _ (hT i).1 h (h6 _ ((hT i).2 h))).1
theorem ajP {ch:Nat→Nat} (hch:Marks ch) {V:aB} {t:Nat} (h6:6≤t) (ht:t<V.C.length) {Pc:Nat→Prop} (hP6: ∀ c,Pc c→6≤c) (hT:Ai Pc V.C t):bH V (zi ch V t):=by
 have hlt:=afD hch hP6 hT;refine ⟨by unfold zi;rw [yN];omega,fun k hk=> ?_,fun k i hi=> ?_,fun k i hi=> ?_⟩
 ·unfold zi;rw [acD V t _ ht,ak om]
 ·unfold zi;rw [acD V t _ ht]
  by_cases e:t=k
  ·subst e;rw [au rfl,XE _ hlt i hi,JJ,uT _ _ hi];split
   ·rename_i h;simp [h]
   ·rename_i h;have h1:=hT i;rw [uT _ _ hi] at h1;have h2:=hch _ h1.1 h (hP6 _ (h1.2 h));refine ⟨fun e=> ?_,fun e=>absurd e h⟩;rw [e] at h2
    have:=hP6 _ (h1.2 h)
    omega
  ·rw [ak e]
 ·unfold zi;rw [acD V t _ ht]
  by_cases e:t=k
  ·subst e;rw [au rfl,XE _ hlt i hi,JJ,uT _ _ hi];split
   ·rename_i h;rw [h]
   ·rename_i h;have h1:=hT i;rw [uT _ _ hi] at h1;exact (hch _ h1.1 h (hP6 _ (h1.2 h))).2
  ·rw [ak e]
theorem asA (ch:Nat→Nat) (V:aB) (t:Nat):(zi ch V t).L.length≤V.L.length+2:=tZ _ _ _
def EX {Pc:Nat→Prop} (ch:Nat→Nat) (T:List Nat) (ss:List (mY Pc)):List Nat:=ss.foldl (fun T s=>T.set s.index (ch s.number)) T
theorem ae6 {Pc:Nat→Prop} (ch:Nat→Nat) (T:List Nat) (ss:List (mY Pc)) (s:mY Pc):EX ch T (ss++[s])=(EX ch T ss).set s.index (ch s.number):=by simp [EX]
theorem VJ {Pc:Nat→Prop} (ch:Nat→Nat) (T:List Nat) (ss:List (mY Pc)):(EX ch T ss).length=T.length:=by
 unfold EX
 induction ss generalizing T with
 | nil=>rfl
 | cons a r ih=>simp only [Vg];rw [ih];simp
theorem aoK (T:List Nat) (k n i:Nat) (hk:k<T.length):(T.set k n).getD i 0=if k=i then n else T.getD i 0:=by
 rw [aK,uf]
 by_cases h:k=i
 ·rw [au h,au h,au hk];rfl
 ·rw [ak h,ak h,aK]
theorem ae5 {Pc:Nat→Prop} (ch:Nat→Nat) (t:Nat) (T:List Nat) (hT: ∀ i,DU Pc (T.getD i 0)) (hl:T.length=32): ∀ k hk i,(EX ch T (sJ t T hT k hk)).getD i 0=if i<k then (vY ch T).getD i 0 else T.getD i 0
 | 0,_,i=>by simp [sJ,EX]
 | k+1,hk,i=>by
  have ih:=ae5 ch t T hT hl k om
  by_cases h0:T.getD k 0=0
  ·rw [UD t T hT k hk h0,ih i]
   by_cases e:i=k
   ·subst e;rw [ak om,au om,JJ,au h0,h0]
   ·by_cases h:i<k
    ·rw [au h,au om]
    ·rw [ak h,ak om]
  ·rw [UC t T hT k hk h0,ae6,aoK _ _ _ _ (by rw [VJ];dsimp only;omega),ih i];dsimp only
   by_cases e:k=i
   ·subst e;rw [au rfl,au om,JJ,ak h0]
   ·rw [ak e]
    by_cases h:i<k
    ·rw [au h,au om]
    ·rw [ak h,ak om]
theorem ah9 {A B:List Nat} (h:A.length=B.length) (hg: ∀ i,i<A.length→A.getD i 0=B.getD i 0):A=B:=by
 refine UY h fun i h1 h2=> ?_
 have:=hg i h1
 rwa [aK,aK,bI h1,bI h2] at this
theorem amk {Pc:Nat→Prop} (ch:Nat→Nat) (t:Nat) (T:List Nat) (hT: ∀ i,DU Pc (T.getD i 0)) (hl:T.length=32):EX ch T (sJ t T hT 32 (aP _))=vY ch T:=by
 refine ah9 (by rw [VJ,SC]) fun i hi=> ?_;rw [VJ,hl] at hi;rw [ae5 ch t T hT hl,au hi]
end Go.Proofs.YtknjjjenklfeoaaGreatDoor
