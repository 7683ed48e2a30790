import Derived.Test.YtknjjjenklfeoaaGreatDoorO43
set_option maxHeartbeats 8000000
set_option maxRecDepth 100000
set_option linter.all false
namespace Go.Proofs.YtknjjjenklfeoaaGreatDoor
structure mX where
 table:Nat
 index:Nat
 number:Nat
def nX (C:List aj) (t:Nat):Nat→Nat→List mX
 | 0,_=>[]
 | m+1,k=>(if nm C t k=0 then [] else [⟨t,k,nm C t k⟩])++nX C t m (k+1)
def jg (C:List aj) (t:Nat):Nat→Nat→List mX
 | 0,_=>[]
 | m+1,i=>(if nm C t i=0 then [] else ⟨t,i,nm C t i⟩ :: nX C (nm C t i%32768) 32 0)++jg C t m (i+1)
def qx (R:aU) (first:Nat) (s:mX):Bool × aU:=
 if s.table=first then (if 2≤s.index then (false,{ R with bad:=s.table }) else tell R (s.number%32768) 2 s.table) else tell R (s.number%32768) 3 s.table
def jH (first:Nat):List mX→aU→Bool × aU
 | [],R=>(true,R)
 | s :: r,R=>if (qx R first s).1 then jH first r (qx R first s).2 else (false,(qx R first s).2)
theorem SS (first:Nat): ∀ (a b:List mX) (R:aU),jH first (a++b) R=if (jH first a R).1 then jH first b (jH first a R).2 else (false,(jH first a R).2)
 | [],b,R=>rfl
 | s :: a,b,R=>by
  rw [sO,jH,jH]
  by_cases h:(qx R first s).1=true
  ·rw [au h,au h,SS first a b]
  ·rw [ak h,ak h];rfl
theorem agT (first:Nat) (a:List mX) (s:mX) (R:aU) (h:(jH first a R).1=true):jH first (a++[s]) R=qx (jH first a R).2 first s:=by
 rw [SS,au h,jH]
 by_cases h2:(qx (jH first a R).2 first s).1=true
 ·rw [au h2,jH];exact KQ h2.symm rfl
 ·rw [ak h2];exact KQ (by simpa using h2) rfl
theorem akB (R:aU) (first:Nat) (s:mX):(qx R first s).2.L=R.L:=by
 unfold qx;split
 ·split
  ·rfl
  ·exact zn _ _ _ _
 ·exact zn _ _ _ _
theorem akC (R:aU) (first:Nat) (s:mX):(qx R first s).2.told.length=R.told.length:=by
 unfold qx;split
 ·split
  ·rfl
  ·exact YL _ _ _ _
 ·exact YL _ _ _ _
theorem WC (first:Nat): ∀ (a:List mX) (R:aU),(jH first a R).2.L=R.L
 | [],R=>rfl
 | s :: a,R=>by
  rw [jH];split
  ·rw [WC first a,akB]
  ·exact akB _ _ _
theorem agU (first:Nat): ∀ (a:List mX) (R:aU),(jH first a R).2.told.length=R.told.length
 | [],R=>rfl
 | s :: a,R=>by
  rw [jH];split
  ·rw [agU first a,akC]
  ·exact akC _ _ _
theorem aud {R:aU} {first:Nat} {s:mX} (h:(qx R first s).1=true):6≤s.number%32768∧s.number%32768<R.L.length:=by
 unfold qx at h
 split at h
 ·split at h
  ·cases h
  ·exact Ji h
 ·exact Ji h
theorem YK {R:aU} {n kind at':Nat} (h:(tell R n kind at').1=false):(tell R n kind at').2.bad=(at':Int):=by
 unfold tell at h ⊢
 split at h
 ·rename_i h';rw [au h']
 ·cases h
theorem ado {R:aU} {first:Nat} {s:mX} (h:(qx R first s).1=false):(qx R first s).2.bad=(s.table:Int):=by
 unfold qx at h ⊢
 by_cases e:s.table=first
 ·rw [au e] at h ⊢
  by_cases e2:2≤s.index
  ·rw [au e2]
  ·rw [ak e2] at h ⊢;exact YK h
 ·rw [ak e] at h ⊢;exact YK h
def qZ (f at':Nat) (R:aU):Bool × aU:=if (tell R f 1 at').1 then jH f (jg R.L f 32 0) (tell R f 1 at').2 else (false,(tell R f 1 at').2)
def nC:List Nat→Nat→aU→Bool × aU
 | [],_,R=>(true,R)
 | f :: r,a,R=>if (qZ f a R).1 then nC r 5 (qZ f a R).2 else (false,(qZ f a R).2)
theorem agR (x:Nat): ∀ (pre:List Nat) (a:Nat) (R:aU),(nC pre a R).1=true→nC (pre++[x]) a R=qZ x (if pre.length=0 then a else 5) (nC pre a R).2
 | [],a,R,_=>by
  show (if (qZ x a R).1 then (true,(qZ x a R).2) else (false,(qZ x a R).2))=qZ x a R
  by_cases h:(qZ x a R).1=true
  ·rw [au h];exact KQ h.symm rfl
  ·rw [ak h];exact KQ (by simpa using h) rfl
 | f :: pre,a,R,h=>by
  rw [sO,nC];rw [nC] at h ⊢
  by_cases h2:(qZ f a R).1=true
  ·rw [au h2] at h ⊢;rw [au h2,agR x pre 5 _ h]
   simp
  ·rw [ak h2] at h;cases h
theorem agQ: ∀ (pre r:List Nat) (a:Nat) (R:aU),(nC pre a R).1=false→nC (pre++r) a R=nC pre a R
 | [],r,a,R,h=>by cases h
 | f :: pre,r,a,R,h=>by
  rw [sO,nC,nC];rw [nC] at h
  by_cases h2:(qZ f a R).1=true
  ·rw [au h2] at h ⊢;rw [au h2,agQ pre r 5 _ h]
  ·rw [ak h2,ak h2]
theorem adE (f a:Nat) (R:aU):(qZ f a R).2.L=R.L:=by
 unfold qZ;split
 ·rw [WC,zn]
 ·exact zn _ _ _ _
theorem auv (f a:Nat) (R:aU):(qZ f a R).2.told.length=R.told.length:=by
 unfold qZ;split
 ·rw [agU,YL]
 ·exact YL _ _ _ _
theorem agO: ∀ (fs:List Nat) (a:Nat) (R:aU),(nC fs a R).2.L=R.L
 | [],_,R=>rfl
 | f :: fs,a,R=>by
  rw [nC];split
  ·rw [agO fs,adE]
  ·exact adE _ _ _
theorem adx (C:List aj) (first t:Nat) (hne:t≠first): ∀ (m k:Nat) (R:aU),R.L=C→jH first (nX C t m k) R=oN t m k R
 | 0,_,_,_=>rfl
 | m+1,k,R,h=>by
  rw [nX,oN,h]
  by_cases h0:num (cl C t) (2*k)=0
  ·rw [au h0,au h0,ql];exact adx C first t hne m (k+1) R h
  ·rw [ak h0,ak h0,UZ,jH];have e:qx R first ⟨t,k,nm C t k⟩=tell R (num (cl C t) (2*k)%32768) 3 t:=by unfold qx;rw [ak hne]
   rw [e]
   by_cases h2:(tell R (num (cl C t) (2*k)%32768) 3 t).1=true
   ·rw [au h2,au h2];exact adx C first t hne m (k+1) _ (by rw [zn];exact h)
   ·rw [ak h2,ak h2]
theorem akD {R:aU} {n kind at' f:Nat} (h:(tell R n kind at').1=true) (hk:kind≠1) (h1:R.told.getD f 0=1):n≠f∧(tell R n kind at').2.told.getD f 0=1:=by
 unfold tell at h ⊢
 split at h
 ·cases h
 ·rename_i h';rw [ak h'];have hne:n≠f:=by
   rintro rfl;apply h';unfold Dn;rw [h1]
   have:(1 != kind)=true:=by simp;omega
   simp [this]
  refine ⟨hne,?_⟩;show (R.told.set n kind).getD f 0=1;rw [aK,List.getElem?_set_ne hne,← aK];exact h1
theorem adz {t f:Nat}: ∀ (m k:Nat) (R:aU),(oN t m k R).1=true→R.told.getD f 0=1→(oN t m k R).2.told.getD f 0=1
 | 0,_,_,_,h1=>h1
 | m+1,k,R,h,h1=>by
  rw [oN] at h ⊢
  split at h
  ·rename_i h0;rw [au h0];exact adz m (k+1) R h h1
  ·split at h
   ·rename_i h0 ht;rw [ak h0,au ht];exact adz m (k+1) _ h (akD ht dc h1).2
   ·cases h
theorem adB (C:List aj) (t:Nat): ∀ (m i:Nat) (R:aU),R.L=C→R.told.getD t 0=1→jH t (jg C t m i) R=xk t m i R
 | 0,_,_,_,_=>rfl
 | m+1,i,R,h,h1=>by
  rw [jg,xk,h]
  by_cases h0:num (cl C t) (2*i)=0
  ·rw [au h0,au h0,ql];exact adB C t m (i+1) R h h1
  ·rw [ak h0,ak h0,sO,jH]
   by_cases hi:1<i
   ·have e:qx R t ⟨t,i,nm C t i⟩=(false,{ R with bad:=(t:Int) }):=by unfold qx;rw [au rfl,au (show 2≤i by omega)]
    rw [e,au hi,← h];rfl
   ·have e:qx R t ⟨t,i,nm C t i⟩=tell R (num (cl C t) (2*i)%32768) 2 t:=by unfold qx;rw [au rfl,ak (show ¬ 2≤i by omega)]
    rw [e,ak hi]
    by_cases h2:(tell R (num (cl C t) (2*i)%32768) 2 t).1=true
    ·obtain ⟨hne,h3⟩:=akD h2 dc h1;have hL:(tell R (num (cl C t) (2*i)%32768) 2 t).2.L=C:=by rw [zn];exact h
     rw [au h2,au h2,SS,adx C t _ hne 32 0 _ hL]
     by_cases h4:(oN (num (cl C t) (2*i)%32768) 32 0 (tell R (num (cl C t) (2*i)%32768) 2 t).2).1=true
     ·rw [au h4,au h4];exact adB C t m (i+1) _ (by rw [UN];exact hL) (adz 32 0 _ h4 h3)
     ·rw [ak h4,ak h4]
    ·rw [ak h2,ak h2]
theorem aug {R:aU} {n at':Nat} (h:(tell R n 1 at').1=true) (hn:n<R.told.length):(tell R n 1 at').2.told.getD n 0=1:=by
 unfold tell at h ⊢
 split at h
 ·cases h
 ·rename_i h';rw [ak h'];show (R.told.set n 1).getD n 0=1;rw [WE _ _ _ _ hn,au rfl]
theorem akM (R:aU) (r:bC) (hL:R.L.length≤R.told.length):qZ r.N r.At R=tree R r:=by
 unfold qZ tree
 by_cases h:(tell R r.N 1 r.At).1=true
 ·rw [au h,au h];exact adB R.L r.N 32 0 _ (zn _ _ _ _) (aug h (by have:=(Ji h).2;omega))
 ·rw [ak h,ak h]
theorem auA (R:aU) (r:bC):(tree R r).2.roots=R.roots:=by
 unfold tree;split
 ·have key: ∀ m i (R:aU),(xk r.N m i R).2.roots=R.roots:=by
   intro m
   induction m with
   | zero=>intro i R;rfl
   | succ m ih=>
    intro i R;rw [xk];split
    ·exact ih _ _
    ·split
     ·rfl
     ·split
      ·split
       ·rw [ih,YQ,MG]
       ·rw [YQ,MG]
      ·exact MG _ _ _ _
  rw [key,MG]
 ·exact MG _ _ _ _
theorem aoG (rs:List bC) (a:Nat): ∀ (m i:Nat) (R:aU),i+m=rs.length→R.roots=rs→R.L.length≤R.told.length→(∀ j,i≤j→j<rs.length→(rs.getD j ⟨0,0,[]⟩).At=if j=i then a else 5)→
  nC ((rs.drop i).map (·.N)) a R=AZ m i R:=by
 intro m
 induction m generalizing a with
 | zero=>intro i R h hr hl hat;rw [U8 om];rfl
 | succ m ih=>
  intro i R h hr hl hat;have hi:i<rs.length:=om;have hg:rs.getD i ⟨0,0,[]⟩=rs[i]:=by rw [aK,bI hi];rfl
  have hro:rootOf R i=rs[i]:=by unfold rootOf;rw [hr,hg]
  have ahf:=hat i (aP _) hi;rw [au rfl,hg] at ahf;rw [KO hi,jC,nC,AZ,hro];have e:=akM R rs[i] hl;rw [ahf] at e;rw [e]
  by_cases h2:(tree R rs[i]).1=true
  ·rw [au h2,au h2];refine ih 5 (i+1) _ om (by rw [auA];exact hr) ?_ (fun j h3 h4=> ?_)
   ·rw [← akM R rs[i] hl,adE,auv];exact hl
   ·rw [hat j om h4,ak om]
    split <;> rfl
  ·rw [ak h2,ak h2]
theorem Told.back {L:List aj} {rs:List bC} {b:Int} {base:Nat→Nat} {ts:wL} {R:aU} (h:Told L rs b base ts R) (ok:wK L ts) {n kind at':Nat} (hk:kind≠0) (ht:(tell R n kind at').1=true):wK L (ts++[(n,kind)]):=by
 obtain ⟨h6,hn⟩:=Ji ht;rw [h.hL] at hn;have hno:Dn R n kind=false:=by
  unfold tell at ht
  split at ht
  ·cases ht
  ·rename_i h';simpa using h'
 unfold Dn at hno;rw [Bj,Bj] at hno;have hno:=hno.2.2;have hkind: ∀ x ∈ ts,x.1=n→x.2=kind∧kind≠1:=by
  intro x hx e;have h1:=h.told x hx;have h2:=(ok.lo x hx).2.2;rw [e] at h1;rw [h1] at hno;have h3:(x.2 != 0)=true:=by simpa using h2
  rw [h3,tC,Bj] at hno;exact ⟨by simpa using hno.1,by simpa using hno.2⟩
 refine ⟨fun x hx=> ?_,fun x hx y hy e=> ?_,fun m=> ?_⟩
 ·rcases gq.1 hx with y | y
  ·exact ok.lo x y
  ·rw [jw.1 y];exact ⟨h6,hn,hk⟩
 ·rcases gq.1 hx with x1 | x1 <;> rcases gq.1 hy with y1 | y1
  ·exact ok.kind x x1 y y1 e
  ·rw [jw.1 y1] at e ⊢;exact (hkind x x1 e).1
  ·rw [jw.1 x1] at e ⊢;exact (hkind y y1 e.symm).1.symm
  ·rw [jw.1 x1,jw.1 y1]
 ·rw [Ik]
  by_cases e:(n,kind)=(m,1)
  ·rw [e];have e1:n=m:=by injection e
   have e2:kind=1:=by injection e
   have:ts.count (m,1)=0:=by
    rw [FU];intro hm;exact (hkind (m,1) hm e1.symm).2 e2
   rw [this];simp
  ·have:=ok.once m
   rw [List.count_singleton]
   have:((n,kind) == (m,1))=false:=by simpa using e
   rw [this];simpa using ok.once m
section
variable {L:List aj} {rs:List bC} {b:Int} {base:Nat→Nat}
theorem adw (jk:L.length≤256) (t:Nat): ∀ (m k:Nat) (ts:wL) (R:aU),Told L rs b base ts R→wK L ts→(oN t m k R).1=true→wK L (ts++tY L t m k)
 | 0,_,ts,R,_,ok,_=>by rw [tY,rU];exact ok
 | m+1,k,ts,R,h,ok,ht=>by
  rw [oN,h.hL] at ht;rw [tY]
  by_cases h0:num (cl L t) (2*k)=0
  ·rw [au h0] at ht ⊢;rw [ql];exact adw jk t m (k+1) ts R h ok ht
  ·rw [ak h0] at ht ⊢
   by_cases h2:(tell R (num (cl L t) (2*k)%32768) 3 t).1=true
   ·rw [au h2] at ht;have ok1:=h.back ok dc h2;obtain ⟨_,h3⟩:=h.step jk _ 3 t ok1;rw [← uG];exact adw jk t m (k+1) _ _ h3 ok1 ht
   ·rw [ak h2] at ht;cases ht
theorem adA (jk:L.length≤256) (t:Nat): ∀ (m i:Nat) (ts:wL) (R:aU),Told L rs b base ts R→wK L ts→(xk t m i R).1=true→
  wK L (ts++uq L t m i)∧(∀ j,i≤j→j<i+m→1<j→num (cl L t) (2*j)=0)∧Told L rs b base (ts++uq L t m i) (xk t m i R).2
 | 0,_,ts,R,h,ok,_=>by rw [uq,rU];exact ⟨ok,fun j h1 h2=>om,h⟩
 | m+1,i,ts,R,h,ok,ht=>by
  rw [xk,h.hL] at ht ⊢;rw [uq]
  by_cases h0:num (cl L t) (2*i)=0
  ·rw [au h0] at ht ⊢;rw [ql,au h0];obtain ⟨h1,h2,h3⟩:=adA jk t m (i+1) ts R h ok ht;refine ⟨h1,fun j j1 j2 j3=> ?_,h3⟩
   by_cases e:j=i
   ·rw [e];exact h0
   ·exact h2 j om om j3
  ·rw [ak h0] at ht ⊢;rw [ak h0]
   by_cases hi:1<i
   ·rw [au hi] at ht;cases ht
   ·rw [ak hi] at ht ⊢
    by_cases h2:(tell R (num (cl L t) (2*i)%32768) 2 t).1=true
    ·rw [au h2] at ht ⊢;have ok1:=h.back ok dc h2;obtain ⟨_,h3⟩:=h.step jk _ 2 t ok1
     by_cases h4:(oN (num (cl L t) (2*i)%32768) 32 0 (tell R (num (cl L t) (2*i)%32768) 2 t).2).1=true
     ·rw [au h4] at ht ⊢;have ok2:=adw jk _ 32 0 _ _ h3 ok1 h4;obtain ⟨_,h5⟩:=YR jk _ 32 0 _ _ h3 ok2;obtain ⟨h6,h7,h8⟩:=adA jk t m (i+1) _ _ h5 ok2 ht;have e:ts++((num (cl L t) (2*i)%32768,2) :: tY L (num (cl L t) (2*i)%32768) 32 0++uq L t m (i+1))=((ts++[(num (cl L t) (2*i)%32768,2)])++tY L (num (cl L t) (2*i)%32768) 32 0)++uq L t m (i+1):=sm;rw [e];exact ⟨h6,fun j j1 j2 j3=>h7 j om om j3,h8⟩
     ·rw [ak h4] at ht;cases ht
    ·rw [ak h2] at ht;cases ht
theorem auy (jk:L.length≤256) (r:bC) (ts:wL) (R:aU) (h:Told L rs b base ts R) (ok:wK L ts) (ht:(tree R r).1=true):
  wK L (ts++xq L r.N)∧(∀ j,1<j→j<32→num (cl L r.N) (2*j)=0)∧Told L rs b base (ts++xq L r.N) (tree R r).2:=by
 unfold tree at ht ⊢
 by_cases h1:(tell R r.N 1 r.At).1=true
 ·rw [au h1] at ht ⊢;have ok1:=h.back ok dc h1;obtain ⟨_,h3⟩:=h.step jk _ 1 r.At ok1;obtain ⟨h4,h5,h6⟩:=adA jk r.N 32 0 _ _ h3 ok1 ht;have e:ts++xq L r.N=(ts++[(r.N,1)])++uq L r.N 32 0:=by rw [xq];simp
  rw [e];exact ⟨h4,fun j j1 j2=>h5 j om om j1,h6⟩
 ·rw [ak h1] at ht;cases ht
theorem akO (jk:L.length≤256): ∀ (m i:Nat) (ts:wL) (R:aU),i+m≤rs.length→Told L rs b base ts R→wK L ts→(AZ m i R).1=true→
  wK L (ts++lM L rs m i)∧(∀ j,i≤j→j<i+m→ ∀ k,1<k→k<32→num (cl L (rs.getD j ⟨0,0,[]⟩).N) (2*k)=0)∧Told L rs b base (ts++lM L rs m i) (AZ m i R).2
 | 0,_,ts,R,_,h,ok,_=>by rw [lM,rU];exact ⟨ok,fun j h1 h2=>om,h⟩
 | m+1,i,ts,R,hm,h,ok,ht=>by
  have hr:rootOf R i=rs.getD i ⟨0,0,[]⟩:=by unfold rootOf;rw [h.hR]
  rw [AZ,hr] at ht ⊢
  by_cases h1:(tree R (rs.getD i ⟨0,0,[]⟩)).1=true
  ·rw [au h1] at ht ⊢;obtain ⟨h2,h3,h4⟩:=auy jk _ ts R h ok h1;obtain ⟨h5,h6,h7⟩:=akO jk m (i+1) _ _ om h4 h2 ht;rw [lM,← uG];refine ⟨h5,fun j j1 j2=> ?_,h7⟩
   by_cases e:j=i
   ·rw [e];exact h3
   ·exact h6 j om om
  ·rw [ak h1] at ht;cases ht
end
theorem acN {c:aj}: ∀ m i,uX c m i=true→ ∀ j,i≤j→j<i+m→aI c j=0
 | 0,_,_,j,h1,h2=>om
 | m+1,i,h,j,h1,h2=>by
  rw [uX] at h
  split at h
  ·rename_i h0
   by_cases e:j=i
   ·rw [e];exact h0
   ·exact acN m (i+1) h j om om
  ·cases h
theorem acf {c:aj} (i:Nat):num c i / 256=aI c i∧num c i%256=aI c (i+1):=by
 have h1:=tV c i;have h2:=tV c (i+1);unfold num;omega
def Tv (c:aj):Bool:=decide (fE (num c 4) (num c 6)=c)
theorem abn {c:aj} (hc:c.length=64):Tv c=(decide (c.take 4=yR) && uX c 56 8):=by
 have l4:=iD c 4;have l6:=iD c 6;unfold Tv;rw [Vk,CO,vU,CO];constructor
 ·intro h;constructor
  ·have:=aho (a:=num c 4) (b:=num c 6)
   rw [h] at this;exact this
  ·have:=ahm l4 l6
   rw [h] at this;exact this
 ·rintro ⟨h1,h2⟩;have hl:(fE (num c 4) (num c 6)).length=64:=II _ _;refine aar (by rw [hl,hc]) fun m hm=> ?_;rw [hl] at hm;rw [PI l4 l6];have d4:=acf (c:=c) 4;have d6:=acf (c:=c) 6
  by_cases e6:m=6
  ·rw [au e6,e6];exact d6.1
  rw [ak e6]
  by_cases e7:m=7
  ·rw [au e7,e7];exact d6.2
  rw [ak e7]
  by_cases e4:m=4
  ·rw [au e4,e4];exact d4.1
  rw [ak e4]
  by_cases e5:m=5
  ·rw [au e5,e5];exact d4.2
  rw [ak e5]
  by_cases h8:8≤m
  ·rw [acN 56 8 h2 m h8 om];exact ahk ⟨m,hm⟩ h8
  ·have h3:aI c m=aI (c.take 4) m:=by
    unfold aI;rw [aK,aK,Rj om]
   rw [h3,h1];unfold aI abm;rw [aK,aK,oJ (by simp [yR];omega)]
theorem ab5 (c:aj) (a:Nat): ∀ m i over acc s,y9 c a m i over acc=some s→
  ∃ r,s=acc++r∧(over=true→r=[])∧r.length≤m∧(∀ b ∈ r,b≠0)∧ ∀ j,j<m→c.getD (a+(i+j)) 0=r.getD j 0
 | 0,i,over,acc,s,h=>by
  rw [y9] at h;injection h with h;exact ⟨[],by simp [h],fun _=>rfl,aP _,sm,fun j hj=>om⟩
 | m+1,i,over,acc,s,h=>by
  rw [y9] at h
  by_cases h0:aI c (a+i)=0
  ·rw [au h0] at h;obtain ⟨r,h1,h2,h3,h4,h5⟩:=ab5 c a m (i+1) true acc s h;have h6:=h2 rfl;subst h6;refine ⟨[],h1,fun _=>rfl,nN _,sm,fun j hj=> ?_⟩;cases j with
   | zero=>
    unfold aI at h0;rw [jL];exact OW.1 (by simpa using h0)
   | succ j=>
    have:=h5 j om
    rw [show a+(i+1+j)=a+(i+(j+1)) by omega] at this;rw [this];rfl
  ·rw [ak h0] at h;cases over with
   | true=>rw [au rfl] at h;cases h
   | false=>
    rw [ak dc] at h;obtain ⟨r,h1,h2,h3,h4,h5⟩:=ab5 c a m (i+1) false _ s h;refine ⟨c.getD (a+i) 0 :: r,by rw [h1];simp,fun e=>(by cases e),by simp;omega,fun b hb=> ?_,fun j hj=> ?_⟩
    ·rcases dD.1 hb with rfl | hb
     ·intro e;apply h0;unfold aI;rw [e];rfl
     ·exact h4 b hb
    ·cases j with
     | zero=>rw [jL];rfl
     | succ j=>
      have:=h5 j om
      rw [show a+(i+1+j)=a+(i+(j+1)) by omega] at this;rw [this];rfl
theorem aqr {c:aj} {a:Nat} (h:(nameOf c a).2=true):oC (nameOf c a).1=true∧ ∀ j,j<12→c.getD (a+j) 0=(nameOf c a).1.getD j 0:=by
 unfold nameOf at h ⊢;cases hn:y9 c a 12 0 false [] with
 | none=>rw [hn] at h;cases h
 | some s=>
  rw [hn] at h;obtain ⟨r,h1,_,_,_,h5⟩:=ab5 c a 12 0 false [] s hn;rw [ql] at h1;subst h1;refine ⟨h,fun j hj=> ?_⟩
  have:=h5 j hj
  rw [qR] at this;exact this
theorem aiR {Q:List bC} {s:List UInt8}: ∀ m k,Cb Q s m k=false→ ∀ j,k≤j→j<k+m→(Q.getD j ⟨0,0,[]⟩).name≠s
 | 0,_,_,j,h1,h2=>om
 | m+1,k,h,j,h1,h2=>by
  rw [Cb] at h
  split at h
  ·cases h
  ·rename_i h0
   by_cases e:j=k
   ·rw [e];exact h0
   ·exact aiR m (k+1) h j om om
theorem aok {c:aj} {i:Nat} {s:List UInt8} (hs:s.length≤12) (h1: ∀ j,j<12→c.getD (16*i+2+j) 0=s.getD j 0) (h14:aI c (16*i+14)=0) (h15:aI c (16*i+15)=0): ∀ j,j<16→aI c (16*i+j)=aI (yZ ⟨s,num c (16*i)⟩) j:=by
 intro j hj;have d:=acf (c:=c) (16*i);rw [aap _ (iD _ _)]
 by_cases e0:j=0
 ·rw [au e0,e0];exact d.1.symm
 rw [ak e0]
 by_cases e1:j=1
 ·rw [au e1,e1];exact d.2.symm
 rw [ak e1]
 by_cases e2:j<14
 ·have:=h1 (j - 2) om
  rw [show 16*i+2+(j - 2)=16*i+j by omega] at this;unfold aI;rw [this]
 ·have e3:aI s (j - 2)=0:=by
   unfold aI;rw [aK,eu om];rfl
  show aI c (16*i+j)=aI s (j - 2);rw [e3]
  have:j=14∨j=15:=om
  rcases this with rfl | rfl
  ·exact h14
  ·exact h15
theorem ana (j:Nat):aI (yZ ze) j=0:=by
 rw [aap _ dc]
 by_cases e0:j=0
 ·rw [au e0];rfl
 rw [ak e0]
 by_cases e1:j=1
 ·rw [au e1];rfl
 rw [ak e1];rfl
theorem abG (c:aj) (r0:bC): ∀ m i over (E0:List aX) Q',i+m=4→(over=false→E0.length=i)→E0.length≤i→iL E0→(∀ k,k<i→ ∀ j,j<16→aI c (16*k+j)=aI (yZ (E0.getD k ze)) j)→
  qJ c m i over (r0 :: E0.map kV)=(true,Q')→ ∃ E,iL E∧Q'=r0 :: E.map kV∧ ∀ k,k<4→ ∀ j,j<16→aI c (16*k+j)=aI (yZ (E.getD k ze)) j
 | 0,i,over,E0,Q',him,_,_,hE,hb,h=>by
  rw [qJ] at h;injection h with _ h;exact ⟨E0,hE,h.symm,fun k hk=>hb k om⟩
 | m+1,i,over,E0,Q',him,hov,hle,hE,hb,h=>by
  rw [qJ] at h
  by_cases h0:num c (16*i)=0
  ·rw [au h0] at h
   by_cases hz:uX c 16 (16*i)=true
   ·rw [au hz] at h;refine abG c r0 m (i+1) true E0 Q' om (fun e=>by cases e) om hE (fun k hk j hj=> ?_) h
    by_cases e:k=i
    ·subst e;rw [acN 16 (16*k) hz (16*k+j) om om,aK,eu hle];exact (ana j).symm
    ·exact hb k om j hj
   ·rw [ak hz] at h;cases h
  ·rw [ak h0] at h
   by_cases hbad:LD c i over=true
   ·rw [au hbad] at h;cases h
   ·rw [ak hbad] at h;have hbad:LD c i over=false:=by simpa using hbad
    unfold LD at hbad;rw [Bj,Bj,Bj] at hbad;obtain ⟨ho,hn,h14,h15⟩:=hbad;have hn:(nameOf c (16*i+2)).2=true:=by simpa using hn
    obtain ⟨n1,n2⟩:=aqr hn;have hl:=hov ho
    by_cases hin:Cb (r0 :: E0.map kV) (nameOf c (16*i+2)).1 ((r0 :: E0.map kV).length - 1) 1=true
    ·rw [au hin] at h;cases h
    ·rw [ak hin] at h;have hin:Cb (r0 :: E0.map kV) (nameOf c (16*i+2)).1 ((r0 :: E0.map kV).length - 1) 1=false:=by simpa using hin
     have hnew:=aiR _ _ hin;generalize nameOf c (16*i+2)=nn at*;have e:(r0 :: E0.map kV)++[⟨num c (16*i),5,nn.1⟩]=r0 :: (E0++[(⟨nn.1,num c (16*i)⟩:aX)]).map kV:=by simp [kV]
     rw [e] at h;refine abG c r0 m (i+1) over _ Q' om (fun _=>by simp;omega) (by simp;omega) ⟨by simp;omega,?_,?_⟩ ?_ h
     ·intro x hx;rcases gq.1 hx with y | y
      ·exact hE.all x y
      ·rw [jw.1 y];exact ⟨n1,h0,iD _ _⟩
     ·rw [rE,ad4];refine ⟨hE.nodup,sm,fun a ha b hb'=> ?_⟩;simp only [jC,KN,jw] at hb';rw [hb'];obtain ⟨x,hx,rfl⟩:=gQ.1 ha;obtain ⟨q,hq,hqe⟩:=Rn hx
      have:=hnew (q+1) om (by simp;omega)
      rw [Jt,aK,jD,bI hq] at this;rw [← hqe];exact this
     ·intro k hk j hj
      by_cases e:k=i
      ·subst e;rw [aK,nP om,show k - E0.length=0 by omega];exact aok (ab6 n1).2 n2 (by simpa using h14) (by simpa using h15) j hj
      ·rw [aK,oJ om,← aK];exact hb k om j hj
theorem iL.nil:iL []:=⟨sm,sm,sm⟩
theorem iL.ane {c:aj} {E:List aX} (h:iL E) (hc:c.length=64) (hb: ∀ k,k<4→ ∀ j,j<16→aI c (16*k+j)=aI (yZ (E.getD k ze)) j):c=nG E:=by
 refine aar (by rw [h.length,hc]) fun i hi=> ?_;have h1:=hb (i / 16) om (i%16) om;rw [show 16*(i / 16)+i%16=i by omega] at h1;have h2:=h.get (i / 16) om (i%16) om;rw [show 16*(i / 16)+i%16=i by omega] at h2;rw [h1];unfold aI;rw [h2]
 by_cases hk:i / 16<E.length
 ·rw [Dq _ hk]
 ·rw [Qz _ om,aK (l:=E),eu om];rfl
theorem apX {c:aj} (hc:c.length=64) {r0:bC} (h:(qJ c 4 0 false [r0]).1=true): ∃ E,iL E∧c=nG E∧(qJ c 4 0 false [r0]).2=r0 :: E.map kV:=by
 obtain ⟨E,h1,h2,h3⟩:=abG c r0 4 0 false [] (qJ c 4 0 false [r0]).2 rfl (fun _=>rfl) (aP _) iL.nil (fun k hk=>om) (KQ h rfl);exact ⟨E,h1,h1.ane hc h3,h2⟩
theorem agy (E:List aX) (s:ByteArray) (i:Nat): ∀ m k,xI E s m k=(i:Int)→k≤i∧i<k+m∧bJ (E.getD i ze).name=s∧ ∀ j,k≤j→j<i→bJ (E.getD j ze).name≠s
 | 0,k,h=>by rw [xI] at h;omega
 | m+1,k,h=>by
  rw [xI] at h
  split at h
  ·rename_i h0
   have:k=i:=om
   subst this;exact ⟨aP _,om,h0,fun j h1 h2=>om⟩
  ·rename_i h0;obtain ⟨h1,h2,h3,h4⟩:=agy E s i m (k+1) h;refine ⟨om,om,h3,fun j h5 h6=> ?_⟩
   by_cases e:j=k
   ·rw [e];exact h0
   ·exact h4 j om h6
theorem agx (E:List aX) (s:ByteArray) (i:Nat) (h:bJ (E.getD i ze).name=s): ∀ m k,k≤i→i<k+m→(∀ j,k≤j→j<i→bJ (E.getD j ze).name≠s)→xI E s m k=(i:Int)
 | 0,k,h1,h2,_=>om
 | m+1,k,h1,h2,h3=>by
  rw [xI]
  by_cases e:k=i
  ·subst e;rw [au h]
  ·rw [ak (h3 k om om)];exact agx E s i h m (k+1) om om (fun j h4 h5=>h3 j om h5)
theorem ah0 (E:List aX): ∀ m k,∀ j,k≤j→j<BQ E m k→(E.getD j ze).first≠0
 | 0,k,j,h1,h2=>by rw [BQ] at h2;omega
 | m+1,k,j,h1,h2=>by
  rw [BQ] at h2
  split at h2
  ·omega
  ·rename_i h0
   by_cases e:j=k
   ·rw [e];exact h0
   ·exact ah0 E m (k+1) j om h2
theorem ah8 {c:aj} (hc:c.length=64):wW c=true↔ ∃ E,iL E∧c=nG E:=by
 constructor
 ·intro h;unfold wW at h;rw [vU,vU,CO,Ll,Ll] at h;obtain ⟨h1,h2,h3⟩:=h;have hel:=Df c;have h4:=zU (aY c);have hlt: ∀ k,((aY c).getD k ze).first<65536:=by
   intro k;rw [aK]
   by_cases hk:k<4
   ·unfold aY;rw [jD,x9 hk];exact iD _ _
   ·rw [eu om];decide
  have hpos:=ah0 (aY c) 4 0;change ∀ j,0≤j→j<lenOf (aY c)→_ at hpos;generalize aY c=E at*;generalize hn:lenOf E=n at*;have hE:E=jm (E.take n):=by
   unfold jm;rw [List.length_take_of_le om];apply uH;intro j
   by_cases hj:j<n
   ·rw [oJ (by simp;omega),Rj hj]
   ·rw [nP (by simp;omega),List.length_take_of_le om,qU]
    by_cases hj4:j<4
    ·rw [au om,bI om]
     have:=h3 j om om
     unfold JQ at this;rw [aK,bI om] at this;simp only [KR,vU,CO] at this;have e1:=akR this.1
     congr 1
     have e2:=this.2;show E[j]=ze;generalize E[j]=p at*;cases p;simp only at e1 e2;subst e1 e2;rfl
    ·rw [ak om,eu om]
  have hok:iL (E.take n):=by
   have hget: ∀ j (hj:j<(E.take n).length),(E.take n)[j]=E.getD j ze:=by
    intro j hj;rw [List.getElem_take,aK,bI];rfl
   refine ⟨by simp;omega,fun e he=> ?_,?_⟩
   ·obtain ⟨j,hj,rfl⟩:=Rn he;rw [hget j hj];have hjn:j<n:=by simp at hj;omega
    have:=h2 j om om
    unfold Gv at this;rw [vU] at this;exact ⟨this.1,hpos j om hjn,hlt j⟩
   ·rw [adU,adV,adW];intro i j hi hj hij e;rw [hget i hi,hget j hj] at e;have hjn:j<n:=by simp at hj;omega
    have:=h2 j om om
    unfold Gv at this;rw [vU,CO] at this;exact (agy E _ j _ _ this.2).2.2.2 i om hij (by rw [e])
  refine ⟨E.take n,hok,?_⟩;rw [← hok.VT,← hE];exact h1.symm
 ·rintro ⟨E,hE,rfl⟩;unfold wW;rw [hE.aY,hE.VT,hE.lenOf,eH rfl,tC,vU,Ll,Ll];have hl:=hE.len;refine ⟨fun j _ hj=> ?_,fun j hj _=> ?_⟩
  ·rw [qR] at hj;have hg: ∀ i,i<E.length→(jm E).getD i ze=E.getD i ze:=fun i hi=>Dq i hi;have hm:E.getD j ze ∈ E:=by
    rw [aK,bI hj];exact oP hj
   unfold Gv;rw [vU,CO,hg j hj];refine ⟨(hE.all _ hm).name,?_⟩;unfold rZ;rw [hE.lenOf];refine agx _ _ j (by rw [hg j hj]) _ _ (nN _) om (fun i _ hij e=> ?_);rw [hg i om] at e;have hnd:=hE.nodup;rw [adU,adV,adW] at hnd;refine hnd i j om hj hij ?_
   have:=akR e
   rw [aK,aK,bI hj,bI om] at this;exact this
  ·unfold JQ;rw [Qz j hj];rfl
theorem apY {c:aj} (hc:c.length=64) (r0:bC):wW c=(qJ c 4 0 false [r0]).1:=by
 rw [Vk,ah8 hc];constructor
 ·rintro ⟨E,hE,rfl⟩
  have:=hE.qJ r0 4 0 rfl (nN _)
  rw [List.take_zero,KN] at this;rw [this]
 ·intro h;obtain ⟨E,h1,h2,_⟩:=apX hc h;exact ⟨E,h1,h2⟩
end Go.Proofs.YtknjjjenklfeoaaGreatDoor
