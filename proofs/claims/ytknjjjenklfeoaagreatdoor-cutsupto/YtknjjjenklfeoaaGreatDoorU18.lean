import Derived.Test.YtknjjjenklfeoaaGreatDoorU17
set_option maxHeartbeats 8000000
set_option maxRecDepth 100000
set_option linter.all false
namespace Go.Proofs.YtknjjjenklfeoaaGreatDoor
open Go.RowKit
def apJ (w:World):Calls Tryz.prog 159 #[.slice none 0 0] w fun e a=>e= .returned (.slice none 0 0)∧a=w:=by
 have b:=run_eql_slice_nil (P:=Tryz.prog) w 58 104 none 0 0 Tryz.underlying58
 go_enter Tryz.func159,Tryz.ntmps159
 go_wp2;go_ret;exact ⟨rfl,rfl⟩
def apK (w:World) (g cap:Nat):Calls Tryz.prog 159 #[.slice (some ⟨g,0,none⟩) 0 cap] w fun e a=> ∃ v,e= .returned v∧a.ownsRow w.heap.size 104 65 v 0 []∧aC w a:=by
 have b:=run_eql_slice_nil (P:=Tryz.prog) w 58 104 (some ⟨g,0,none⟩) 0 cap Tryz.underlying58
 go_enter Tryz.func159,Tryz.ntmps159
 go_wp2;go_ret;exact ⟨_,rfl,aeo w _ _ _ (aO _),fC⟩
def apH (w:World) (Lv:Value) (L:List fZ) (hL: ∀ x ∈ L,x.data.length=64) (hr:w.ownsRow 0 104 65 Lv L.length (jg L)) (b:L.length≤1000000000):
  Calls Tryz.prog 159 #[Lv] w fun e a=> ∃ v,e= .returned v∧a.ownsRow w.heap.size 104 65 v L.length (jg L)∧aC w a:=by
 by_cases h0:0<L.length
 ·obtain ⟨g,cap,rfl,_⟩:=gy hr h0;exact apI w g cap L hL hr h0 b
 ·have c:L=[]:=aaw om;subst c;rcases hr.2 with ⟨rfl,_⟩ | ⟨g,cap,cur,rfl,_⟩
  ·refine (apJ w).mono ?_;rintro e a ⟨rfl,rfl⟩;exact ⟨_,rfl,wH _ _ _ _,bG _ _⟩
  ·exact apK w g cap
def awf (w:World) (v:Nat) (Cv Lv:Value) (V:aB) (h:aP w v Cv Lv V) (c:V.L.length≤1000000000):
  Calls Tryz.prog 102 #[.pointer (some ⟨v,0,none⟩)] w fun e b=> ∃ x,e= .returned x∧b.ownsRow w.heap.size 104 65 x V.L.length (jg V.L)∧aC w b:=by
 have c1:=h.c1;obtain ⟨a,cap,d⟩:=gQ h.fJ;have f:=ah (apH w Lv V.L h.zZ h.fJ c);subst d
 go_enter Tryz.func102,Tryz.ntmps102
 go_wp2_with fail
 refine f.mono ?_;rintro e i ⟨x,rfl,hr,g⟩;go_wp2;go_ret;exact ⟨x,rfl,hr,g⟩
def axd (w:World) (v:Nat) (Cv Lv:Value) (V:aB) (h:aP w v Cv Lv V) (b:V.L.length≤1000000000):
  Calls Tryz.prog 53 #[.pointer (some ⟨v,0,none⟩)] w fun e a=> ∃ x,e= .returned x∧a.ownsRow w.heap.size 104 65 x V.L.length (jg V.L)∧aC w a:=by
 have c:=ah (awf w v Cv Lv V h b)
 go_enter Tryz.func53,Tryz.ntmps53
 go_wp2_with fail
 refine c.mono ?_;rintro e f ⟨x,rfl,hr,d⟩;go_wp2;go_ret;exact ⟨x,rfl,hr,d⟩
def XO (w:World) (d v:Nat) (Cv Lv:Value) (V:aB) (h:pK w d v Cv Lv V) (b:V.L.length≤1000000000):
  Calls Tryz.prog 24 #[.pointer (some ⟨d,0,none⟩)] w fun e a=> ∃ x,e= .returned x∧a.ownsRow w.heap.size 104 65 x V.L.length (jg V.L)∧aC w a:=by
 have c0:=h.c0;have c:=ah (I4 w d v Cv Lv V h);have f:=ah (axd w v Cv Lv V h.bH b)
 go_enter Tryz.func24,Tryz.ntmps24
 go_wp2_with fail
 refine c.mono ?_;rintro e g ⟨rfl,rfl⟩
 go_wp2_with fail
 refine f.mono ?_;rintro e g ⟨x,rfl,hr,i⟩;go_wp2;go_ret;exact ⟨x,rfl,hr,i⟩
section
abbrev nm (L:List aj) (t k:Nat):Nat:=num (cl L t) (2*k)
def iT (x n:Nat):Nat:=if x≠0∧x%32768=n then 1 else 0
def tC (f:Nat→Nat):Nat→Nat→Nat
 | 0,_=>0
 | m+1,k=>f k+tC f m (k+1)
def aeR {f g:Nat→Nat}: ∀ m k,(∀ j,k≤j→j<k+m→f j=g j)→tC f m k=tC g m k
 | 0,_,_=>rfl
 | m+1,k,h=>by rw [tC,tC,h k om om,aeR m (k+1) (fun j a b=>h j om om)]
def aeS {f g:Nat→Nat} {a:Nat}: ∀ m k,k≤a→a<k+m→(∀ j,k≤j→j<k+m→j≠a→f j=g j)→tC f m k+g a=tC g m k+f a
 | 0,_,b,c,_=>om
 | m+1,k,b,c,h=>by
  rw [tC,tC]
  by_cases e:k=a
  ·subst e;rw [aeR m (k+1) (fun j d i=>h j om om om)];omega
  ·have:=aeS m (k+1) om om (fun j d i l=>h j om om l)
   have:=h k om om e
   omega
def ZW {f:Nat→Nat} {a:Nat}: ∀ m k,k≤a→a<k+m→f a≤tC f m k
 | 0,_,b,c=>om
 | m+1,k,b,c=>by
  rw [tC]
  by_cases e:k=a
  ·subst e;omega
  ·have:=ZW (f:=f) m (k+1) (a:=a) om om;omega
def aeT {f:Nat→Nat} {a b:Nat} (c:a<b): ∀ m k,k≤a→b<k+m→f a+f b≤tC f m k
 | 0,_,d,g=>om
 | m+1,k,d,g=>by
  rw [tC]
  by_cases e:k=a
  ·subst e
   have:=ZW (f:=f) m (k+1) (a:=b) om om;omega
  ·have:=aeT (f:=f) c m (k+1) om om;omega
def amw {f:Nat→Nat}: ∀ m k,(∀ j,k≤j→j<k+m→f j=0)→tC f m k=0
 | 0,_,_=>rfl
 | m+1,k,h=>by rw [tC,h k om om,amw m (k+1) (fun j a b=>h j om om)]
def IL {x n:Nat} (h0:x≠0) (h:x%32768=n):iT x n=1:=by unfold iT;rw [au ⟨h0,h⟩]
def UW (n:Nat):iT 0 n=0:=by unfold iT;rw [ak sm]
def lQ (x y:Nat):Prop:=(x=0↔y=0)∧x%32768=y%32768
def lQ.iT {x y:Nat} (h:lQ x y) (n:Nat):iT x n=iT y n:=by
 unfold Go.Proofs.YtknjjjenklfeoaaGreatDoor.iT
 by_cases e:x≠0∧x%32768=n
 ·rw [au e,au ⟨fun z=>e.1 (h.1.2 z),by rw [← h.2];exact e.2⟩]
 ·rw [ak e,ak (fun z=>e ⟨fun a=>z.1 (h.1.1 a),by rw [h.2];exact z.2⟩)]
def lQ.refl (x:Nat):lQ x x:=⟨Iff.rfl,rfl⟩
def zC (L:List aj) (s n:Nat):Nat:=tC (fun k=>iT (nm L s k) n) 32 0
def oh (L:List aj) (t j n:Nat):Nat:=if nm L t j=0 then 0 else iT (nm L t j) n+zC L (nm L t j%32768) n
def lH (L:List aj) (t n:Nat):Nat:=(if t=n then 1 else 0)+(oh L t 0 n+oh L t 1 n)
def dN (L:List aj) (rs:List bI) (n:Nat):Nat:=(rs.map fun r=>lH L r.N n).sum
def akX (n:Nat):AX [] n=0:=rfl
def adT (x:Nat × Nat) (a:xu) (n:Nat):AX (x :: a) n=(if x.1=n then 1 else 0)+AX a n:=by
 unfold AX;rw [jU,EH,Ci]
 simp
def akW (L:List aj) (t n:Nat): ∀ m k,AX (uF L t m k) n=tC (fun k=>iT (nm L t k) n) m k
 | 0,_=>rfl
 | m+1,k=>by
  rw [uF,tC,adS,akW L t n m (k+1)]
  congr 1
  by_cases h:num (cl L t) (2*k)=0
  ·rw [au h,akX];unfold nm;rw [h,UW]
  ·rw [ak h,adT,akX,jW];unfold iT
   by_cases e:num (cl L t) (2*k)%32768=n
   ·rw [au e,au ⟨h,e⟩]
   ·rw [ak e,ak (fun x=>e x.2)]
def akY (L:List aj) (t j n:Nat):AX (JR L t j) n=oh L t j n:=by
 unfold JR oh
 by_cases h:num (cl L t) (2*j)=0
 ·rw [au h,au h];rfl
 ·rw [ak h,ak h,adT,akW];unfold zC iT nm
  by_cases e:num (cl L t) (2*j)%32768=n
  ·rw [au e,au ⟨h,e⟩]
  ·rw [ak e,ak (fun x=>e x.2)]
def ak7 (L:List aj) (t:Nat): ∀ m i,(∀ j,i≤j→j<i+m→num (cl L t) (2*j)=0)→uS L t m i=[]
 | 0,_,_=>rfl
 | m+1,i,h=>by rw [uS,au (h i om om),ak7 L t m (i+1) (fun j a b=>h j om om)];rfl
def Wj {L:List aj} {t:Nat} (a: ∀ i,1<i→i<32→num (cl L t) (2*i)=0):xX L t=(t,1) :: (JR L t 0++JR L t 1):=by
 rw [xX,atO,ak7 L t 30 2 (fun j b c=>a j om om),sN]
def atq {L:List aj} {t:Nat} (a: ∀ i,1<i→i<32→num (cl L t) (2*i)=0) (n:Nat):AX (xX L t) n=lH L t n:=by
 rw [Wj a,adT,adS,akY,akY];rfl
def agF (L:List aj) (rs:List bI): ∀ m i,i+m=rs.length→l7 L rs m i=(rs.drop i).flatMap fun r=>xX L r.N
 | 0,i,h=>by rw [WC om];rfl
 | m+1,i,h=>by
  rw [l7,agF L rs m (i+1) om];have hi:i<rs.length:=om;rw [LU hi,qx,aN,bJ hi];rfl
def Xn (L:List aj) (rs:List bI):l7 L rs rs.length 0=rs.flatMap fun r=>xX L r.N:=by
 rw [agF L rs rs.length 0 om,WE]
def akV (L:List aj) (n:Nat): ∀ rs:List bI,(∀ r ∈ rs,∀ i,1<i→i<32→num (cl L r.N) (2*i)=0)→AX (rs.flatMap fun r=>xX L r.N) n=dN L rs n
 | [],_=>rfl
 | r :: rs,a=>by
  rw [qx,adS,akV L n rs (fun x b=>a x (by simp [b])),atq (a r sm)];simp [dN]
def Pn {L:List aj} {rs:List bI} (a: ∀ r ∈ rs,∀ i,1<i→i<32→num (cl L r.N) (2*i)=0) (n:Nat):AX (l7 L rs rs.length 0) n=dN L rs n:=by
 rw [Xn,akV L n rs a]
def nX (rs:List bI) (t:Nat):Prop:= ∃ r ∈ rs,r.N=t
def fD (L:List aj) (rs:List bI) (s:Nat):Prop:= ∃ r ∈ rs,∃ j,j<2∧nm L r.N j≠0∧nm L r.N j%32768=s
def oU (L:List aj) (rs:List bI) (n:Nat):Prop:= ∃ s,fD L rs s∧ ∃ k,k<32∧nm L s k≠0∧nm L s k%32768=n
structure dH (L:List aj) (rs:List bI):Prop where
 len:L.length≤256
 qp:6≤L.length
 fst: ∀ r ∈ rs,6≤r.N∧r.N<L.length
 nodup:(rs.map (·.N)).Nodup
 zero: ∀ r ∈ rs,∀ i,1<i→i<32→nm L r.N i=0
 sec: ∀ s,fD L rs s→6≤s∧s<L.length
 aG: ∀ n,oU L rs n→6≤n∧n<L.length
 fs: ∀ t,nX rs t→ ¬ fD L rs t
 fb: ∀ t,nX rs t→ ¬ oU L rs t
 sb: ∀ t,fD L rs t→ ¬ oU L rs t
 jI: ∀ n,n<256→gZ n+dN L rs n≤aQ L n
 top: ∀ n,n<256→aQ L n<255
 none: ∀ n,n<256→L.length≤n→aQ L n=0
 Dl: ∀ r ∈ rs,∀ j,j<2→32768≤nm L r.N j→aQ L (nm L r.N j%32768)=1
 BI: ∀ s,fD L rs s→ ∀ k,k<32→32768≤nm L s k→aQ L (nm L s k%32768)=1
structure wJ (L:List aj) (rs:List bI):Prop where
 eq: ∀ n,n<256→aQ L n=gZ n+dN L rs n
 Vk: ∀ r ∈ rs,∀ j,j<2→nm L r.N j≠0→aQ L (nm L r.N j%32768)=1→32768≤nm L r.N j
 Vl: ∀ s,fD L rs s→ ∀ k,k<32→nm L s k≠0→aQ L (nm L s k%32768)=1→32768≤nm L s k
def akv (L:List aj) (t:Nat) (x:Nat × Nat): ∀ m k,x ∈ uF L t m k↔ ∃ j,k≤j∧j<k+m∧nm L t j≠0∧x=(nm L t j%32768,3)
 | 0,k=>by
  rw [uF];exact ⟨fun h=>by simp at h,fun ⟨j,b,c,_⟩=>om⟩
 | m+1,k=>by
  rw [uF,fK,akv L t x m (k+1)];constructor
  ·rintro (h | ⟨j,b,c,a⟩)
   ·split at h
    ·simp at h
    ·rename_i h0;exact ⟨k,om,om,h0,by simpa using h⟩
   ·exact ⟨j,om,om,a⟩
  ·rintro ⟨j,b,c,a,d⟩
   by_cases e:j=k
   ·subst e;left;rw [ak a];simpa using d
   ·right;exact ⟨j,om,om,a,d⟩
def Vx (L:List aj) (t j:Nat) (x:Nat × Nat):x ∈ JR L t j↔nm L t j≠0∧(x=(nm L t j%32768,2)∨ ∃ k,k<32∧nm L (nm L t j%32768) k≠0∧x=(nm L (nm L t j%32768) k%32768,3)):=by
 unfold JR
 by_cases h:num (cl L t) (2*j)=0
 ·rw [au h];exact ⟨fun h=>by simp at h,fun z=>absurd h z.1⟩
 ·rw [ak h,cO,akv];constructor
  ·rintro (e | ⟨k,_,c,a,b⟩)
   ·exact ⟨h,aA e⟩
   ·exact ⟨h,ay ⟨k,om,a,b⟩⟩
  ·rintro ⟨_,e | ⟨k,c,a,b⟩⟩
   ·exact aA e
   ·exact ay ⟨k,om,om,a,b⟩
section
variable {L:List aj} {rs:List bI}
def BJ (c: ∀ r ∈ rs,∀ i,1<i→i<32→nm L r.N i=0) (x:Nat × Nat):
  x ∈ l7 L rs rs.length 0↔(x.2=1∧nX rs x.1)∨(x.2=2∧fD L rs x.1)∨(x.2=3∧oU L rs x.1):=by
 rw [Xn,zT];constructor
 ·rintro ⟨r,hr,d⟩;rw [Wj (c r hr),cO,fK,Vx,Vx] at d;rcases d with rfl | ⟨h0,rfl | ⟨k,hk,a,rfl⟩⟩ | ⟨h0,rfl | ⟨k,hk,a,rfl⟩⟩
  ·exact aA ⟨rfl,r,hr,rfl⟩
  ·exact ay (aA ⟨rfl,r,hr,0,om,h0,rfl⟩)
  ·exact ay (ay ⟨rfl,_,⟨r,hr,0,om,h0,rfl⟩,k,hk,a,rfl⟩)
  ·exact ay (aA ⟨rfl,r,hr,1,om,h0,rfl⟩)
  ·exact ay (ay ⟨rfl,_,⟨r,hr,1,om,h0,rfl⟩,k,hk,a,rfl⟩)
 ·have key: ∀ r ∈ rs,∀ j,j<2→ ∀ y,y ∈ JR L r.N j→y ∈ xX L r.N:=by
   intro r hr j hj y f;rw [Wj (c r hr),cO,fK]
   have:j=0∨j=1:=om
   rcases this with rfl | rfl
   ·exact ay (aA f)
   ·exact ay (ay f)
  rintro (⟨b,r,hr,e⟩ | ⟨b,r,hr,j,hj,h0,e⟩ | ⟨b,s,⟨r,hr,j,hj,h0,e⟩,k,hk,a,g⟩)
  ·refine ⟨r,hr,?_⟩;rw [Wj (c r hr),cO];exact aA (LY e.symm b)
  ·exact ⟨r,hr,key r hr j hj x ((Vx _ _ _ _).2 ⟨h0,aA (LY e.symm b)⟩)⟩
  ·subst e;exact ⟨r,hr,key r hr j hj x ((Vx _ _ _ _).2 ⟨h0,ay ⟨k,hk,a,LY g.symm b⟩⟩)⟩
def ap3 {t:Nat} (a: ∀ i,1<i→i<32→nm L t i=0) (n:Nat):(xX L t).count (n,1)=if t=n then 1 else 0:=by
 have key: ∀ j,(JR L t j).count (n,1)=0:=by
  intro j;rw [H8];intro h;obtain ⟨_,e | ⟨k,_,_,e⟩⟩:=(Vx L t j _).1 h <;> simp at e
 rw [Wj a,EH,Jj,key,key]
 by_cases e:t=n <;> simp [e]
def ab8 (n:Nat): ∀ rs:List bI,(∀ r ∈ rs,∀ i,1<i→i<32→nm L r.N i=0)→(rs.flatMap fun r=>xX L r.N).count (n,1)=(rs.map (·.N)).count n
 | [],_=>rfl
 | r :: rs,a=>by
  rw [qx,Jj,ab8 n rs (fun x b=>a x (by simp [b])),ap3 (a r sm),jU,EH,Ci]
  simp
def dH.ok (h:dH L rs):xq L (l7 L rs rs.length 0):=by
 refine ⟨fun x g=> ?_,fun x g y i e=> ?_,fun n=> ?_⟩
 ·rcases (BJ h.zero x).1 g with ⟨d,r,hr,e⟩ | ⟨d,hs⟩ | ⟨d,hs⟩
  ·have:=h.fst r hr;omega
  ·have:=h.sec _ hs;omega
  ·have:=h.aG _ hs;omega
 ·rcases (BJ h.zero x).1 g with ⟨d,f⟩ | ⟨d,hs⟩ | ⟨d,hs⟩
  ·rcases (BJ h.zero y).1 i with ⟨b,c⟩ | ⟨b,a⟩ | ⟨b,a⟩
   ·omega
   ·rw [e] at f;exact absurd a (h.fs _ f)
   ·rw [e] at f;exact absurd a (h.fb _ f)
  ·rcases (BJ h.zero y).1 i with ⟨b,c⟩ | ⟨b,a⟩ | ⟨b,a⟩
   ·rw [← e] at c;exact absurd hs (h.fs _ c)
   ·omega
   ·rw [e] at hs;exact absurd a (h.sb _ hs)
  ·rcases (BJ h.zero y).1 i with ⟨b,c⟩ | ⟨b,a⟩ | ⟨b,a⟩
   ·rw [← e] at c;exact absurd hs (h.fb _ c)
   ·rw [← e] at a;exact absurd hs (h.sb _ a)
   ·omega
 ·rw [Xn,ab8 n rs h.zero];exact List.nodup_iff_count.1 h.nodup n
def PZ {r:bI} (hr:r ∈ rs) (n:Nat):lH L r.N n≤dN L rs n:=by
 unfold dN
 induction rs with
 | nil=>simp at hr
 | cons a l ih=>
  rw [jU,Jk];rcases cO.1 hr with rfl | h
  ·omega
  ·have:=ih h;omega
def aw2 {t:Nat} (h:nX rs t):1≤dN L rs t:=by
 obtain ⟨r,hr,rfl⟩:=h
 have:=PZ (L:=L) hr r.N
 unfold lH at this;rw [au rfl] at this;omega
def PL (L:List aj) (t j n:Nat) (hj:j<2):oh L t j n≤lH L t n:=by
 unfold lH
 have:j=0∨j=1:=om
 rcases this with rfl | rfl <;> omega
def SG {s:Nat} (h:fD L rs s):1≤dN L rs s:=by
 obtain ⟨r,hr,j,hj,h0,e⟩:=h;have b:=PZ (L:=L) hr s;have a:=PL L r.N j s hj;unfold oh at a;rw [ak h0,IL h0 e] at a;omega
def SE {n:Nat} (h:oU L rs n):1≤dN L rs n:=by
 obtain ⟨s,⟨r,hr,j,hj,h0,e⟩,k,hk,c,d⟩:=h;have i:=PZ (L:=L) hr n;have b:=PL L r.N j n hj;have g:=ZW (f:=fun k=>iT (nm L s k) n) (a:=k) 32 0 om om;unfold oh zC at b;rw [ak h0,e] at b;simp only [IL c d] at g;omega
end
structure Shape (L L':List aj) (rs:List bI):Prop where
 t1: ∀ r ∈ rs,∀ j,j<32→lQ (nm L' r.N j) (nm L r.N j)
 t2: ∀ s,fD L rs s→ ∀ k,k<32→lQ (nm L' s k) (nm L s k)
section
variable {L L' L2:List aj} {rs:List bI}
def Shape.rZ (h:Shape L L' rs) (s:Nat):fD L' rs s↔fD L rs s:=by
 constructor
 ·rintro ⟨r,hr,j,hj,h0,e⟩
  have:=h.t1 r hr j om
  exact ⟨r,hr,j,hj,fun x=>h0 (this.1.2 x),by rw [← this.2];exact e⟩
 ·rintro ⟨r,hr,j,hj,h0,e⟩
  have:=h.t1 r hr j om
  exact ⟨r,hr,j,hj,fun x=>h0 (this.1.1 x),by rw [this.2];exact e⟩
def Shape.AO (h:Shape L L' rs) (n:Nat):oU L' rs n↔oU L rs n:=by
 constructor
 ·rintro ⟨s,hs,k,hk,h0,e⟩;have a:=(h.rZ s).1 hs
  have:=h.t2 s a k hk
  exact ⟨s,a,k,hk,fun x=>h0 (this.1.2 x),by rw [← this.2];exact e⟩
 ·rintro ⟨s,hs,k,hk,h0,e⟩
  have:=h.t2 s hs k hk
  exact ⟨s,(h.rZ s).2 hs,k,hk,fun x=>h0 (this.1.1 x),by rw [this.2];exact e⟩
def Shape.of_same (a: ∀ r ∈ rs,cl L' r.N=cl L r.N) (b: ∀ s,fD L rs s→cl L' s=cl L s):Shape L L' rs:=
 ⟨fun r hr j _=>by unfold nm;rw [a r hr];exact lQ.refl _,fun s hs k _=>by unfold nm;rw [b s hs];exact lQ.refl _⟩
def ajx {s n:Nat} (h: ∀ k,k<32→lQ (nm L' s k) (nm L s k)):zC L' s n=zC L s n:=
 aeR 32 0 fun j _ hj=>(h j om).iT n
def ZB {t j n:Nat} (h:lQ (nm L' t j) (nm L t j)) (a:nm L t j≠0→ ∀ k,k<32→lQ (nm L' (nm L t j%32768) k) (nm L (nm L t j%32768) k)):oh L' t j n=oh L t j n:=by
 unfold oh
 by_cases e:nm L t j=0
 ·rw [au e,au (h.1.2 e)]
 ·rw [ak e,ak (fun x=>e (h.1.1 x)),h.iT n,h.2,ajx (a e)]
def Shape.tree (h:Shape L L' rs) {r:bI} (hr:r ∈ rs) (n:Nat):lH L' r.N n=lH L r.N n:=by
 unfold lH;rw [ZB (h.t1 r hr 0 om) (fun h0=>h.t2 _ ⟨r,hr,0,om,h0,rfl⟩),ZB (h.t1 r hr 1 om) (fun h0=>h.t2 _ ⟨r,hr,1,om,h0,rfl⟩)]
def Shape.use (h:Shape L L' rs) (n:Nat):dN L' rs n=dN L rs n:=by
 unfold dN;rw [Ji (fun r hr=>h.tree hr n)]
def dH.shape (h:dH L rs) (hs:Shape L L' rs) (b:L.length≤L'.length) (d:L'.length≤256)
  (jI: ∀ n,n<256→gZ n+dN L rs n≤aQ L' n) (top: ∀ n,n<256→aQ L' n<255) (none: ∀ n,n<256→L'.length≤n→aQ L' n=0)
  (e: ∀ r ∈ rs,∀ j,j<2→32768≤nm L' r.N j→aQ L' (nm L' r.N j%32768)=1) (f: ∀ s,fD L rs s→ ∀ k,k<32→32768≤nm L' s k→aQ L' (nm L' s k%32768)=1):dH L' rs where
 len:=d
 qp:=jL h.qp b
 fst:=fun r hr=>⟨(h.fst r hr).1,iL (h.fst r hr).2 b⟩
 nodup:=h.nodup
 zero:=fun r hr i g c=>(hs.t1 r hr i c).1.2 (h.zero r hr i g c)
 sec:=fun s x=>by have:=h.sec s ((hs.rZ s).1 x);omega
 aG:=fun n x=>by have:=h.aG n ((hs.AO n).1 x);omega
 fs:=fun t a x=>h.fs t a ((hs.rZ t).1 x)
 fb:=fun t a x=>h.fb t a ((hs.AO t).1 x)
 sb:=fun t a x=>h.sb t ((hs.rZ t).1 a) ((hs.AO t).1 x)
 jI:=fun n hn=>by rw [hs.use];exact jI n hn
 top:=top
 none:=none
 Dl:=e
 BI:=fun s x=>f s ((hs.rZ s).1 x)
def dH.untold (h:dH L rs) {n:Nat} (hn:n<256) (h0:aQ L n=0): ¬ nX rs n∧ ¬ fD L rs n∧ ¬ oU L rs n:=by
 have hc:=h.jI n hn;refine ⟨fun x=> ?_,fun x=> ?_,fun x=> ?_⟩
 ·have:=aw2 (L:=L) x;omega
 ·have:=SG x;omega
 ·have:=SE x;omega
def dH.Fe (h:dH L rs) {n:Nat} (hn:n<256) (h0:aQ L n=0):6≤n:=by
 have:=h.jI n hn
 rw [wK,h0] at this
 by_cases e:n<6
 ·rw [au e] at this;omega
 ·omega
def atd {t b:Nat} (f:b<64) (a: ∀ j,j<2→lQ (nm L' t j) (nm L t j)) (c: ∀ j,j<2→nm L t j≠0→ ∀ k,k<32→lQ (nm L' (nm L t j%32768) k) (nm L (nm L t j%32768) k)):lQ (bU L' t b) (bU L t b):=by
 have hj:=a (b / 32) om;unfold bU
 by_cases e:num (cl L t) (2*(b / 32))=0
 ·rw [au e,au (hj.1.2 e)];exact lQ.refl _
 ·rw [ak e,ak (fun x=>e (hj.1.1 x))]
  have:=c (b / 32) om e (b%32) om
  have d:num (cl L' t) (2*(b / 32))%32768=num (cl L t) (2*(b / 32))%32768:=hj.2;rw [d];exact this
def XD {t c:Nat} (h: ∀ b,b<64→uw L' c b=uw L t b):eu L' c=eu L t:=by
 apply uY;intro b
 by_cases a:b<64
 ·rw [EY _ _ _ a,EY _ _ _ a,h b a]
 ·rw [eG (by rw [Gv];omega),eG (by rw [Gv];omega)]
def abJ {t a b:Nat} (h:lQ (bU L' a b) (bU L t b)) (hc:bU L t b≠0→cl L' (bU L t b%32768)=cl L (bU L t b%32768)):uw L' a b=uw L t b:=by
 rw [MQ,MQ]
 by_cases e:bU L t b=0
 ·rw [au e,au (h.1.2 e)]
 ·rw [ak e,ak (fun x=>e (h.1.1 x)),h.2,hc e]
def Rz {r:bI} (hr:r ∈ rs) {b:Nat} (c:b<64) (h0:bU L r.N b≠0):oU L rs (bU L r.N b%32768):=by
 obtain ⟨a,e⟩:=adQ h0;exact ⟨_,⟨r,hr,b / 32,om,a,rfl⟩,b%32,om,by unfold nm;rw [← e];exact h0,by unfold nm;rw [← e]⟩
def Shape.content (h:Shape L L' rs) (c: ∀ n,oU L rs n→cl L' n=cl L n) {r:bI} (hr:r ∈ rs):eu L' r.N=eu L r.N:=
 XD fun b a=>abJ (atd a (fun j hj=>h.t1 r hr j om) (fun j hj h0=>h.t2 _ ⟨r,hr,j,hj,h0,rfl⟩)) (fun h0=>c _ (Rz hr a h0))
def dH.roots {c:List bI} (h:dH L rs)
  (hr: ∀ a ∈ c,(6≤a.N∧a.N<L.length)∧ ¬ fD L rs a.N∧ ¬ oU L rs a.N∧ ∃ r ∈ rs,∀ j,j<32→nm L a.N j=nm L r.N j)
  (hn:(c.map (·.N)).Nodup) (jI: ∀ n,n<256→gZ n+dN L c n≤aQ L n):dH L c:=by
 have f: ∀ s,fD L c s→fD L rs s:=by
  rintro s ⟨a,b,j,hj,h0,e⟩;obtain ⟨_,_,_,r,d,hs⟩:=hr a b;rw [hs j om] at h0 e;exact ⟨r,d,j,hj,h0,e⟩
 have g: ∀ n,oU L c n→oU L rs n:=fun n ⟨s,hs,x⟩=>⟨s,f s hs,x⟩;refine ⟨h.len,h.qp,fun a b=>(hr a b).1,hn,fun a b i m l=> ?_,fun s hs=>h.sec s (f s hs),fun n hn=>h.aG n (g n hn),?_,?_,fun t o x=>h.sb t (f t o) (g t x),jI,h.top,h.none,fun a b j hj hm=> ?_,fun s hs=>h.BI s (f s hs)⟩
 ·obtain ⟨_,_,_,r,d,hs⟩:=hr a b;rw [hs i l];exact h.zero r d i m l
 ·rintro t ⟨a,b,rfl⟩ x;exact (hr a b).2.1 (f _ x)
 ·rintro t ⟨a,b,rfl⟩ x;exact (hr a b).2.2.1 (g _ x)
 ·obtain ⟨_,_,_,r,d,hs⟩:=hr a b;rw [hs j om] at hm ⊢;exact h.Dl r d j hj hm
def apV {t a:Nat} (hs: ∀ j,j<32→nm L a j=nm L t j):eu L a=eu L t:=by
 refine XD fun b c=> ?_;rw [MQ,MQ];have e:bU L a b=bU L t b:=by
  unfold bU
  have:=hs (b / 32) om
  unfold nm at this;rw [this]
 rw [e]
end
section
variable {L L':List aj} {rs:List bI}
def am1 {r b:bI} (hr:r ∈ rs) (f:b ∈ rs) (g:r.N≠b.N) (n:Nat):lH L r.N n+lH L b.N n≤dN L rs n:=by
 unfold dN
 induction rs with
 | nil=>simp at hr
 | cons a l ih=>
  rw [jU,Jk];rcases cO.1 hr with e | h
  ·rcases cO.1 f with c | d
   ·rw [e,c] at g;exact absurd rfl g
   ·have:=PZ (L:=L) d n
    unfold dN at this;rw [e];omega
  ·rcases cO.1 f with c | d
   ·have:=PZ (L:=L) h n
    unfold dN at this;rw [c];omega
   ·have:=ih h d;omega
def aeC {s:Nat} (m:dN L rs s=1) {r b:bI} {j a:Nat} (hr:r ∈ rs) (d:b ∈ rs) (hj:j<2) (f:a<2) (h0:nm L r.N j≠0) (g:nm L b.N a≠0) (e:nm L r.N j%32768=s) (h:nm L b.N a%32768=s):b.N=r.N∧a=j:=by
 have key: ∀ (x:bI) (q:Nat),nm L x.N q≠0→nm L x.N q%32768=s→1≤oh L x.N q s:=by
  intro x q h0 e;unfold oh;rw [ak h0,IL h0 e];omega
 have o:=key r j h0 e;have i:=key b a g h
 by_cases c:b.N=r.N
 ·refine ⟨c,?_⟩
  by_cases l:a=j
  ·exact l
  ·have:=PZ (L:=L) hr s
   rw [c] at i;unfold lH at this
   have:(j=0∧a=1)∨(j=1∧a=0):=om
   rcases this with ⟨rfl,rfl⟩ | ⟨rfl,rfl⟩ <;> omega
 ·have:=am1 (L:=L) hr d (fun x=>c x.symm) s
  have:=PL L r.N j s hj
  have:=PL L b.N a s f
  omega
def am0 {t a b n:Nat} (hn:(rs.map (·.N)).Nodup) (f:nX rs t) (c: ∀ r ∈ rs,r.N≠t→lH L' r.N n=lH L r.N n) (hc:lH L' t n+a=lH L t n+b):dN L' rs n+a=dN L rs n+b:=by
 unfold dN
 induction rs with
 | nil=>obtain ⟨r,hr,_⟩:=f;simp at hr
 | cons x l ih=>
  rw [jU,Jk,jU,Jk];rw [jU,afs] at hn
  by_cases e:x.N=t
  ·have:(l.map fun r=>lH L' r.N n)=l.map fun r=>lH L r.N n:=Ji fun r hr=>c r (by simp [hr]) (fun z=>hn.1 (by rw [e,← z];exact gY.2 ⟨r,hr,rfl⟩))
   rw [this,e];omega
  ·have g:nX l t:=by
    obtain ⟨r,hr,d⟩:=f;rcases cO.1 hr with z | z
    ·rw [z] at d;exact absurd d e
    ·exact ⟨r,z,d⟩
   have:=ih hn.2 g (fun r hr=>c r (by simp [hr]))
   rw [c x sm e];omega
def amR {t j a b n:Nat} (hj:j<2) (c: ∀ q,q<2→q≠j→oh L' t q n=oh L t q n) (hc:oh L' t j n+a=oh L t j n+b):lH L' t n+a=lH L t n+b:=by
 unfold lH
 have:j=0∨j=1:=om
 rcases this with rfl | rfl
 ·have:=c 1 om om;omega
 ·have:=c 0 om om;omega
structure TR (L L':List aj) (s k x:Nat):Prop where
 len:L'.length=L.length
 now:nm L' s k=x
 Lr: ∀ q,q<32→q≠k→nm L' s q=nm L s q
 same: ∀ t,t≠s→cl L' t=cl L t
def TR.count {s k x:Nat} (h:TR L L' s k x) (hs:6≤s) (n:Nat) (hn:n<256):aQ L' n=aQ L n:=by
 unfold aQ;rw [h.same _ om]
variable {r:bI} {j s k n:Nat}
structure yT (L L':List aj) (rs:List bI) (r:bI) (j s k n:Nat):Prop where
 put:TR L L' s k (n+32768)
 hr:r ∈ rs
 hj:j<2
 hk:k<32
 h0:nm L r.N j≠0
 hs:nm L r.N j%32768=s
 one:aQ L s=1
 Lh:6≤n∧n<L.length
 cn:aQ L n=1
 un: ¬ nX rs n∧ ¬ fD L rs n∧ ¬ oU L rs n
def yT.lt {n:Nat} (h:yT L L' rs r j s k n) (hL:L.length≤256):(n+32768)%32768=n:=by have:=h.Lh;omega
def yT.sec (b:yT L L' rs r j s k n):fD L rs s:=⟨r,b.hr,j,b.hj,b.h0,b.hs⟩
def yT.amY (h:dH L rs) (b:yT L L' rs r j s k n):dN L rs s=1:=by
 have a:=SG b.sec;have c:=h.sec s b.sec;have d:=h.jI s (by have:=h.len;omega)
 have:=b.one
 omega
def yT.fst (h:dH L rs) (b:yT L L' rs r j s k n) {a:bI} (c:a ∈ rs):cl L' a.N=cl L a.N:=
 b.put.same _ fun e=>h.fs _ ⟨a,c,e⟩ b.sec
def yT.rZ (h:dH L rs) (b:yT L L' rs r j s k n) (x:Nat):fD L' rs x↔fD L rs x:=by
 constructor
 ·rintro ⟨d,a,f,c,h0,e⟩;unfold nm at h0 e;rw [b.fst h a] at h0 e;exact ⟨d,a,f,c,h0,e⟩
 ·rintro ⟨d,a,f,c,h0,e⟩;refine ⟨d,a,f,c,?_,?_⟩
  ·unfold nm;rw [b.fst h a];exact h0
  ·unfold nm;rw [b.fst h a];exact e
def yT.AO (h:dH L rs) (b:yT L L' rs r j s k n) (x:Nat) (i:oU L' rs x):oU L rs x∨x=n:=by
 obtain ⟨a,c,q,d,h0,e⟩:=i;rw [b.rZ h] at c
 by_cases f:a=s
 ·subst f
  by_cases g:q=k
  ·subst g;rw [b.put.now,b.lt h.len] at e;exact ay e.symm
  ·rw [b.put.Lr q d g] at h0 e;exact aA ⟨a,c,q,d,h0,e⟩
 ·unfold nm at h0 e;rw [b.put.same a f] at h0 e;exact aA ⟨a,c,q,d,h0,e⟩
def yT.use (h:dH L rs) (b:yT L L' rs r j s k n) (m:Nat):dN L' rs m+iT (nm L s k) m=dN L rs m+if n=m then 1 else 0:=by
 have t:=b.amY h;have hn:=b.lt h.len;have u:iT (n+32768) m=if n=m then 1 else 0:=by
  unfold iT;rw [hn]
  by_cases e:n=m
  ·rw [au e,au ⟨om,e⟩]
  ·rw [ak e,ak (fun z=>e z.2)]
 have v:zC L' s m+iT (nm L s k) m=zC L s m+iT (n+32768) m:=by
  have:=aeS (f:=fun q=>iT (nm L' s q) m) (g:=fun q=>iT (nm L s q) m) (a:=k) 32 0 om (by have:=b.hk;omega) (fun q _ l c=>by rw [b.put.Lr q om c])
  simp only [b.put.now] at this;exact this
 have o: ∀ d ∈ rs,∀ q,q<2→(d.N≠r.N∨q≠j)→oh L' d.N q m=oh L d.N q m:=by
  intro d i q l c;refine ZB ?_ fun h0 x w=> ?_
  ·unfold nm;rw [b.fst h i];exact lQ.refl _
  ·unfold nm;rw [b.put.same]
   ·exact lQ.refl _
   ·intro e
    have:=aeC t b.hr i b.hj l b.h0 h0 b.hs e
    omega
 have p:oh L' r.N j m+iT (nm L s k) m=oh L r.N j m+iT (n+32768) m:=by
  have e:nm L' r.N j=nm L r.N j:=by unfold nm;rw [b.fst h b.hr]
  unfold oh;rw [e,ak b.h0,ak b.h0,b.hs];omega
 rw [← u];exact am0 h.nodup ⟨r,b.hr,rfl⟩ (fun d i c=>by
  unfold lH;rw [o d i 0 om (aA c),o d i 1 om (aA c)]) (amR b.hj (fun q l c=>o r b.hr q l (ay c)) p)
def yT.sound (h:dH L rs) (b:yT L L' rs r j s k n):dH L' rs:=by
 have B:=(h.sec s b.sec).1;have hc:=fun m hm=>b.put.count B m hm;have hlen:=h.len;refine ⟨by rw [b.put.len];exact h.len,by rw [b.put.len];exact h.qp,fun f d=>by rw [b.put.len];exact h.fst f d,h.nodup,fun f d i o v=> ?_,fun x a=> ?_,fun x a=> ?_,fun t c x=>h.fs t c ((b.rZ h t).1 x),fun t c x=> ?_,fun t c x=> ?_,fun m hm=> ?_,fun m hm=>by rw [hc m hm];exact h.top m hm,fun m hm C=>by rw [hc m hm];exact h.none m hm (by rw [← b.put.len];exact C),fun f d q g hm=> ?_,fun x a q g hm=> ?_⟩
 ·unfold nm;rw [b.fst h d];exact h.zero f d i o v
 ·rw [b.put.len];exact h.sec x ((b.rZ h x).1 a)
 ·rw [b.put.len];rcases b.AO h x a with y | y
  ·exact h.aG x y
  ·rw [y];exact b.Lh
 ·rcases b.AO h t x with y | y
  ·exact h.fb t c y
  ·rw [y] at c;exact b.un.1 c
 ·rcases b.AO h t x with y | y
  ·exact h.sb t ((b.rZ h t).1 c) y
  ·rw [y] at c;exact b.un.2.1 ((b.rZ h n).1 c)
 ·rw [hc m hm];have o:=b.use h m;have v:=h.jI m hm
  by_cases e:n=m
  ·subst e;rw [au rfl] at o;have D:dN L rs n=0:=by
    by_cases z:dN L rs n=0
    ·exact z
    ·exfalso;have p:0<dN L rs n:=om;rw [← Pn h.zero] at p;unfold AX at p;obtain ⟨y,u,e⟩:=gY.1 (aax.1 p);rcases (BJ h.zero y).1 u with ⟨_,l⟩ | ⟨_,l⟩ | ⟨_,l⟩
     ·rw [e] at l;exact b.un.1 l
     ·rw [e] at l;exact b.un.2.1 l
     ·rw [e] at l;exact b.un.2.2 l
   have:=b.cn
   have:=b.Lh
   rw [wK,ak om];omega
  ·rw [ak e] at o;omega
 ·have e:nm L' f.N q=nm L f.N q:=by unfold nm;rw [b.fst h d]
  rw [e] at hm ⊢;have a:=h.sec _ ⟨f,d,q,g,om,rfl⟩;rw [hc _ om];exact h.Dl f d q g hm
 ·rw [b.rZ h] at a
  by_cases w:x=s
  ·subst w
   by_cases A:q=k
   ·subst A;rw [b.put.now,b.lt h.len,hc n (by have:=b.Lh;omega)];exact b.cn
   ·rw [b.put.Lr q g A] at hm ⊢;have u:=h.aG _ ⟨x,a,q,g,om,rfl⟩;rw [hc _ om];exact h.BI x a q g hm
  ·have e:nm L' x q=nm L x q:=by unfold nm;rw [b.put.same x w]
   rw [e] at hm ⊢;have u:=h.aG _ ⟨x,a,q,g,om,rfl⟩;rw [hc _ om];exact h.BI x a q g hm
def yT.content (h:dH L rs) (b:yT L L' rs r j s k n) {a:bI} (d:a ∈ rs):
  eu L' a.N=if a.N=r.N then (eu L a.N).set (32*j+k) (cl L n) else eu L a.N:=by
 have m:=b.amY h;have i:n≠s:=fun e=>b.un.2.1 (by rw [e];exact b.sec);have l: ∀ x,oU L rs x→cl L' x=cl L x:=fun x o=>b.put.same x fun e=>h.sb s b.sec (by rw [← e];exact o);have hn:cl L' n=cl L n:=b.put.same n i;have hj:=b.hj;have hk:=b.hk;have key: ∀ c,c<64→(a.N≠r.N∨c≠32*j+k)→uw L' a.N c=uw L a.N c:=by
  intro c hc q;have e:bU L' a.N c=bU L a.N c:=by
   unfold bU;rw [b.fst h d]
   by_cases h0:num (cl L a.N) (2*(c / 32))=0
   ·rw [au h0,au h0]
   ·rw [ak h0,ak h0]
    by_cases f:num (cl L a.N) (2*(c / 32))%32768=s
    ·have:=aeC m b.hr d b.hj om b.h0 h0 b.hs f
     rw [f];exact b.put.Lr (c%32) om om
    ·rw [b.put.same _ f]
  exact abJ (by rw [e];exact lQ.refl _) (fun h0=>l _ (Rz d hc h0))
 by_cases e:a.N=r.N
 ·rw [au e];apply uY;intro c;rw [uI]
  by_cases hc:c<64
  ·by_cases g:32*j+k=c
   ·rw [au g,au (by rw [Gv];omega),EY _ _ _ hc,MQ];have p:bU L' a.N c=n+32768:=by
     unfold bU;rw [b.fst h d,e,show c / 32=j by omega,show c%32=k by omega,ak b.h0]
     have:=b.put.now
     unfold nm at this;have hs:=b.hs;unfold nm at hs;rw [hs];exact this
    rw [p,ak om,b.lt h.len,hn]
   ·rw [ak g,EY _ _ _ hc,EY _ _ _ hc,key c hc (ay (fun z=>g z.symm))]
  ·rw [ak om,eG (by rw [Gv];omega),eG (by rw [Gv];omega)]
 ·rw [ak e];exact XD fun c hc=>key c hc (aA e)
end
section
variable {L L':List aj} {rs:List bI} {r:bI} {j s k n:Nat}
def JX (h:dH L rs) {n:Nat} (un: ¬ nX rs n∧ ¬ fD L rs n∧ ¬ oU L rs n):dN L rs n=0:=by
 by_cases z:dN L rs n=0
 ·exact z
 ·exfalso;have b:0<dN L rs n:=om;rw [← Pn h.zero] at b;unfold AX at b;obtain ⟨y,c,e⟩:=gY.1 (aax.1 b);rcases (BJ h.zero y).1 c with ⟨_,a⟩ | ⟨_,a⟩ | ⟨_,a⟩
  ·rw [e] at a;exact un.1 a
  ·rw [e] at a;exact un.2.1 a
  ·rw [e] at a;exact un.2.2 a
def AY (L:List aj) (t j q:Nat):Nat:=if nm L t j=0 then 0 else nm L (nm L t j%32768) q
structure yY (L L':List aj) (rs:List bI) (r:bI) (j s k n:Nat):Prop where
 put:TR L L' r.N j (s+32768)
 hr:r ∈ rs
 hj:j<2
 hk:k<32
 tk:nm L s k=n+32768
 tq: ∀ q,q<32→q≠k→nm L s q=AY L r.N j q
 ne:s≠n
 sin:6≤s∧s<L.length
 Lh:6≤n∧n<L.length
 cs:aQ L s=1
 cn:aQ L n=1
 us: ¬ nX rs s∧ ¬ fD L rs s∧ ¬ oU L rs s
 un: ¬ nX rs n∧ ¬ fD L rs n∧ ¬ oU L rs n
def yY.ls (b:yY L L' rs r j s k n) (hL:L.length≤256):(s+32768)%32768=s:=by have:=b.sin;omega
def yY.ln (b:yY L L' rs r j s k n) (hL:L.length≤256):(n+32768)%32768=n:=by have:=b.Lh;omega
def yY.other (h:dH L rs) (b:yY L L' rs r j s k n) {x:Nat} (a:fD L rs x∨x=s):cl L' x=cl L x:=by
 refine b.put.same x fun e=> ?_;rcases a with y | y
 ·exact h.fs _ ⟨r,b.hr,e.symm⟩ y
 ·exact b.us.1 ⟨r,b.hr,by rw [← e];exact y⟩
def yY.fst (b:yY L L' rs r j s k n) {a:bI} (c:a.N≠r.N):cl L' a.N=cl L a.N:=b.put.same _ c
def yY.rZ (h:dH L rs) (b:yY L L' rs r j s k n) (x:Nat) (i:fD L' rs x):fD L rs x∨x=s:=by
 obtain ⟨a,g,q,c,h0,e⟩:=i
 by_cases d:a.N=r.N
 ·rw [d] at h0 e
  by_cases f:q=j
  ·subst f;rw [b.put.now,b.ls h.len] at e;exact ay e.symm
  ·rw [b.put.Lr q om f] at h0 e;exact aA ⟨r,b.hr,q,c,h0,e⟩
 ·unfold nm at h0 e;rw [b.fst d] at h0 e;exact aA ⟨a,g,q,c,h0,e⟩
def yY.AO (h:dH L rs) (b:yY L L' rs r j s k n) (x:Nat) (i:oU L' rs x):oU L rs x∨x=n:=by
 obtain ⟨c,g,q,a,h0,e⟩:=i;have hs:=b.rZ h c g;unfold nm at h0 e;rw [b.other h hs] at h0 e;rcases hs with y | y
 ·exact aA ⟨c,y,q,a,h0,e⟩
 ·subst y
  by_cases d:q=k
  ·subst d
   have:=b.tk
   unfold nm at this;rw [this,b.ln h.len] at e;exact ay e.symm
  ·have:=b.tq q a d
   unfold nm AY at this;rw [this] at h0 e
   split at h0
   ·exact absurd rfl h0
   ·rename_i f;rw [ak f] at e;exact aA ⟨_,⟨r,b.hr,j,b.hj,f,rfl⟩,q,a,h0,e⟩
def ajk {n m:Nat} (hn:(n+32768)%32768=n):iT (n+32768) m=if n=m then 1 else 0:=by
 unfold iT;rw [hn]
 by_cases e:n=m
 ·rw [au e,au ⟨om,e⟩]
 ·rw [ak e,ak (fun z=>e z.2)]
def arT (L:List aj) (t j m:Nat):tC (fun q=>iT (AY L t j q) m) 32 0=if nm L t j=0 then 0 else zC L (nm L t j%32768) m:=by
 unfold AY zC
 by_cases e:nm L t j=0
 ·simp only [e,xk];exact amw _ _ fun q _ _=>UW m
 ·simp only [e,yS]
def yY.use (h:dH L rs) (b:yY L L' rs r j s k n) (m:Nat):
  dN L' rs m+(iT (nm L r.N j) m+iT (AY L r.N j k) m)=dN L rs m+((if s=m then 1 else 0)+if n=m then 1 else 0):=by
 have t:zC L s m+iT (AY L r.N j k) m=(if nm L r.N j=0 then 0 else zC L (nm L r.N j%32768) m)+iT (n+32768) m:=by
  have:=aeS (f:=fun q=>iT (nm L s q) m) (g:=fun q=>iT (AY L r.N j q) m) (a:=k) 32 0 om (by have:=b.hk;omega) (fun q _ i d=>by rw [b.tq q om d])
  simp only [b.tk] at this;rw [arT] at this;exact this
 have o: ∀ c ∈ rs,∀ q,q<2→(c.N≠r.N∨q≠j)→oh L' c.N q m=oh L c.N q m:=by
  intro c l q i d;have e:nm L' c.N q=nm L c.N q:=by
   by_cases p:c.N=r.N
   ·rw [p];exact b.put.Lr q om (by rcases d with z | z;exact absurd p z;exact z)
   ·unfold nm;rw [b.fst p]
  refine ZB (by rw [e];exact lQ.refl _) fun h0 w v=> ?_;unfold nm;rw [b.other h (aA ⟨c,l,q,i,h0,rfl⟩)];exact lQ.refl _
 have u:oh L' r.N j m+(iT (nm L r.N j) m+iT (AY L r.N j k) m)=oh L r.N j m+((if s=m then 1 else 0)+if n=m then 1 else 0):=by
  rw [← ajk (b.ls h.len),← ajk (b.ln h.len)];have e:zC L' s m=zC L s m:=ajx fun q i=>by unfold nm;rw [b.other h (ay rfl)];exact lQ.refl _
  unfold oh;rw [b.put.now,ak om,b.ls h.len,e]
  by_cases z:nm L r.N j=0
  ·rw [au z] at t ⊢;rw [z,UW];omega
  ·rw [ak z] at t ⊢;omega
 exact am0 h.nodup ⟨r,b.hr,rfl⟩ (fun c l d=>by
  unfold lH;rw [o c l 0 om (aA d),o c l 1 om (aA d)]) (amR b.hj (fun q i d=>o r b.hr q i (ay d)) u)
def yY.sound (h:dH L rs) (b:yY L L' rs r j s k n):dH L' rs:=by
 have B:=h.fst r b.hr;have hc:=fun m hm=>b.put.count B.1 m hm;have hlen:=h.len;have hj:=b.hj;refine ⟨by rw [b.put.len];exact h.len,by rw [b.put.len];exact h.qp,fun a f=>by rw [b.put.len];exact h.fst a f,h.nodup,fun a f i g u=> ?_,fun x l=> ?_,fun x l=> ?_,fun t d x=> ?_,fun t d x=> ?_,fun t d x=> ?_,fun m hm=> ?_,fun m hm=>by rw [hc m hm];exact h.top m hm,fun m hm C=>by rw [hc m hm];exact h.none m hm (by rw [← b.put.len];exact C),fun a f q c hm=> ?_,fun x l q c hm=> ?_⟩
 ·by_cases o:a.N=r.N
  ·rw [o,b.put.Lr i u om,← o];exact h.zero a f i g u
  ·unfold nm;rw [b.fst o];exact h.zero a f i g u
 ·rw [b.put.len];rcases b.rZ h x l with y | y
  ·exact h.sec x y
  ·rw [y];exact b.sin
 ·rw [b.put.len];rcases b.AO h x l with y | y
  ·exact h.aG x y
  ·rw [y];exact b.Lh
 ·rcases b.rZ h t x with y | y
  ·exact h.fs t d y
  ·rw [y] at d;exact b.us.1 d
 ·rcases b.AO h t x with y | y
  ·exact h.fb t d y
  ·rw [y] at d;exact b.un.1 d
 ·rcases b.rZ h t d with z | z
  ·rcases b.AO h t x with y | y
   ·exact h.sb t z y
   ·rw [y] at z;exact b.un.2.1 z
  ·rcases b.AO h t x with y | y
   ·rw [z] at y;exact b.us.2.2 y
   ·exact b.ne (z.symm.trans y)
 ·rw [hc m hm];have g:=b.use h m;have u:=h.jI m hm;have o:=b.sin;have p:=b.Lh;have D:=b.ne;have F:=b.cs;have G:=b.cn
  by_cases z:s=m
  ·subst z;rw [au rfl,ak (fun e=>D e.symm),JX h b.us] at g;rw [wK,ak om];omega
  ·rw [ak z] at g
   by_cases w:n=m
   ·subst w;rw [au rfl,JX h b.un] at g;rw [wK,ak om];omega
   ·rw [ak w] at g;omega
 ·by_cases o:a.N=r.N
  ·rw [o] at hm ⊢
   by_cases p:q=j
   ·subst p;rw [b.put.now,b.ls h.len,hc _ (by have:=b.sin;omega)];exact b.cs
   ·rw [b.put.Lr q om p] at hm ⊢;have l:=h.sec _ ⟨r,b.hr,q,c,om,rfl⟩;rw [hc _ om];exact h.Dl r b.hr q c hm
  ·have e:nm L' a.N q=nm L a.N q:=by unfold nm;rw [b.fst o]
   rw [e] at hm ⊢;have l:=h.sec _ ⟨a,f,q,c,om,rfl⟩;rw [hc _ om];exact h.Dl a f q c hm
 ·have hs:=b.rZ h x l;have e:nm L' x q=nm L x q:=by unfold nm;rw [b.other h hs]
  rw [e] at hm ⊢;rcases hs with y | y
  ·have E:=h.aG _ ⟨x,y,q,c,om,rfl⟩;rw [hc _ om];exact h.BI x y q c hm
  ·subst y
   by_cases p:q=k
   ·subst p;rw [b.tk,b.ln h.len,hc _ (by have:=b.Lh;omega)];exact b.cn
   ·rw [b.tq q c p] at hm ⊢;unfold AY at hm ⊢
    split at hm
    ·omega
    ·rename_i A;rw [ak A];have v:fD L rs (nm L r.N j%32768):=⟨r,b.hr,j,b.hj,A,rfl⟩;have E:=h.aG _ ⟨_,v,q,c,om,rfl⟩;rw [hc _ om];exact h.BI _ v q c hm
def yY.content (h:dH L rs) (b:yY L L' rs r j s k n) {a:bI} (l:a ∈ rs):
  eu L' a.N=if a.N=r.N then (eu L a.N).set (32*j+k) (cl L n) else eu L a.N:=by
 have o: ∀ x,oU L rs x→cl L' x=cl L x:=fun x q=>b.put.same x fun e=>h.fb _ ⟨r,b.hr,e.symm⟩ q;have hn:cl L' n=cl L n:=b.put.same n fun e=>b.un.1 ⟨r,b.hr,e.symm⟩;have hj:=b.hj;have hk:=b.hk;have m:=b.other h (ay rfl:fD L rs s∨s=s);have key: ∀ c,c<64→(a.N≠r.N∨c≠32*j+k)→uw L' a.N c=uw L a.N c:=by
  intro c hc p;have e:bU L' a.N c=bU L a.N c:=by
   by_cases i:a.N=r.N
   ·by_cases f:c / 32=j
    ·have t:c%32≠k:=by rcases p with z | z;exact absurd i z;omega
     have d:=b.put.now;have g:=b.tq (c%32) om t;unfold nm AY at g;unfold nm at d;unfold bU;rw [i,f,d,ak om,b.ls h.len,m,g]
    ·have d:=b.put.Lr (c / 32) om f;unfold nm at d;unfold bU;rw [i,d]
     by_cases h0:num (cl L r.N) (2*(c / 32))=0
     ·rw [au h0,au h0]
     ·rw [ak h0,ak h0,b.other h (aA ⟨r,b.hr,c / 32,om,h0,rfl⟩)]
   ·unfold bU;rw [b.fst i]
    by_cases h0:num (cl L a.N) (2*(c / 32))=0
    ·rw [au h0,au h0]
    ·rw [ak h0,ak h0,b.other h (aA ⟨a,l,c / 32,om,h0,rfl⟩)]
  exact abJ (by rw [e];exact lQ.refl _) (fun h0=>o _ (Rz l hc h0))
 by_cases e:a.N=r.N
 ·rw [au e];apply uY;intro c;rw [uI]
  by_cases hc:c<64
  ·by_cases f:32*j+k=c
   ·rw [au f,au (by rw [Gv];omega),EY _ _ _ hc,MQ];have u:bU L' a.N c=n+32768:=by
     have d:=b.put.now;have g:=b.tk;unfold nm at d g;unfold bU;rw [e,show c / 32=j by omega,show c%32=k by omega,d,ak om,b.ls h.len,m];exact g
    rw [u,ak om,b.ln h.len,hn]
   ·rw [ak f,EY _ _ _ hc,EY _ _ _ hc,key c hc (ay (fun z=>f z.symm))]
  ·rw [ak om,eG (by rw [Gv];omega),eG (by rw [Gv];omega)]
 ·rw [ak e];exact XD fun c hc=>key c hc (aA e)
end
end
end Go.Proofs.YtknjjjenklfeoaaGreatDoor
