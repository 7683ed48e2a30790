import Derived.Test.YtknjjjenklfeoaaGreatDoorU18
set_option maxHeartbeats 8000000
set_option maxRecDepth 100000
set_option linter.all false
namespace Go.Proofs.YtknjjjenklfeoaaGreatDoor
open Go.RowKit
section
section
variable {L:List aj} {rs:List bI} {b:Int} {R:aU}
def dH.ajC {L:List aj} {rs:List bI} {r:bI} (hr:r ∈ rs) {j k:Nat} (hj:j<2) (hk:k<32) (h0:nm L r.N j≠0) (a:nm L (nm L r.N j%32768) k≠0):oU L rs (nm L (nm L r.N j%32768) k%32768):=
 ⟨_,⟨r,hr,j,hj,h0,rfl⟩,k,hk,a,rfl⟩
def dH.awC (h:dH L rs) (x:wJ L rs):DL L rs:=by
 refine ⟨h.len,h.qp,h.ok,h.zero,fun n hn=> ?_,h.top,fun i hi j hj=> ?_⟩
 ·rw [x.eq n hn,← Pn h.zero];rfl
 ·have hr:rs.getD i ⟨0,0,[]⟩ ∈ rs:=by
   rw [aN,bJ hi];exact o9 hi
  refine ⟨fun h0=>⟨fun hm=>h.Dl _ hr j hj hm,fun hc=>x.Vk _ hr j hj h0 hc⟩,fun h0 k hk a=> ?_⟩;have hs:fD L rs (nm L (rs.getD i ⟨0,0,[]⟩).N j%32768):=⟨_,hr,j,hj,h0,rfl⟩;exact ⟨fun hm=>h.BI _ hs k hk hm,fun hc=>x.Vl _ hs k hk a hc⟩
def dH.used (h:dH L rs) (a:Told L rs b gZ (l7 L rs rs.length 0) R) (n:Nat) (hn:n<256):R.used.getD n 0=gZ n+dN L rs n:=by
 rw [a.used n hn,← Pn h.zero];rfl
def dH.counts (h:dH L rs) (a:Told L rs b gZ (l7 L rs rs.length 0) R):qB R 256 0= -1:=by
 refine ace 256 0 fun j _ hj=> ?_;have d:=h.used a j om;have g:=h.top j om;have i:=h.jI j om;unfold ET SH;rw [d,a.hL];have e:decide (aQ L j<gZ j+dN L rs j)=false:=by simp;omega
 have f:(aQ L j == 255)=false:=by rw [lY];omega
 rw [e,f,SQ,Gh,Gh]
 by_cases c:L.length≤j
 ·rw [h.none j om c];simp
 ·rw [gK c];rfl
def akP (h:dH L rs) (a:Told L rs b gZ (l7 L rs rs.length 0) R) (x:Nat) (c:x%32768<256) (hu:1≤dN L rs (x%32768)) (hm:32768≤x→aQ L (x%32768)=1):pF R x=false:=by
 unfold pF
 by_cases e:32768≤x
 ·have f:=h.used a _ c;have g:=h.jI _ c;have d:=hm e;rw [au e,a.hL,d,show R.used.getD (x%32768) 0=1 by omega];rfl
 ·rw [ak e]
def adE (t:Nat) (c: ∀ k,k<32→num (cl R.L t) (2*k)≠0→pF R (num (cl R.L t) (2*k))=false): ∀ (m k acc:Nat),k+m≤32→ ∃ a,sZ R t m k acc=some a
 | 0,_,acc,_=>⟨acc,rfl⟩
 | m+1,k,acc,hm=>by
  rw [sZ]
  by_cases h0:num (cl R.L t) (2*k)=0
  ·rw [au h0];exact adE t c m (k+1) acc om
  ·rw [ak h0,c k om h0];exact adE t c m (k+1) _ om
def adJ (t:Nat) (c: ∀ i,i<2→num (cl R.L t) (2*i)≠0→pF R (num (cl R.L t) (2*i))=false∧ ∀ k,k<32→num (cl R.L (num (cl R.L t) (2*i)%32768)) (2*k)≠0→pF R (num (cl R.L (num (cl R.L t) (2*i)%32768)) (2*k))=false): ∀ (m i acc:Nat),i+m≤2→(vI R t m i acc).1= -1
 | 0,_,_,_=>rfl
 | m+1,i,acc,hm=>by
  rw [vI]
  by_cases h0:num (cl R.L t) (2*i)=0
  ·rw [au h0];exact adJ t c m (i+1) acc om
  ·obtain ⟨d,e⟩:=c i om h0;obtain ⟨a,f⟩:=adE (R:=R) _ e 32 0 (acc+sW R (num (cl R.L t) (2*i))) om;rw [ak h0,d,f];exact adJ t c m (i+1) a om
def dH.marked (h:dH L rs) (a:Told L rs b gZ (l7 L rs rs.length 0) R) (i:Nat) (hi:i<rs.length):(marked R (rootOf R i)).1= -1:=by
 have hr:rootOf R i=rs.getD i ⟨0,0,[]⟩:=by unfold rootOf;rw [a.hR]
 have c:rs.getD i ⟨0,0,[]⟩ ∈ rs:=by
  rw [aN,bJ hi];exact o9 hi
 have l:=h.len;unfold Go.Proofs.YtknjjjenklfeoaaGreatDoor.marked;refine adJ _ (fun j hj h0=> ?_) 2 0 0 om;rw [hr] at h0 ⊢;rw [a.hL] at h0 ⊢;have hs:fD L rs (nm L (rs.getD i ⟨0,0,[]⟩).N j%32768):=⟨_,c,j,hj,h0,rfl⟩;have e:=h.sec _ hs;refine ⟨akP h a _ (by unfold nm at e;omega) (SG hs) (fun hm=>h.Dl _ c j hj hm),fun k hk g=> ?_⟩;have d:=dH.ajC c hj hk h0 g;have f:=h.aG _ d;exact akP h a _ (by unfold nm at f;omega) (SE d) (fun hm=>h.BI _ hs k hk hm)
def dH.marks (h:dH L rs) (a:Told L rs b gZ (l7 L rs rs.length 0) R): ∀ (m i:Nat),i+m≤rs.length→xO R m i (-1)= -1
 | 0,_,_=>rfl
 | m+1,i,hm=>by
  rw [xO,au dc,h.marked a i om];exact h.marks a m (i+1) om
def asG {file:List aj} (j:mD file=true) (k:(ji (gJ file)).1=true) (c:dH (gJ file).L (ji (gJ file)).2):
  (look file).bad= -1∧(look file).L=(gJ file).L∧(look file).roots=(ji (gJ file)).2∧(∀ n,n<256→(look file).used.getD n 0=gZ n+dN (gJ file).L (ji (gJ file)).2 n)∧vk 1000 (look file):=by
 have h:Told (gJ file).L (ji (gJ file)).2 (-1) gZ [] (qR file):=
  ⟨rfl,rfl,rfl,aau,aak,fun x c=>by simp at c,fun n _=>by
   show FX.getD n 0=0;unfold FX;rw [aN,rG]
   split <;> rfl,fun n _=>rfl⟩
 obtain ⟨i,f⟩:=afe c.len c.zero (ji (gJ file)).2.length 0 [] (qR file) om h c.ok;rw [qy] at f;have g:(iQ file).1=true:=i;have a:Told (gJ file).L (ji (gJ file)).2 (-1) gZ (l7 (gJ file).L (ji (gJ file)).2 (ji (gJ file)).2.length 0) (iQ file).2:=f;have e:look file={ (iQ file).2 with bad:=xO (iQ file).2 (iQ file).2.roots.length 0 (qB (iQ file).2 256 0) }:=by
  unfold look;rw [ak (by rw [j];decide),ak (by rw [k];decide),ak (by rw [g];decide)]
 clear i f h g;generalize iQ file=Q at a e;have d:Told (gJ file).L (ji (gJ file)).2 (-1) gZ (l7 (gJ file).L (ji (gJ file)).2 (ji (gJ file)).2.length 0) (look file):=by
  rw [e,c.counts a,a.hR,c.marks a _ 0 om];exact ⟨a.hL,a.hR,rfl,a.tl,a.ul,a.told,a.none,a.used⟩
 refine ⟨d.hB,d.hL,d.hR,fun n hn=>c.used d n hn,fun n=> ?_⟩
 by_cases hn:n<256
 ·rw [c.used d n hn]
  have:=c.top n hn
  have:=c.jI n hn
  omega
 ·rw [aN,eG (by rw [d.ul];omega)];exact lX _
def dH.KW (h:dH L rs) {r:bI} (hr:r ∈ rs):rX L r.N:=by
 refine ⟨(h.fst r hr).2,fun i hi h0=>(h.sec _ ⟨r,hr,i,hi,h0,rfl⟩).2,fun i hi h0 k hk=> ?_⟩
 by_cases a:nm L (nm L r.N i%32768) k=0
 ·unfold nm at a;rw [a]
  have:=h.qp
  omega
 ·exact (h.aG _ (dH.ajC hr hi hk h0 a)).2
end
def jA (C:List aj) (f:Nat):List Nat:=(dJ (numsOf (cl C f))).flatMap fun s=>s :: dJ (numsOf (cl C s))
def mF (C:List aj) (f:Nat):List Nat:=f :: jA C f
def Em (k:List UInt8) (n:Nat):List UInt8:=k.set n (UInt8.ofNat ((aI k n+1)%256))
def plus (k:List UInt8) (us:List Nat):List UInt8:=us.foldl Em k
def oH:List UInt8→List Nat→Bool
 | _,[]=>true
 | k,u :: us=>decide (aI k u<254) && oH (Em k u) us
def ad7 (k:List UInt8) (n:Nat):(Em k n).length=k.length:=by simp [Em]
def RN (us:List Nat): ∀ k:List UInt8,(plus k us).length=k.length:=by
 induction us with
 | nil=>intro k;rfl
 | cons u r ih=>intro k;show (plus (Em k u) r).length=_;rw [ih,ad7]
def auq (k:List UInt8) (us:List Nat) (u:Nat):plus k (us++[u])=Em (plus k us) u:=by simp [plus]
def aqJ (us:List Nat) (u:Nat): ∀ k,oH k (us++[u])=(oH k us && decide (aI (plus k us) u<254)):=by
 induction us with
 | nil=>
  intro k;show (decide (aI k u<254) && true)=(true && decide (aI k u<254));rw [aaz,um]
 | cons a r ih=>
  intro k;rw [rU,oH,oH,ih,Bool.and_assoc];rfl
def aqI {us pre:List Nat} {k:List UInt8} (h:pre <+: us) (c:oH k pre=false):oH k us=false:=by
 obtain ⟨r,rfl⟩:=h
 induction pre generalizing k with
 | nil=>simp [oH] at c
 | cons a p ih=>
  rw [oH,Tc] at c;rw [rU,oH,Tc];rcases c with x | x
  ·exact aA x
  ·exact ay (ih x)
def ad6 (k:List UInt8) (n m:Nat) (hn:n<k.length) (a:aI k n<255):aI (Em k n) m=if n=m then aI k n+1 else aI k m:=by
 unfold Em;rw [Bz _ _ _ _ hn,toNat_ofNat _ om]
 by_cases e:n=m
 ·rw [au e,au e];omega
 ·rw [ak e,ak e]
def alp: ∀ (us:List Nat) (k:List UInt8) (m:Nat),(∀ u ∈ us,u<k.length)→oH k us=true→aI (plus k us) m=aI k m+us.count m
 | [],_,_,_,_=>rfl
 | u :: us,k,m,a,c=>by
  rw [oH,wI,DI] at c;show aI (plus (Em k u) us) m=_;rw [alp us (Em k u) m (fun x d=>by rw [ad7];exact a x (by simp [d])) c.2,ad6 k u m (a u sm) om,EH]
  by_cases e:u=m
  ·subst e;simp;omega
  ·rw [ak e,ak (by simp [e])];omega
def acE: ∀ (us:List Nat) (k:List UInt8),(∀ u ∈ us,u<k.length)→(oH k us=true↔ ∀ u ∈ us,aI k u+us.count u≤254)
 | [],_,_=>by simp [oH]
 | u :: us,k,c=>by
  rw [oH,wI,DI];have ih:=acE us (Em k u) (fun x a=>by rw [ad7];exact c x (by simp [a]));constructor
  ·rintro ⟨f,d⟩ x a;rw [EH]
   by_cases hm:x ∈ us
   ·have:=ih.1 d x hm
    rw [ad6 k u x (c u sm) om] at this
    by_cases e:u=x
    ·subst e;simp at this ⊢;omega
    ·rw [ak e] at this;rw [ak (by simp [e])];omega
   ·rcases cO.1 a with e | e
    ·subst e;rw [H8.2 hm];simp;omega
    ·exact absurd e hm
  ·intro h;have hu:=h u sm;rw [EH] at hu;simp only [beq_self_eq_true,xk] at hu;refine ⟨om,ih.2 fun x a=> ?_⟩;rw [ad6 k u x (c u sm) om]
   have:=h x (by simp [a])
   rw [EH] at this
   by_cases e:u=x
   ·subst e;simp at this ⊢;omega
   ·rw [ak (by simp [e])] at this;rw [ak e];omega
end
section
attribute [local go_sem ↓] dw fP fV Np PS Qa OB Ut
attribute [local go_sem] dM fO fU gW gB aV NM PI PK RZ
def avH (D:List aj) (a: ∀ c ∈ D,c.length=64) (k:Nat) (hk:k<D.length) (c:aj) (hc:c.length=64) (rest:List Value):mY (aS D++rest).toArray (k*64) (cv c)=(aS (D.set k c)++rest).toArray:=by
 have g:=zi D a;have e:=aeD D a k hk c hc;have f:(aS (D.set k c)).length=(aS D).length:=by
  have:=H9 Array.size e
  rw [ZG] at this;simpa using this.symm
 apply Jl;intro i;have d:(mY (aS D).toArray (k*64) (cv c))[i]? = (aS (D.set k c)).toArray[i]? := by rw [e]
 rw [Ey (cv c) _ _ i (by rw [bC,hc];simp;omega),bZ,bZ] at d;rw [Ey (cv c) _ _ i (by rw [bC,hc];simp;omega),bZ,bZ]
 by_cases hi:i<(aS D).length
 ·rw [nV om,nV om];exact d
 ·rw [ak (by rw [bC,hc];omega),nP om,nP om,f]
def fB.setBlock {w:World} {d:Nat} {Pv:Value} {D:dR} (h:fB w d Pv D) (k:Nat) (hk:k<64) (c:aj) (hc:c.length=64):fB (w.setCells d (k*64) (cv c)) d Pv { D with C:=D.C.set k c }:=by
 have e:k<D.C.length:=by have:=h.cont.len;omega
 have a:Kept (fun x=>x=d) w (w.setCells d (k*64) (cv c)):=(Kept.refl (fun x=>x=d) w).setCells (b:=d) (aA rfl) _ _;refine ⟨?_,bV a h.row h.neP,⟨?_,by simp [h.cont.len]⟩,h.zK⟩
 ·rw [KU _ _ _ _ _ _ _ h.aG];rw [wP,avH D.C h.cont.all k e c hc];rfl
 ·intro x f;rcases Oc f with y | y
  ·exact h.cont.all x y
  ·rw [y];exact hc
def GY (D:dR) (n:Int) (c:aj):dR × Nat:=if jY n then ({ D with C:=D.C.set n.toNat c },0) else (D,1)
def auW (w:World) (d:Nat) (Pv:Value) (D:dR) (h:fB w d Pv D) (n:Int) (c:aj) (hc:c.length=64):
  Calls Tryz.prog 118 #[.pointer (some ⟨d,0,none⟩),.int .i64 n,.agg (cv c).toArray] w fun e m=>
   e= .returned (.int .i64 ((GY D n c).2:Nat))∧fB m d Pv (GY D n c).1∧Kept (fun x=>x=d) w m:=by
 have hB:aC w (w.alloc (.cells (cv c).toArray 38)):=fC;have f:=h.below hB;have i:(w.alloc (.cells (cv c).toArray 38)).heap[w.heap.size]? = some (.cells (cv c).toArray 38 (0,0)):=aX _ _;have g:=ah (Yw n (w.alloc (.cells (cv c).toArray 38)));have a:Hid (GY D n c=if jY n then ({ D with C:=D.C.set n.toNat c },0) else (D,1)):=rfl;cases hb:jY n with
 | false=>
  rw [hb] at g a;rw [ak dc] at a;have j:=ah f;have l:=ah hB;clear f i hB
  go_enter Tryz.func118,Tryz.ntmps118
  go_wp2_with fail
  refine g.mono ?_;rintro e o ⟨rfl,rfl⟩;go_wp2;go_ret;rw [uh a];exact ⟨rfl,uh j,Kept.dQ l⟩
 | true=>
  rw [hb] at g a;rw [au rfl] at a;have hn:0≤n∧n<64:=by simpa [jY] using hb
  obtain ⟨k,rfl⟩:=Cj hn.1;rw [tZ] at a;have hk:k<64:=om;have q:(k:Int)<64:=om;have j:=ah f;have l:=ah hB;clear hb hn;have r:dU (w.alloc (.cells (cv c).toArray 38)).drew w.heap.size 0 64:=iD i hc;have s:dO (w.alloc (.cells (cv c).toArray 38)).drew w.heap.size 0 64=cv c:=iC i hc;have t:(w.alloc (.cells (cv c).toArray 38)).drew.there d (k*64) 64:=iW (w:=w.alloc (.cells (cv c).toArray 38)) f.aG _ _ (by simp [wP,f.cont.flat];omega);have p:=ah (j.kept (S:=fun _=>False) ((Kept.refl _ _).drew) id (fun _ _=>id));clear f i hB
  go_enter Tryz.func118,Tryz.ntmps118
  go_wp2_with fail
  refine g.mono ?_;rintro e o ⟨rfl,rfl⟩;clear g;generalize w.alloc (.cells (cv c).toArray 38)=W at*;go_wp2
  go_region
  all_goals
   go_wp2;go_ret;rw [uh a];exact ⟨rfl,p.setBlock k hk c hc,Kept.setCells (S:=fun x=>x=d) (Kept.dQ l).drew (b:=d) (aA rfl) _ _⟩
def D9 (R:aU):dR:=⟨eu R.L (rootOf R 0).N,(List.range (R.roots.length - 1)).map fun i=>⟨(rootOf R (i+1)).name,eu R.L (rootOf R (i+1)).N⟩⟩
end
def zJ {p:kD} (h:uJ p.C):(gu p).length=4097:=by simp [gu,h.flat]
def Zd (p:kD): ∀ v ∈ gu p,v.oneCell'=true:=by
 intro v hv;rcases cO.1 hv with rfl | h
 ·rfl
 ·exact XV p.C v h
def aj6 (a:Addr):Sem Value:=loadVar 139 a
def Yy (a:Addr):loadVar 139 a=aj6 a:=rfl
def Zw {w:World} {b o:Nat} (h:dU w b o 4097):(aj6 ⟨b,o,none⟩).run Tryz.prog w= .ok (.agg (dO w b o 4097).toArray) w:=
 BQ h 139 _ Tryz.underlying139 rfl kr
def ag0 (parts:Array (Nat × Value)):Sem Value:=Instr.buildSlice 68 1 parts
def Xt (parts:Array (Nat × Value)):Instr.buildSlice 68 1 parts=ag0 parts:=rfl
def Zt {w:World} {p:kD} (h:uJ p.C):(ag0 #[(0,.agg (gu p).toArray)]).run Tryz.prog w= .ok (.slice (some ⟨w.heap.size,0,none⟩) 1 1) (w.alloc (.cells (gu p).toArray 139)):=
 VN w 68 139 4097 (.agg (gu ⟨[],zD⟩).toArray) (.agg (gu p).toArray) Tryz.underlying68 kr om om (by simp [Value.cells,zJ h])
def Tryz.Yu:(Tryz.prog.info? 139).map (fun i=>(i.zero,i.size,i.bytes))=some (some (.agg (gu ⟨[],zD⟩).toArray),4097,4112):=kr
def axM:kD:=⟨[],zD⟩
def iU (a:List kD) (k:Nat):kD:=a.getD k axM
def Nz {a:List kD} {k:Nat} (hk:k<a.length):iU a k ∈ a:=by
 unfold iU;rw [aN,bJ hk];exact o9 hk
def alj: ∀ (a:List kD),(∀ p ∈ a,uJ p.C)→ ∀ k,k<a.length→ ∀ j,j<4097→(a.flatMap gu)[k*4097+j]? = (gu (iU a k))[j]?
 | [],_,k,hk,_,_=>by simp at hk
 | p :: r,h,k,hk,j,hj=>by
  have c:=zJ (h p sm);rw [qx];cases k with
  | zero=>rw [zS,rE,nV om];rfl
  | succ k=>
   have ih:=alj r (fun q d=>h q (by simp [d])) k (by simpa using hk) j hj;rw [nP (by rw [c];omega),c,show (k+1)*4097+j - 4097=k*4097+j by omega,ih];rfl
def NC {w:World} {base g cap:Nat} {a:List kD} (h:w.ownsRow base 139 4097 (.slice (some ⟨g,0,none⟩) a.length cap) a.length (a.flatMap gu)) (c: ∀ p ∈ a,uJ p.C) (k:Nat) (hk:k<a.length):w.rangeAt g (k*4097) (gu (iU a k)):=fun j v hv=>by
 have hj:=(Ia.1 hv).1;rw [zJ (c _ (Nz hk))] at hj
 have:=h.cells (g:=g) rfl (k*4097+j) v (by rw [alj a c k hk j hj];exact hv)
 have d:(⟨g,0,none⟩:Addr).add (k*4097+j)=⟨g,k*4097+j,none⟩:=by unfold Addr.add;split <;> simp_all
 rw [d] at this;exact this
def acp (x y:Value):Sem Bool:=Op.equalIn 10000 139 x y
def XT (x y:Value):Op.equalIn 10000 139 x y=acp x y:=rfl
def avX (w:World):(Go.sizeOf 67).run Tryz.prog w= .ok 4096 w:=by
 cases hq:Tryz.prog.info? 67 with
 | none=>
  have h:(Tryz.prog.info? 67).isSome=true:=kr;exact absurd hq (by intro e;rw [e] at h;cases h)
 | some i=>
  have a:(Tryz.prog.info? 67).map (·.size)=some 4096:=kr;rw [hq] at a;simp at a;simp [Go.sizeOf,typeInfo,hq,a]
def ad5 (p:kD) (w:World):(part 9 (gu p).toArray 0).run Tryz.prog w= .ok (.string (bM p.name)) w:=by
 have a:(isAgg 9).run Tryz.prog w= .ok false w:=by unfold isAgg;rw [jC,yh Tryz.underlying9 w];rfl
 unfold part;rw [jC,a];rfl
def Zc (p:kD) (a:uJ p.C) (w:World):(part 67 (gu p).toArray 1).run Tryz.prog w= .ok (.agg (aS p.C).toArray) w:=by
 have c:(isAgg 67).run Tryz.prog w= .ok true w:=by unfold isAgg;rw [jC,yh Tryz.underlying67 w];rfl
 unfold part;rw [jC,c];simp only [sK,xk,jC,avX,zU];rw [show (gu p).toArray.extract 1 (1+4096)=(aS p.C).toArray by
  apply Array.ext';rw [Array.toList_extract];simp only [aft,gu,List.drop_one,List.tail_cons,aaQ];exact J4 (by rw [a.flat];exact aO _)]
def Pq (p q:kD):Bool:=decide (p.name=q.name) && decide (p.C=q.C)
def avr {p q:kD} (a:uJ p.C) (c:uJ q.C) (w:World):(acp (.agg (gu p).toArray) (.agg (gu q).toArray)).run Tryz.prog w= .ok (Pq p q) w:=by
 have hs:Tryz.prog.stoodInHeld 139=false:=kr;have h0:(Op.equalIn 9999 9 (.string (bM p.name)) (.string (bM q.name))).run Tryz.prog w= .ok ((bM p.name).toList == (bM q.name).toList) w:=run_equalIn_string (P:=Tryz.prog) w 9998 9 (bM p.name) (bM q.name) Tryz.underlying9;rw [NR,NR] at h0;have d:(Op.equalIn 9999 67 (.agg (aS p.C).toArray) (.agg (aS q.C).toArray)).run Tryz.prog w= .ok (decide (p.C=q.C)) w:=al8 9996 p.C q.C a.all c.all a.len c.len w;show (Op.equalIn (9999+1) 139 _ _).run Tryz.prog w=_;rw [Op.equalIn];simp only [jC,yh Tryz.underlying139,sK,WM,hs,Ce,yS];rw [← afu];unfold Pq
 by_cases e:p.name=q.name
 ·have f:(p.name == q.name)=true:=by simpa using e
  rw [f] at h0;rw [dZ e,um]
  by_cases g:p.C=q.C
  ·rw [dZ g] at d ⊢;simp only [Oe,Qg,jC,ad5,Zc p a,Zc q c,sK,h0,d,ne_eq,String.reduceEq,Qh,xk,WG,Ce,yS,zU]
  ·rw [gK g] at d ⊢;simp only [Oe,Qg,jC,ad5,Zc p a,Zc q c,sK,h0,d,ne_eq,String.reduceEq,Qh,xk,WG,aaI,Ce,yS,zU]
 ·have f:(p.name == q.name)=false:=by simpa using e
  rw [f] at h0;rw [gK e,J3];simp only [Oe,Qg,jC,ad5,sK,h0,ne_eq,String.reduceEq,Qh,xk,aaI,zU]
section
attribute [local go_sem ↓] dw fP fV Np PS Qa OB Ut Yy Xt XT Xv
attribute [local go_sem] dM fO fU gW gB aV NM PI PK RZ Zw Zt Si
def fB.acK {w f:World} {d g5 cap5:Nat} {Pv:Value} {C:List aj} {a:List kD} {p:kD} (h:fB w d Pv ⟨C,a⟩) (m:uJ p.C) (l: ∀ g,Pv.ownBlock=some g→g≠d) (j:w.grownBy f Pv.ownBlock)
  (k:f.ownsRow 0 139 4097 (.slice (some ⟨g5,0,none⟩) (a.length+1) cap5) (a.length+1) (a.flatMap gu++gu p)) (r:g5≠d):
  fB (f.setCell ⟨d,4096,none⟩ (.slice (some ⟨g5,0,none⟩) (a.length+1) cap5)) d (.slice (some ⟨g5,0,none⟩) (a.length+1) cap5) ⟨C,a++[p]⟩:=by
 have n:=qW j h.aG l;have c:=h.cont.flat;simp only at c;refine ⟨?_,?_,h.cont,fun q o=> ?_⟩
 ·rw [heap_setCell_same _ _ _ _ _ _ _ n]
  congr 2
  apply Jl;intro i;rw [anC,bZ,bZ];simp only [wP,jm,oL,aay,c]
  by_cases e:4096=i
  ·subst e;rw [au rfl,au om,nP om,c];rfl
  ·rw [ak e]
   by_cases hi:i<4096
   ·rw [nV om,nV om]
   ·rw [eG (by simp [c];omega),eG (by simp [c];omega)]
 ·have:=bV (Kept.only f d 4096 (.slice (some ⟨g5,0,none⟩) (a.length+1) cap5)) k (fun g j e=>by simp only [Value.ownBlock,jH] at j;omega)
  simpa using this
 ·rcases fK.1 o with x | x
  ·exact h.zK q x
  ·rw [iP.1 x];exact m
def XE (w:World) (d:Nat) (Pv:Value) (D:dR) (h:fB w d Pv D) (h4:D.L.length≤1000):
  Calls Tryz.prog 58 #[.pointer (some ⟨d,0,none⟩)] w fun e q=>
   ∃ c,e= .returned (.pointer (some ⟨w.heap.size,0,none⟩))∧fB q w.heap.size c D∧(∀ g,c.ownBlock=some g→w.heap.size<g)∧aC w q:=by
 obtain ⟨C,L⟩:=D;have l1:=h.has;have l2:=h.cells;have hA:=h.cont.all;have A:=h.cont.len;have T:=h.cont;have E:=h.zK;obtain ⟨a,cap,Df⟩:=gQ h.row;subst Df;obtain ⟨i0,Y,Z,aa,ab⟩:=qw Tryz.Yu;have H:=ah h;clear h;simp only at l2 hA A T E h4
 go_enter Tryz.func58,Tryz.ntmps58
 go_wp2
 go_loopw [4] (fun i q=> ∃ (k:Nat) (c:Value),k≤L.length∧i= .int .i64 k∧fB q w.heap.size c ⟨C,L.take k⟩∧(∀ g,c.ownBlock=some g→w.heap.size<g)∧aC w q) (fun i _=>L.length - (intOf i).toNat)
 case atStart=>
  refine ⟨0,.slice none 0 0,om,rfl,?_,fun g r=>(by cases r),fC⟩;exact ⟨aX _ _,wH _ _ _ _,T,fun p hp=>by cases hp⟩
 case round=>
  obtain ⟨k,c,hk,rfl,f,s,l⟩:=hrel;have j:=H.below l
  by_cases y:k<L.length
  ·obtain ⟨m,X,U,_⟩:=gy j.row (show 0<L.length by omega);obtain ⟨rfl,rfl⟩:a=some ⟨m,0,none⟩∧cap=X:=by injection U with x1 x2 x3;exact ⟨x1,x3⟩
   have rg:=NC j.row E k y;have z:=E _ (Nz y);have m1:dU wr.drew m (k*4097) 4097:=sU (w:=wr) rg (zJ z);have m2:dO wr.drew m (k*4097) 4097=gu (iU L k):=qU (w:=wr) rg (zJ z);have ai:(k:Int)<(L.length:Int):=om;have c2:wr.cell? ⟨d,4096,none⟩=some (.slice (some ⟨m,0,none⟩) L.length cap):=j.xE;have c0:wr.drew.cell? ⟨d,4096,none⟩=some (.slice (some ⟨m,0,none⟩) L.length cap):=j.xE;have c1:wr.drew.cell? ⟨w.heap.size,4096,none⟩=some c:=f.xE;have c3: ∀ o,(wr.alloc o).drew.cell? ⟨w.heap.size,4096,none⟩=some c:=fun o=>(NY wr o _ f.lt).trans f.xE;have c4: ∀ o,(wr.alloc o).drew.cell? ⟨d,4096,none⟩=some (.slice (some ⟨m,0,none⟩) L.length cap):=fun o=>(NY wr o _ j.lt).trans j.xE;have V:L.take (k+1)=L.take k++[iU L k]:=by
    rw [x9 y];unfold iU;rw [aN,bJ y];rfl
   have N:(L.take k).length=k:=by simp;omega
   have K:wr.ownsRow 0 139 4097 c k ((L.take k).flatMap gu):=by have:=f.row;simp only [N] at this;exact this
   have O: ∀ g,c.ownBlock=some g→g≠w.heap.size:=fun g r e=>by have:=s g r;omega
   have n:=ah f;have fA:=ah K;have F:=ah l;have Ht:=ah V;have G:=ah O;have B:=ah s;have ad:=l.size;have al:=f.lt;clear j rg U f K l V O s N;generalize an:iU L k=u at*;go_wp2
   go_region_law (
    refine JZ _ (by rfl) _ _ _ (by rfl) 0 139 i0 _ 4097 4112 Tryz.underlying68 Y Z aa ab (by rw [show (Value.agg (gu ⟨[],zD⟩).toArray).cells.size=(gu ⟨[],zD⟩).length from by simp [Value.cells]];exact zJ (p:=⟨[],zD⟩) ⟨NV,NW⟩) om c k ((L.take k).flatMap gu) (by rfl) ((bV (S:=fun _=>False) ((Kept.refl _ wr).drew) fA (fun _ _=>id)).alloc _) ⟨wr.heap.size,0,none⟩ 1 1 (gu u) (by rfl) (by rw [zJ z]) (pJ (cs:=(gu u).toArray) (t:=139) (fr:=(0,0)) (aX wr.drew _)) (Zd u) om (by unfold maxLen;omega) om om (wr.heap.size+1) sm ?_;intro g5 cap5 I J v ae uP;have W:=ah (qW v (n.below (((bG _ wr).drew).alloc (aO _) _)).aG G);have c5:I.cell? ⟨w.heap.size,4096,none⟩=some c:=(aF W 4096).trans (by rw [← aF n.aG];exact n.xE);have z5: ∀ i,I.frozen? ⟨w.heap.size,i,none⟩=false:=fun i=>eY W i)
   all_goals
    have af:g5≠w.heap.size∧w.heap.size<g5:=by
     rcases ae with x | x
     ·exact ⟨uh G g5 x,uh B g5 x⟩
     ·omega
    have S1:=ah (F.alloc ad (.cells (gu u).toArray 139));have S2:=ah ((S1.drew.grown v (by simp;omega) (fun k hk=>by have:=uh B k hk;omega)).setCell (p:=⟨w.heap.size,4096,none⟩) (aO _) (.slice (some ⟨g5,0,none⟩) (k+1) cap5));have P:fB (I.setCell ⟨w.heap.size,4096,none⟩ (.slice (some ⟨g5,0,none⟩) (k+1) cap5)) w.heap.size (.slice (some ⟨g5,0,none⟩) (k+1) cap5) ⟨C,L.take (k+1)⟩:=by
     have A:(L.take k).length=k:=by simp;omega
     have:=(n.below (((bG _ wr).drew).alloc (aO _) (.cells (gu u).toArray 139))).acK (g5:=g5) (cap5:=cap5) z G v (by rw [A];exact J) af.1
     rw [A] at this;rw [uh Ht];exact this
    have ag:=ah P;clear P v J;go_wp2;go_roundw
    case rel=>exact ⟨k+1,_,om,gn,uh ag,fun g r=>(by simp only [Value.ownBlock,jH] at r;omega),uh S2⟩
    case measure=>exact bW
  ·have c2:wr.cell? ⟨d,4096,none⟩=some (.slice a L.length cap):=j.xE;have Q:k=L.length:=om;have M:fB wr w.heap.size c ⟨C,L⟩:=by rw [Q,H7] at f;exact f
   have n:=ah M;have F:=ah l;have B:=ah s;clear j f M l Q s;go_wp2;go_ret;exact ⟨c,rfl,uh n,uh B,uh F⟩
def BO (a:List kD) (s:ByteArray):Nat→Nat→Int
 | 0,_=> -1
 | m+1,k=>if bM (iU a k).name=s then (k:Int) else BO a s m (k+1)
def yL (D:dR) (s:ByteArray):Int:=BO D.L s D.L.length 0
def alh {w:World} {g k:Nat} {a:List kD} (h:w.rangeAt g (k*4097) (gu (iU a k))):w.cell? ⟨g,k*4097,none⟩=some (.string (bM (iU a k).name)):=by
 have:=h 0 (.string (bM (iU a k).name)) rfl
 rw [jW] at this;exact this
def aeh (w:World) (d:Nat) (Pv:Value) (D:dR) (h:fB w d Pv D) (p:D.L.length≤1000) (s:ByteArray):
  Calls Tryz.prog 120 #[.pointer (some ⟨d,0,none⟩),.string s] w fun e g=>e= .returned (.int .i64 (yL D s))∧g=w:=by
 obtain ⟨C,L⟩:=D;obtain ⟨a,cap,r⟩:=gQ h.row;subst r;simp only at p;have c0:w.cell? ⟨d,4096,none⟩=some (.slice a L.length cap):=h.xE;have j:Hid (yL ⟨C,L⟩ s=BO L s L.length 0):=rfl;have H:=ah h;clear h
 go_enter Tryz.func120,Tryz.ntmps120
 go_wp2
 go_loopw [5] (fun i g=> ∃ k:Nat,k≤L.length∧i= .int .i64 k∧g=w∧BO L s L.length 0=BO L s (L.length - k) k) (fun i _=>L.length - (intOf i).toNat)
 case atStart=>exact ⟨0,om,rfl,rfl,rfl⟩
 case round=>
  obtain ⟨k,hk,rfl,rfl,c⟩:=hrel
  by_cases n:k<L.length
  ·obtain ⟨t,m,l,_⟩:=gy H.row (show 0<L.length by omega);obtain ⟨rfl,rfl⟩:a=some ⟨t,0,none⟩∧cap=m:=by injection l with u y v;exact ⟨u,v⟩
   have rg:=NC H.row H.zK k n;have c1:=alh rg;have x:(k:Int)<(L.length:Int):=om;rw [show L.length - k=(L.length - (k+1))+1 by omega,BO] at c;clear rg l;generalize bM (iU L k).name=q at*
   by_cases h0:q=s
   ·rw [au h0] at c;have f:=ah c;subst h0;clear c;go_wp2;go_ret;exact ⟨by rw [uh j,uh f];rfl,by first | rfl | trivial⟩
   ·rw [ak h0] at c;have f:=ah c;have z:(q.toList == s.toList)=false:=lY.2 (fun he=>h0 (afk (by rw [← aaJ,← aaJ];exact he)));clear c;go_wp2;go_roundw
    case rel=>exact ⟨k+1,om,gn,by first | rfl | trivial,uh f⟩
    case measure=>exact bW
  ·have o:k=L.length:=om;have f:Hid (BO L s L.length 0= -1):=by
    show _=_;rw [c,o,Bg];rfl
   clear c;go_wp2;go_ret;exact ⟨by rw [uh j,uh f];rfl,by first | rfl | trivial⟩
def alM (a:List kD) (s:ByteArray): ∀ m k,0≤BO a s m k→ ∃ i,k≤i∧i<k+m∧BO a s m k=(i:Int)
 | 0,k,h=>by simp [BO] at h
 | m+1,k,h=>by
  rw [BO] at h ⊢;split
  ·exact ⟨k,om,om,rfl⟩
  ·rename_i hn;rw [ak hn] at h;obtain ⟨i,d,e,c⟩:=alM a s m (k+1) h;exact ⟨i,om,om,c⟩
def qh (D:dR) (s:ByteArray):Int × Nat:=if nZ s.data.toList=false then (-1,2) else if yL D s<0 then (-1,4) else (yL D s,0)
def ae0 (D:dR) (s:ByteArray):(qh D s=(-1,2)∨qh D s=(-1,4))∨ ∃ i,i<D.L.length∧qh D s=(((i:Nat):Int),0):=by
 unfold qh;split
 ·exact aA (aA rfl)
 ·split
  ·exact aA (ay rfl)
  ·rename_i h;obtain ⟨i,_,d,a⟩:=alM D.L s D.L.length 0 (by unfold yL at h;omega);have c:yL D s=(i:Int):=a;exact ay ⟨i,om,by rw [c]⟩
def ae1 (w:World) (d:Nat) (Pv:Value) (D:dR) (h:fB w d Pv D) (g:D.L.length≤1000) (s:ByteArray) (hs:s.size≤maxLen):
  Calls Tryz.prog 123 #[.pointer (some ⟨d,0,none⟩),.string s] w fun e i=>e= .returned (.tuple #[.int .i64 (qh D s).1,.int .i64 ((qh D s).2:Nat)])∧aC w i:=by
 have j:=ah (ade s w hs);have k:=ah (aeh w d Pv D h g s);have a:Hid (qh D s=if nZ s.data.toList=false then (-1,2) else if yL D s<0 then (-1,4) else (yL D s,0)):=rfl;clear h;generalize nZ s.data.toList=b at*;generalize yL D s=f at*
 go_enter Tryz.func123,Tryz.ntmps123
 go_wp2_with fail
 refine j.mono ?_;rintro e m ⟨rfl,rfl⟩
 go_wp2_with fail
 refine k.mono ?_;rintro e n ⟨rfl,rfl⟩;cases b with
 | false=>
  rw [au rfl] at a;go_wp2;go_ret2;exact ⟨by rw [uh a];rfl,bG _ _⟩
 | true=>
  rw [ak dc] at a
  by_cases c:f<0
  ·have l:decide (f<0)=true:=dZ c;rw [au c] at a;go_wp2;go_ret2;exact ⟨by rw [uh a];rfl,bG _ _⟩
  ·have l:decide (f<0)=false:=gK c;rw [ak c] at a;go_wp2;go_ret2;exact ⟨by rw [uh a];rfl,bG _ _⟩
def RX (D:dR) (s:ByteArray) (n:Int):aj × Nat:=
 if (qh D s).2=0 then if jY n then (cl (iU D.L (qh D s).1.toNat).C n.toNat,0) else (zc,1) else (zc,(qh D s).2)
def auh {w:World} {g k:Nat} {a:List kD} (c: ∀ p ∈ a,uJ p.C) (hk:k<a.length) (h:w.rangeAt g (k*4097) (gu (iU a k))) (b:Nat) (f:b<64):w.rangeAt g (k*4097+1+b*64) (cv (cl (iU a k).C b)):=by
 have hc:=c _ (Nz hk);intro j v hv;have d:=je hc.all (k:=b) (by have:=hc.len;omega);have hj:=(Ia.1 hv).1;rw [bC,d] at hj;have e:=h ((b*64+j)+1) v (by
  unfold gu;rw [Gg,QM _ hc.all b (by have:=hc.len;omega) j hj];exact hv)
 rw [show k*4097+1+b*64+j=k*4097+((b*64+j)+1) by omega];exact e
def aui {w:World} {g k:Nat} {a:List kD} (h:w.rangeAt g (k*4097) (gu (iU a k))):w.rangeAt g (k*4097+1) (aS (iU a k).C):=by
 intro j v hv;have c:=h (j+1) v (by unfold gu;rw [Gg];exact hv);rw [show k*4097+1+j=k*4097+(j+1) by omega];exact c
def auR (w:World) (d:Nat) (Pv:Value) (D:dR) (h:fB w d Pv D) (B:D.L.length≤1000) (s:ByteArray) (hs:s.size≤maxLen) (n:Int):
  Calls Tryz.prog 127 #[.pointer (some ⟨d,0,none⟩),.string s,.int .i64 n] w fun e J=>e= .returned (.tuple #[.agg (cv (RX D s n).1).toArray,.int .i64 ((RX D s n).2:Nat)])∧aC w J:=by
 obtain ⟨C,L⟩:=D;have o:=dW.one w (.cells (cv zc).toArray 38);have l:=ah (ae1 _ d Pv ⟨C,L⟩ (h.below o.below) B s hs);have H:=ah h;have o:=ah o;obtain ⟨a,cap,K⟩:=gQ h.row;subst K;simp only at B;have j:Hid (RX ⟨C,L⟩ s n=if (qh ⟨C,L⟩ s).2=0 then if jY n then (cl (iU L (qh ⟨C,L⟩ s).1.toNat).C n.toNat,0) else (zc,1) else (zc,(qh ⟨C,L⟩ s).2)):=rfl;have y:Hid (∀ W,_):=fun W=>Yw n W;clear h;rcases (show (∃ m,m≠0∧qh ⟨C,L⟩ s=(-1,m))∨ ∃ i,i<L.length∧qh ⟨C,L⟩ s=(((i:Nat):Int),0) by
  rcases ae0 ⟨C,L⟩ s with (e | e) | ⟨i,hi,e⟩
  ·exact aA ⟨2,dc,e⟩
  ·exact aA ⟨4,dc,e⟩
  ·exact ay ⟨i,hi,e⟩) with ⟨m,hm,e⟩ | ⟨i,hi,e⟩
 ·rw [e,ak hm] at j;rw [e] at l;dsimp only at l j;have S:(((m:Nat):Int) != 0)=true:=by rw [ou];omega
  clear e
  go_enter Tryz.func127,Tryz.ntmps127
  go_wp2_with fail
  refine l.mono ?_;rintro e z ⟨rfl,p⟩;have g:=o.later p;have E:=iW g.o0 0 64 (by simp [bC,aV]);have f:=g.setCells 0 rfl 0 (cv zc);rw [jW,qL _ _ (by simp [bC,aV])] at f;have t:=iD f.o0 aV;have u:=iC f.o0 aV;have x:=ah f.below;clear f g p l o;go_wp2;rw [uh j];refine iy (v:= .tuple #[.agg (cv zc).toArray,.int .i64 (m:Nat)]) (by rw [FZ Tryz.results127];simp only [dw];simp [asAddr,dM t,u]) rfl ⟨rfl,uh x⟩
 ·rw [e] at j l;dsimp only at l j;rw [au rfl,tZ] at j;cases hb:jY n with
  | false=>
   rw [hb,ak dc] at j;rw [hb] at y;clear e
   go_enter Tryz.func127,Tryz.ntmps127
   go_wp2_with fail
   refine l.mono ?_;rintro e z ⟨rfl,p⟩;have g:=o.later p;have E:=iW g.o0 0 64 (by simp [bC,aV]);have f:=g.setCells 0 rfl 0 (cv zc);rw [jW,qL _ _ (by simp [bC,aV])] at f;have t:=iD f.o0 aV;have u:=iC f.o0 aV;have x:=ah f.below;clear f g p l o
   go_wp2_with fail
   refine (uh y _).mono ?_;rintro e M ⟨rfl,rfl⟩;go_wp2;rw [uh j];refine iy (v:= .tuple #[.agg (cv zc).toArray,.int .i64 1]) (by rw [FZ Tryz.results127];simp only [dw];simp [asAddr,dM t,u]) rfl ⟨rfl,uh x⟩
  | true=>
   rw [hb,au rfl] at j;rw [hb] at y;have hn:0≤n∧n<64:=by simpa [jY] using hb
   obtain ⟨k,rfl⟩:=Cj hn.1;rw [tZ] at j;have hk:k<64:=om;have P:(k:Int)<64:=om;have Q:(i:Int)<(L.length:Int):=om;obtain ⟨F,I,G,_⟩:=gy H.row (show 0<L.length by omega);obtain ⟨rfl,rfl⟩:a=some ⟨F,0,none⟩∧cap=I:=by injection G with N T O;exact ⟨N,O⟩
   clear e G hb hn
   go_enter Tryz.func127,Tryz.ntmps127
   go_wp2_with fail
   refine l.mono ?_;rintro e z ⟨rfl,p⟩;have g:=o.later p;have q:=H.below g.below;have c1:z.cell? ⟨d,4096,none⟩=some (.slice (some ⟨F,0,none⟩) L.length cap):=q.xE;have A:=q.zK _ (Nz hi);have r:=je A.all (k:=k) (by have:=A.len;omega);have rg:=auh q.zK hi (NC q.row q.zK i hi) k hk;have U:=sU (n:=64) rg (by rw [bC,r]);have V:=qU (n:=64) rg (by rw [bC,r]);have E:=iW g.o0 0 64 (by simp [bC,aV]);generalize cl (iU L i).C k=c at*;have f:=g.setCells 0 rfl 0 (cv c);rw [jW,qL _ _ (by simp [bC,aV,r])] at f;have t:=iD f.o0 r;have u:=iC f.o0 r;have x:=ah f.below;clear f g p l o q rg
   go_wp2_with fail
   refine (uh y _).mono ?_;rintro e M ⟨rfl,rfl⟩;go_wp2;rw [uh j];refine iy (v:= .tuple #[.agg (cv c).toArray,.int .i64 0]) (by rw [FZ Tryz.results127];simp only [dw];simp [asAddr,dM t,u]) rfl ⟨rfl,uh x⟩
end
end Go.Proofs.YtknjjjenklfeoaaGreatDoor
