import Derived.Test.YtknjjjenklfeoaaGreatDoorU01
set_option maxHeartbeats 8000000
set_option maxRecDepth 100000
set_option linter.all false
namespace Go.Proofs.YtknjjjenklfeoaaGreatDoor
open Go.RowKit
section
attribute [local go_sem ↓] dw
attribute [local go_sem] dM
def sZ (R:aU) (t:Nat):Nat→Nat→Nat→Option Nat
 | 0,_,acc=>some acc
 | m+1,k,acc=>
  if num (cl R.L t) (2*k)=0 then sZ R t m (k+1) acc
  else if pF R (num (cl R.L t) (2*k)) then none
  else sZ R t m (k+1) (acc+sW R (num (cl R.L t) (2*k)))
def vI (R:aU) (t:Nat):Nat→Nat→Nat→Int × Nat
 | 0,_,acc=>(-1,acc)
 | m+1,i,acc=>
  if num (cl R.L t) (2*i)=0 then vI R t m (i+1) acc
  else if pF R (num (cl R.L t) (2*i)) then (t,0)
  else match sZ R (num (cl R.L t) (2*i)%32768) 32 0 (acc+sW R (num (cl R.L t) (2*i))) with
   | none=>(((num (cl R.L t) (2*i)%32768:Nat):Int),0)
   | some a=>vI R t m (i+1) a
def marked (R:aU) (r:bI):Int × Nat:=vI R r.N 2 0 0
structure rX (L:List aj) (t:Nat):Prop where
 at':t<L.length
 second: ∀ i,i<2→num (cl L t) (2*i)≠0→num (cl L t) (2*i)%32768<L.length
 block: ∀ i,i<2→num (cl L t) (2*i)≠0→ ∀ k,k<32→num (cl L (num (cl L t) (2*i)%32768)) (2*k)%32768<L.length
def YI (R:aU) (x:Nat):sW R x≤1:=by
 unfold sW;split
 ·omega
 ·split <;> omega
def akq (w:World) (f:Nat) (Lv G:Value) (R:aU) (r:bI) (h:bY w f Lv G R) (jF:R.L.length≤256) (ae:5≤R.L.length) (j:rX R.L r.N) (aa:vk 1000000 R):
  Calls Tryz.prog 78 #[.pointer (some ⟨f,0,none⟩),.agg (iE r).toArray] w fun e u=>
   e= .returned (.tuple #[.int .i64 (marked R r).1,.int .i64 ((marked R r).2:Nat)])∧aC w u:=by
 have hB:aC w (w.alloc (.cells (iE r).toArray 132)):=fC;have b0:(w.alloc (.cells (iE r).toArray 132)).cell? ⟨w.heap.size,0,none⟩=some (.int .i64 (r.N:Nat)):=by rw [wM];rfl
 have h0:=h.below hB;obtain ⟨g,cap,rfl,hc⟩:=gy h.fJ om;have v:=ah hB;clear hB;have aM:(r.N:Int)<(R.L.length:Int):=by have:=j.at';omega
 have ab:marked R r=vI R r.N 2 0 0:=rfl;have CQ:=ah ab;clear ab;have Ik:=ah j
 go_enter Tryz.func78,Tryz.ntmps78
 go_wp2;generalize w.alloc (.cells (iE r).toArray 132)=W at*
 go_loopw [6,7] (fun n i u=> ∃ k a:Nat,k≤2∧a≤33*k∧i= .int .i64 k∧n= .int .i64 a∧aC W u∧marked R r=vI R r.N (2 - k) k a) (fun _ i _=>2 - (intOf i).toNat)
 case atStart=>exact ⟨0,0,om,om,rfl,rfl,bG _ _,uh CQ⟩
 case round=>
  obtain ⟨k,a,hk,ha,rfl,rfl,l,he⟩:=hrel;have U:=ah he;clear he CQ
  by_cases af:k<2
  ·have J:wr.cell? ⟨w.heap.size,0,none⟩=some (.int .i64 (r.N:Nat)):=by
    rw [l.cell (p:=⟨w.heap.size,0,none⟩) (World.block_lt_of_cell? _ _ b0)];exact b0
   have hr:=h0.below l;have H: ∀ d os,bY (Go.Sort.grow (redrawn wr d) os) f _ _ R:=fun d os=>hr.below (lJ wr d os);have c0:=fun d os=>(H d os).vF;have cx:=fun d os=>Jm J d os;have V:=fun d os=>oQ (H d os).fJ h.lens _ j.at';have X:=fun d os=>oP (H d os).fJ h.lens _ j.at';have hlen:=je h.lens j.at';have o:=ah (fun d os=>FD (cl R.L r.N) (2*(k:Int)) (Go.Sort.grow (redrawn wr d) os) hlen om om);rw [show (2*(k:Int)).toNat=2*k by omega] at o;have ax:=iK (cl R.L r.N) (2*k);have mG:=j.second k af;have ad:=j.block k af;have Z:marked R r=(if num (cl R.L r.N) (2*k)=0 then vI R r.N (2 - (k+1)) (k+1) a
     else if pF R (num (cl R.L r.N) (2*k)) then ((r.N:Int),0)
     else match sZ R (num (cl R.L r.N) (2*k)%32768) 32 0 (a+sW R (num (cl R.L r.N) (2*k))) with
      | none=>(((num (cl R.L r.N) (2*k)%32768:Nat):Int),0)
      | some a=>vI R r.N (2 - (k+1)) (k+1) a):=by
    rw [uh U,show 2 - k=(2 - (k+1))+1 by omega,vI]
   generalize num (cl R.L r.N) (2*k)=x at*;have s:=ah Z;clear Z H;have Qw:=ah ad;clear ad U;go_wp2;refine DJ kr kr ?_
   repeat (go_big_quiet_step (exact Aj (uh o _ _)))
   refine DK ?_;intro _ az;obtain ⟨⟨I,B⟩,ag⟩:=az;subst ag;clear c0 cx V X o;have ai:=l.trans ((lJ wr I B).mono l.size);have C:=hr.below (lJ wr I B);have UL:=Jm J I B;clear J l hr;generalize Go.Sort.grow (redrawn wr I) B=w2 at*;have D:=ah ai;clear ai
   by_cases E:x=0
   ·subst E;clear C;go_wp2;go_roundw
    case rel=>exact ⟨k+1,a,om,om,gn,rfl,uh D,by rw [uh s];rfl⟩
    case measure=>exact bW
   ·have dx:((x:Int) == 0)=false:=by rw [lY];omega
    have K:=mG E;have A:=ah (akm w2 f _ G R C x om ax ae aa);have aD:=YI R x;rw [ak E] at s;have al:=ah C;clear C mG
    go_wp2_with fail
    refine A.mono ?_;rintro e w3 ⟨rfl,rfl⟩;clear A;cases hbad:pF R x with
    | true=>
     rw [hbad] at s;clear hbad;go_wp2;go_ret2;refine ⟨?_,v.trans (D.mono v.size)⟩;rw [uh s];rfl
    | false=>
     rw [hbad] at s;clear hbad;generalize sW R x=q at*;clear UL;have Y:marked R r=match sZ R (x%32768) 32 0 (a+q) with
      | none=>(((x%32768:Nat):Int),0)
      | some a=>vI R r.N (2 - (k+1)) (k+1) a:=by rw [uh s];rfl
     have M:=ah Y;clear Y s;generalize hT:sZ R (x%32768) 32 0 (a+q)=T at M;have HT:=ah hT;clear hT;have aR:(x:Int)%32768<(R.L.length:Int):=om;go_wp2
     go_loopw [6,11] (fun n i u=> ∃ m c:Nat,m≤32∧c≤33*k+1+m∧i= .int .i64 m∧n= .int .i64 c∧aC W u∧bY u f (.slice (some ⟨g,0,none⟩) R.L.length cap) G R∧sZ R (x%32768) (32 - m) m c=T) (fun _ i _=>32 - (intOf i).toNat)
     case atStart=>exact ⟨0,a+q,om,om,rfl,gn,uh D,uh al,uh HT⟩
     case round=>
      obtain ⟨m,c,hm,a0,rfl,rfl,F,b,an⟩:=hrel;have O:=ah an;clear an HT D al
      by_cases ao:m<32
      ·have c0:=b.vF;have V:=oQ b.fJ b.lens _ K;have X:=oP b.fJ b.lens _ K;have o:=ah (FD (cl R.L (x%32768)) (2*(m:Int)) wr (je h.lens K) om om);rw [show (2*(m:Int)).toNat=2*m by omega] at o;have aE:=iK (cl R.L (x%32768)) (2*m);have a1:=uh Qw E m ao;have aq:(if num (cl R.L (x%32768)) (2*m)=0 then sZ R (x%32768) (32 - (m+1)) (m+1) c
         else if pF R (num (cl R.L (x%32768)) (2*m)) then none
         else sZ R (x%32768) (32 - (m+1)) (m+1) (c+sW R (num (cl R.L (x%32768)) (2*m))))=T:=by
        rw [← uh O,show 32 - m=(32 - (m+1))+1 by omega,sZ]
       generalize num (cl R.L (x%32768)) (2*m)=y at*;have t:=ah aq;have ar:=ah b;clear aq O b;have z:=ah F;clear F
       go_wp2_with fail
       refine o.mono ?_;rintro e w4 ⟨rfl,P⟩;have Q:=ah (ar.below P);have S:=ah (z.trans (P.mono z.size));clear o P ar z c0 V X
       by_cases av:y=0
       ·subst av;go_wp2;go_roundw
        case rel=>exact ⟨m+1,c,om,om,gn,rfl,uh S,uh Q,by rw [← uh t];rfl⟩
        case measure=>exact bW
       ·have dy:((y:Int) == 0)=false:=by rw [lY];omega
        have A:=ah (akm w4 f _ G R Q y om aE ae aa);have aD:=YI R y;rw [ak av] at t
        go_wp2_with fail
        refine A.mono ?_;rintro e w5 ⟨rfl,rfl⟩;clear A;cases hbad:pF R y with
        | true=>
         rw [hbad] at t;clear hbad;go_wp2;go_ret2;refine ⟨?_,v.trans (S.mono v.size)⟩;rw [uh M,← uh t];rfl
        | false=>
         rw [hbad] at t;clear hbad;generalize sW R y=p at*;go_wp2;go_roundw
         case rel=>exact ⟨m+1,c+p,om,om,gn,gn,uh S,uh Q,by rw [← uh t];rfl⟩
         case measure=>exact bW
      ·have aw:m=32:=om;subst aw;have z:=ah F;clear F b;go_wp2;go_roundw
       case rel=>
        refine ⟨k+1,c,om,om,gn,rfl,uh z,?_⟩;rw [uh M,← uh O];rfl
       case measure=>exact bW
  ·have aL:k=2:=om;subst aL;have Hb:=ah l;clear l;go_wp2;go_ret2;refine ⟨?_,v.trans (Hb.mono v.size)⟩;rw [uh U];rfl
end
def yI (R:aU) (n:Nat):Bool:=R.used.getD n 0 == 0 && decide (0<aQ R.L n)
def Ah (R:aU) (n:Nat):Bool:=decide (0<R.used.getD n 0)
def yJ (R:aU) (n:Nat):Bool:=decide (0<R.used.getD n 0) && decide (R.used.getD n 0<aQ R.L n)
def Bd (R:aU):Nat→Nat
 | 0=>0
 | k+1=>Bd R k+(marked R (rootOf R k)).2
structure Kv where
 Gt:Nat
 used:Nat
 lost:Nat
 over:Nat
 SC:Nat
def Dz (R:aU):Kv:=⟨R.L.length,bF (Ah R) R.L.length,bF (yI R) R.L.length,bF (yJ R) R.L.length,Bd R R.roots.length⟩
def jG (s:Kv):List Value:=[.int .i64 s.Gt,.int .i64 s.used,.int .i64 s.lost,.int .i64 s.over,.int .i64 s.SC]
def adC (R:aU) (t:Nat): ∀ m k acc a,sZ R t m k acc=some a→a≤acc+m
 | 0,_,_,_,h=>by simp [sZ] at h;omega
 | m+1,k,acc,a,h=>by
  rw [sZ] at h
  split at h
  ·have:=adC R t m _ _ _ h;omega
  ·split at h
   ·cases h
   ·have:=adC R t m _ _ _ h
    have:=YI R (num (cl R.L t) (2*k))
    omega
def adH (R:aU) (t:Nat): ∀ m i acc,(vI R t m i acc).2≤acc+33*m
 | 0,_,_=>by simp [vI]
 | m+1,i,acc=>by
  rw [vI];split
  ·have:=adH R t m (i+1) acc;omega
  ·split
   ·show (0:Nat)≤_;omega
   ·split
    ·show (0:Nat)≤_;omega
    ·rename_i a b;have c:=adC R _ _ _ _ _ b;have d:=adH R t m (i+1) a
     have:=YI R (num (cl R.L t) (2*i))
     omega
def akr (R:aU) (r:bI):(marked R r).2≤66:=by have:=adH R r.N 2 0 0;unfold marked;omega
def amX (R:aU): ∀ m,Bd R m≤66*m
 | 0=>aO _
 | m+1=>by have:=amX R m;have:=akr R (rootOf R m);simp only [Bd];omega
structure Kw (w w':World) (z s:List Value):Prop where
 below:aC w w'
 one:w'.heap[w.heap.size]? = some (.cells z.toArray 51 (0,0))
 two:w'.heap[w.heap.size+1]? = some (.cells s.toArray 51 (0,0))
def Kw.set {w a:World} {z s:List Value} (h:Kw w a z s) (i:Nat) (v:Value):Kw w (a.setCell ⟨w.heap.size+1,i,none⟩ v) z (s.set i v):=
 ⟨h.below.setCell sm _,by rw [Tv _ _ _ _ sm];exact h.one,by rw [heap_setCell_same _ _ _ _ _ _ _ h.two,Bh]⟩
def Kw.later {w a c:World} {z s:List Value} (h:Kw w a z s) (b:Below a.heap.size a c):Kw w c z s:=
 ⟨h.below.trans (b.mono h.below.size),by rw [b.block _ (aK h.one)];exact h.one,by rw [b.block _ (aK h.two)];exact h.two⟩
def zs5:List Value:=[.int .i64 0,.int .i64 0,.int .i64 0,.int .i64 0,.int .i64 0]
def aeN (w:World) (f:Nat) (Lv Rv:Value) (R:aU) (h:bY w f Lv Rv R) (jF:R.L.length≤256) (J:5≤R.L.length) (ag:R.roots.length≤5) (aa: ∀ i,i<R.roots.length→rX R.L (rootOf R i).N) (I:vk 1000000 R):
  Calls Tryz.prog 42 #[.pointer (some ⟨f,0,none⟩)] w fun e s=>
   e= .returned (.agg (jG (Dz R)).toArray)∧aC w s:=by
 have c0:=h.vF;have ai:=h.lt;obtain ⟨a,cap,rfl⟩:=gQ h.fJ;obtain ⟨a2,Y,rfl⟩:=gQ h.pG;have S:Kw w ((w.alloc (.cells zs5.toArray 51)).alloc (.cells (jG ⟨R.L.length,0,0,0,0⟩).toArray 51)) zs5 (jG ⟨R.L.length,0,0,0,0⟩):=by
  refine ⟨(fC).alloc sm _,?_,?_⟩
  ·rw [jX _ _ _ sm];exact aX _ _
  ·have:=aX (w.alloc (.cells zs5.toArray 51)) (.cells (jG ⟨R.L.length,0,0,0,0⟩).toArray 51)
   simpa using this
 have T:=ah S;clear S
 go_enter Tryz.func42,Tryz.ntmps42
 go_wp2
 go_loopw [4] (fun i s=> ∃ k:Nat,k≤R.L.length∧i= .int .i64 k∧Kw w s zs5 (jG ⟨R.L.length,bF (Ah R) k,bF (yI R) k,bF (yJ R) k,0⟩)) (fun i _=>R.L.length - (intOf i).toNat)
 case atStart=>exact ⟨0,om,rfl,uh T⟩
 case round=>
  obtain ⟨k,hk,rfl,b⟩:=hrel;clear T;have hr:=h.below b.below;clear c0;have c0:=hr.vF
  by_cases al:k<R.L.length
  ·have cu:=hr.Ud k om;have hu:=I k;have C:=ah (Uk wr f _ _ R hr (k:Int) om om J);rw [tZ] at C;have hq:=ab7 R.L k;have U:bF (Ah R) (k+1)=bF (Ah R) k+if 0<R.used.getD k 0 then 1 else 0:=by simp [bF,Ah]
   have K:bF (yI R) (k+1)=bF (yI R) k+if R.used.getD k 0=0∧0<aQ R.L k then 1 else 0:=by simp [bF,yI]
   have V:bF (yJ R) (k+1)=bF (yJ R) k+if 0<R.used.getD k 0∧R.used.getD k 0<aQ R.L k then 1 else 0:=by simp [bF,yJ]
   have l1:=QI (Ah R) k;have l2:=QI (yI R) k;have l3:=QI (yJ R) k;have s1:wr.cell? ⟨w.heap.size+1,1,none⟩=some (.int .i64 (bF (Ah R) k:Nat)):=by rw [aF b.two];rfl
   have s2:wr.cell? ⟨w.heap.size+1,2,none⟩=some (.int .i64 (bF (yI R) k:Nat)):=by rw [aF b.two];rfl
   have s3:wr.cell? ⟨w.heap.size+1,3,none⟩=some (.int .i64 (bF (yJ R) k:Nat)):=by rw [aF b.two];rfl
   have ab: ∀ i,wr.frozen? ⟨w.heap.size+1,i,none⟩=false:=fun i=>eY b.two i;have an: ¬ f=w.heap.size+1:=om;generalize aQ R.L k=q at*;generalize R.used.getD k 0=u at*;generalize bF (Ah R) k=d at*;generalize bF (yI R) k=g at*;generalize bF (yJ R) k=j at*;have y:=ah U;have z:=ah K;have A:=ah V;have c:=ah b;clear U K V b hr
   go_wp2_with fail
   refine C.mono ?_;rintro e D ⟨rfl,rfl⟩;clear C
   by_cases ad:u=0
   ·subst ad
    by_cases ao:0<q
    ·have E:decide ((0:Int)<(q:Int))=true:=by simp;omega
     go_wp2;go_roundw
     case rel=>
      refine ⟨k+1,om,gn,?_⟩;have l:bF (Ah R) (k+1)=d:=by have e:=uh y;split at e <;> omega
      have n:bF (yI R) (k+1)=g+1:=by have e:=uh z;rw [au (And.intro trivial om)] at e;exact e
      have o:bF (yJ R) (k+1)=j:=by have e:=uh A;split at e <;> omega
      rw [l,n,o];exact c.set 2 (.int .i64 ((g:Int)+1))
     case measure=>exact bW
    ·have E:decide ((0:Int)<(q:Int))=false:=by simp;omega
     go_wp2;go_roundw
     case rel=>
      refine ⟨k+1,om,gn,?_⟩;have l:bF (Ah R) (k+1)=d:=by have e:=uh y;split at e <;> omega
      have n:bF (yI R) (k+1)=g:=by have e:=uh z;split at e <;> omega
      have o:bF (yJ R) (k+1)=j:=by have e:=uh A;split at e <;> omega
      rw [l,n,o];exact uh c
     case measure=>exact bW
   ·have d1:((u:Int) == 0)=false:=by rw [lY];omega
    have d2:decide ((0:Int)<(u:Int))=true:=by simp;omega
    by_cases Yq:u<q
    ·have E:decide ((u:Int)<(q:Int))=true:=by simp;omega
     go_wp2;go_roundw
     case rel=>
      refine ⟨k+1,om,gn,?_⟩;have l:bF (Ah R) (k+1)=d+1:=by have e:=uh y;split at e <;> omega
      have n:bF (yI R) (k+1)=g:=by have e:=uh z;split at e <;> omega
      have o:bF (yJ R) (k+1)=j+1:=by have e:=uh A;split at e <;> omega
      rw [l,n,o];exact (c.set 1 (.int .i64 ((d:Int)+1))).set 3 (.int .i64 ((j:Int)+1))
     case measure=>exact bW
    ·have E:decide ((u:Int)<(q:Int))=false:=by simp;omega
     go_wp2;go_roundw
     case rel=>
      refine ⟨k+1,om,gn,?_⟩;have l:bF (Ah R) (k+1)=d+1:=by have e:=uh y;split at e <;> omega
      have n:bF (yI R) (k+1)=g:=by have e:=uh z;split at e <;> omega
      have o:bF (yJ R) (k+1)=j:=by have e:=uh A;split at e <;> omega
      rw [l,n,o];exact c.set 1 (.int .i64 ((d:Int)+1))
     case measure=>exact bW
  ·have W:k=R.L.length:=om;rw [W] at b;have c:=ah b;have c1:=hr.CV;clear b hr W;go_wp2
   go_loopw [6] (fun i s=> ∃ m:Nat,m≤R.roots.length∧i= .int .i64 m∧Kw w s zs5 (jG ⟨R.L.length,bF (Ah R) R.L.length,bF (yI R) R.L.length,bF (yJ R) R.L.length,Bd R m⟩)) (fun i _=>R.roots.length - (intOf i).toNat)
   case atStart=>exact ⟨0,om,rfl,uh c⟩
   case round=>
    obtain ⟨m,hm,rfl,b⟩:=hrel;clear c c0 c1;have hr:=h.below b.below;have c1:=hr.CV
    by_cases t:m<R.roots.length
    ·have r:=hr.pG;obtain ⟨g2,Z,X,_⟩:=gy r om;obtain ⟨rfl,rfl⟩:a2=some ⟨g2,0,none⟩∧Y=Z:=by injection X with x1 x2 x3;exact ⟨x1,x3⟩
     have r0:=yN r m t 0 om;have F:=yN r m t 1 om;have G:=yN r m t 2 om;rw [show R.roots.getD m ⟨0,0,[]⟩=rootOf R m from rfl] at r0 F G;simp only [iE,J6,Gg,jW] at r0 F G;have M:Bd R (m+1)=Bd R m+(marked R (rootOf R m)).2:=rfl;have hle:=amX R m;have aq:=akr R (rootOf R m);have H:=ah (akq wr f _ _ R (rootOf R m) hr jF J (aa m t) I);have s4:wr.cell? ⟨w.heap.size+1,4,none⟩=some (.int .i64 (Bd R m:Nat)):=by rw [aF b.two];rfl
     have Nc:(m:Int)<(R.roots.length:Int):=om;have c:=ah b;clear b hr r X;have ae:=ah M;clear M;generalize Bd R m=B at*;unfold iE at H
     go_wp2_with fail
     refine H.mono ?_;rintro e D ⟨rfl,O⟩;have x:=c.later O;have ar:D.cell? ⟨w.heap.size+1,4,none⟩=some (.int .i64 (B:Nat)):=by rw [aF x.two];rfl
     have ab: ∀ i,D.frozen? ⟨w.heap.size+1,i,none⟩=false:=fun i=>eY x.two i;have af:=ah x;clear x O H c r0 F G s4 c1;generalize (marked R (rootOf R m)).2=q at*;generalize (marked R (rootOf R m)).1=q1 at*;go_wp2;go_roundw
     case rel=>
      refine ⟨m+1,om,gn,?_⟩;rw [uh ae];exact af.set 4 (.int .i64 ((B:Int)+(q:Int)))
     case measure=>exact bW
    ·have P:m=R.roots.length:=om;have o0:wr.cell? ⟨w.heap.size,0,none⟩=some (.int .i64 0):=by rw [aF b.one];rfl
     have o1:wr.cell? ⟨w.heap.size,1,none⟩=some (.int .i64 0):=by rw [aF b.one];rfl
     have o2:wr.cell? ⟨w.heap.size,2,none⟩=some (.int .i64 0):=by rw [aF b.one];rfl
     have o3:wr.cell? ⟨w.heap.size,3,none⟩=some (.int .i64 0):=by rw [aF b.one];rfl
     have o4:wr.cell? ⟨w.heap.size,4,none⟩=some (.int .i64 0):=by rw [aF b.one];rfl
     have av: ∀ i,wr.frozen? ⟨w.heap.size,i,none⟩=false:=fun i=>eY b.one i;have s0:wr.cell? ⟨w.heap.size+1,0,none⟩=some (.int .i64 (R.L.length:Nat)):=by rw [aF b.two];rfl
     have s1:wr.cell? ⟨w.heap.size+1,1,none⟩=some (.int .i64 (bF (Ah R) R.L.length:Nat)):=by rw [aF b.two];rfl
     have s2:wr.cell? ⟨w.heap.size+1,2,none⟩=some (.int .i64 (bF (yI R) R.L.length:Nat)):=by rw [aF b.two];rfl
     have s3:wr.cell? ⟨w.heap.size+1,3,none⟩=some (.int .i64 (bF (yJ R) R.L.length:Nat)):=by rw [aF b.two];rfl
     have s4:wr.cell? ⟨w.heap.size+1,4,none⟩=some (.int .i64 (Bd R m:Nat)):=by rw [aF b.two];rfl
     rw [P] at s4;have Q:Dz R=⟨R.L.length,bF (Ah R) R.L.length,bF (yI R) R.L.length,bF (yJ R) R.L.length,Bd R R.roots.length⟩:=rfl;have gq:=ah Q;have Hb:=ah b.below;clear Q b hr P;generalize bF (Ah R) R.L.length=d at*;generalize bF (yI R) R.L.length=g at*;generalize bF (yJ R) R.L.length=j at*;generalize Bd R R.roots.length=B at*;go_wp2;rw [uh gq];refine iy (v:= .agg (jG ⟨R.L.length,d,g,j,B⟩).toArray) (by simp [results,Tryz.results42,jG,go_sem,o0,o1,o2,o3,o4]) rfl ⟨rfl,?_⟩;exact ((((Hb.setCell (p:=⟨w.heap.size,0,none⟩) (aO _) _).setCell (p:=⟨w.heap.size,1,none⟩) (aO _) _).setCell (p:=⟨w.heap.size,2,none⟩) (aO _) _).setCell (p:=⟨w.heap.size,3,none⟩) (aO _) _).setCell (p:=⟨w.heap.size,4,none⟩) (aO _) _
def zW (R:aU):Bool:=(Dz R).lost == 0 && ((Dz R).over == 0 && (Dz R).SC == 0)
def ah5 (w:World) (f:Nat) (Lv d:Value) (R:aU) (h:bY w f Lv d R) (q:R.L.length≤256) (n:5≤R.L.length) (o:R.roots.length≤5) (p: ∀ i,i<R.roots.length→rX R.L (rootOf R i).N) (m:vk 1000000 R):
  Calls Tryz.prog 44 #[.pointer (some ⟨f,0,none⟩)] w fun e r=>e= .returned (.bool (zW R))∧aC w r:=by
 have c:=ah (aeN w f Lv d R h q n o p m);have a:Hid (zW R=((Dz R).lost == 0 && ((Dz R).over == 0 && (Dz R).SC == 0))):=rfl;generalize zW R=ex at*;generalize Dz R=st at*;obtain ⟨s0,s1,s2,s3,s4⟩:=st;simp only at a;unfold jG at c
 go_enter Tryz.func44,Tryz.ntmps44
 go_wp2_with fail
 refine c.mono ?_;rintro e v ⟨rfl,g⟩;have b:=ah g;clear g c
 by_cases s:s2=0
 ·subst s
  by_cases t:s3=0
  ·subst t
   by_cases u:s4=0
   ·subst u;go_wp2;go_ret;exact ⟨by rw [uh a];rfl,(b.alloc b.size _)⟩
   ·have x:((s4:Int) == 0)=false:=by rw [lY];omega
    have j:(s4 == 0)=false:=by rw [lY];omega
    rw [j] at a;clear j;go_wp2;go_ret;exact ⟨by rw [uh a];rfl,(b.alloc b.size _)⟩
  ·have y:((s3:Int) == 0)=false:=by rw [lY];omega
   have k:(s3 == 0)=false:=by rw [lY];omega
   rw [k] at a;clear k;go_wp2;go_ret;exact ⟨by rw [uh a];rfl,(b.alloc b.size _)⟩
 ·have z:((s2:Int) == 0)=false:=by rw [lY];omega
  have l:(s2 == 0)=false:=by rw [lY];omega
  rw [l] at a;clear l;go_wp2;go_ret;exact ⟨by rw [uh a];rfl,(b.alloc b.size _)⟩
section
attribute [local go_sem ↓] dw fP Np PS Qa
attribute [local go_sem] dM fO NM PI PK
def uw (L:List aj) (t b:Nat):aj:=
 if num (cl L t) (2*(b / 32))=0 then zc
 else if num (cl L (num (cl L t) (2*(b / 32))%32768)) (2*(b%32))=0 then zc
 else cl L (num (cl L (num (cl L t) (2*(b / 32))%32768)) (2*(b%32))%32768)
def y8 (L:List aj) (t k:Nat):List aj:=(List.range 64).map fun b=>if b<k then uw L t b else zc
def eu (L:List aj) (t:Nat):List aj:=(List.range 64).map fun b=>uw L t b
def ab4 (L:List aj) (t k:Nat):(y8 L t k).length=64:=by simp [y8]
def apU (L:List aj) (t:Nat):y8 L t 0=zD:=by
 refine uY fun i=> ?_
 by_cases hi:i<64
 ·rw [zD,rG,au hi];simp only [y8,jK,yR hi,Gf];rw [ak om]
 ·rw [eG (by simp [y8];omega),eG (by simp [zD];omega)]
def ab3 (L:List aj) (t:Nat):y8 L t 64=eu L t:=by
 unfold y8 eu;refine Ji fun b a=> ?_;rw [au (by simpa using a)]
def ahB (L:List aj) (t k:Nat) (hk:k<64):y8 L t (k+1)=(y8 L t k).set k (uw L t k):=by
 refine uY fun i=> ?_;rw [uI]
 by_cases hi:i<64
 ·simp only [y8,jK,yR hi,Gf,tY,Wq]
  by_cases h:k=i
  ·subst h;rw [au rfl,au hk,au om]
  ·rw [ak h]
   by_cases a:i<k
   ·rw [au a,au om]
   ·rw [ak a,ak om]
 ·rw [eG (by simp [y8];omega),ak om,eG (by simp [y8];omega)]
def ahA (L:List aj) (t k:Nat) (hk:k<64) (h:uw L t k=zc):y8 L t (k+1)=y8 L t k:=by
 rw [ahB L t k hk,h];refine uY fun i=> ?_;rw [uI]
 by_cases hi:k=i
 ·subst hi;rw [au rfl,au (by rw [ab4];exact hk)];simp [y8,hk]
 ·rw [ak hi]
def agS {L:List aj} {t:Nat} (d: ∀ c ∈ L,c.length=64) (a:rX L t) (b:Nat) (f:b<64):(uw L t b).length=64:=by
 unfold uw;split
 ·exact aV
 ·split
  ·exact aV
  ·rename_i e g;exact je d (a.block (b / 32) om e (b%32) om)
def ab5 {L:List aj} {t:Nat} (d: ∀ c ∈ L,c.length=64) (a:rX L t) (k:Nat): ∀ c ∈ y8 L t k,c.length=64:=by
 intro c hc;simp only [y8,gY,G9] at hc;obtain ⟨b,e,rfl⟩:=hc;split
 ·exact agS d a b e
 ·exact aV
structure MO (w w':World) (D:List aj):Prop where
 below:aC w w'
 one:w'.heap[w.heap.size+1]? = some (.cells (aS zD).toArray 67 (0,0))
 two:w'.heap[w.heap.size+1+1]? = some (.cells (aS D).toArray 67 (0,0))
def MO.later {w a c:World} {D:List aj} (h:MO w a D) (b:Below a.heap.size a c):MO w c D:=
 ⟨h.below.trans (b.mono h.below.size),by rw [b.block _ (aK h.one)];exact h.one,by rw [b.block _ (aK h.two)];exact h.two⟩
def MO.set {w a:World} {D:List aj} (h:MO w a D) (b: ∀ c ∈ D,c.length=64) (k:Nat) (hk:k<D.length) (c:aj) (hc:c.length=64):MO w (a.setCells (w.heap.size+1+1) (k*64) (cv c)) (D.set k c):=
 ⟨below_setCells h.below om _ _,by rw [UQ _ _ _ _ _ om];exact h.one,by rw [KU _ _ _ _ _ _ _ h.two,aeD D b k hk c hc]⟩
def iW {w:World} {b:Nat} {cs:Array Value} {t:TypeId} (h:w.heap[b]? = some (.cells cs t (0,0))) (o n:Nat) (hn:o+n≤cs.size):w.there b o n:=fun j hj=>
 ⟨by rw [aF h,anw om];rfl,eY h _⟩
def NI {w:World} {b:Nat} {cs:List Value} {t:TypeId} {fr:Nat × Nat} (h:w.heap[b]? = some (.cells cs.toArray t fr)):w.rangeAt b 0 cs:=fun j v hv=>by
 rw [rE,aF h,bZ];exact hv
def ahD (w:World) (f:Nat) (Lv Rv:Value) (R:aU) (r:bI) (h:bY w f Lv Rv R) (a:rX R.L r.N) (jF:R.L.length≤256):
  Calls Tryz.prog 80 #[.pointer (some ⟨f,0,none⟩),.agg (iE r).toArray] w fun e C=>
   e= .returned (.agg (aS (eu R.L r.N)).toArray)∧aC w C:=by
 have ai:=h.lt;obtain ⟨g,cap,rfl,hc⟩:=gy h.fJ (by have:=a.at';omega);have Z:MO w (((w.alloc (.cells (iE r).toArray 132)).alloc (.cells (aS zD).toArray 67)).alloc (.cells (aS zD).toArray 67)) (y8 R.L r.N 0):=by
  rw [apU];refine ⟨((fC).alloc sm _).alloc (by simp;omega) _,?_,?_⟩
  ·rw [jX _ _ _ sm]
   have:=aX (w.alloc (.cells (iE r).toArray 132)) (.cells (aS zD).toArray 67)
   simpa using this
  ·have:=aX ((w.alloc (.cells (iE r).toArray 132)).alloc (.cells (aS zD).toArray 67)) (.cells (aS zD).toArray 67)
   simpa using this
 have b0:(((w.alloc (.cells (iE r).toArray 132)).alloc (.cells (aS zD).toArray 67)).alloc (.cells (aS zD).toArray 67)).heap[w.heap.size]? = some (.cells (iE r).toArray 132 (0,0)):=by
  rw [jX _ _ _ (by simp;omega),jX _ _ _ sm];exact aX _ _
 have T0:=ah Z;have B0:=ah b0;clear Z b0;have al:(r.N:Int)<(R.L.length:Int):=by have:=a.at';omega
 go_enter Tryz.func80,Tryz.ntmps80
 go_wp2
 go_loopw [6] (fun i C=> ∃ k:Nat,k≤64∧i= .int .i64 k∧MO w C (y8 R.L r.N k)∧C.heap[w.heap.size]? = some (.cells (iE r).toArray 132 (0,0))) (fun i _=>64 - (intOf i).toNat)
 case atStart=>exact ⟨0,om,rfl,uh T0,uh B0⟩
 case round=>
  obtain ⟨k,hk,rfl,b,t⟩:=hrel;clear T0 B0
  by_cases u:k<64
  ·have hr:=h.below b.below;have Q:wr.cell? ⟨w.heap.size,0,none⟩=some (.int .i64 (r.N:Nat)):=by rw [aF t];rfl
   have E: ∀ d os,bY (Go.Sort.grow (redrawn wr d) os) f _ _ R:=fun d os=>hr.below (lJ wr d os);have c0:=fun d os=>(E d os).vF;have cx:=fun d os=>Jm Q d os;have q:=fun d os=>oQ (E d os).fJ h.lens _ a.at';have s:=fun d os=>oP (E d os).fJ h.lens _ a.at';have hlen:=je h.lens a.at';have m:=ah (fun d os=>FD (cl R.L r.N) (2*((k:Int) / 32)) (Go.Sort.grow (redrawn wr d) os) hlen om om);rw [show (2*((k:Int) / 32)).toNat=2*(k / 32) by omega] at m;have an:=iK (cl R.L r.N) (2*(k / 32));have mG:=a.second (k / 32) om;have S:=a.block (k / 32) om;have T:uw R.L r.N k=if num (cl R.L r.N) (2*(k / 32))=0 then zc
     else if num (cl R.L (num (cl R.L r.N) (2*(k / 32))%32768)) (2*(k%32))=0 then zc
     else cl R.L (num (cl R.L (num (cl R.L r.N) (2*(k / 32))%32768)) (2*(k%32))%32768):=rfl
   generalize num (cl R.L r.N) (2*(k / 32))=x at*;have n:=ah T;have Qw:=ah S;have ae:=ah mG;have HT:=ah b;have O:=ah t;have Hr:=ah hr;clear E T S mG b t hr;go_wp2;refine DJ kr kr ?_
   repeat (go_big_quiet_step (exact Aj (uh m _ _)))
   refine DK ?_;intro _ af;obtain ⟨⟨P,G⟩,aa⟩:=af;subst aa;clear c0 cx q s m;have z:=lJ wr P G;have H:=ah (HT.later z);have F:=ah (show (Go.Sort.grow (redrawn wr P) G).heap[w.heap.size]? = some (.cells (iE r).toArray 132 (0,0)) from (z.block _ (aK O)).trans O);have j:=Hr.below z;clear HT O Hr z Q;generalize Go.Sort.grow (redrawn wr P) G=w2 at*
   by_cases A:x=0
   ·subst A;rw [au rfl] at n;clear j;go_wp2;go_roundw
    case rel=>exact ⟨k+1,om,gn,by rw [ahA _ _ _ u (uh n)];exact uh H,uh F⟩
    case measure=>exact bW
   ·have dx:((x:Int) == 0)=false:=by rw [lY];omega
    rw [ak A] at n;have I:=uh ae A;have ao:(x:Int)%32768<(R.L.length:Int):=om;have c0:=j.vF;have q:=oQ j.fJ j.lens _ I;have s:=oP j.fJ j.lens _ I;have m:=ah (FD (cl R.L (x%32768)) (2*((k:Int)%32)) w2 (je h.lens I) om om);rw [show (2*((k:Int)%32)).toNat=2*(k%32) by omega] at m;have aq:=iK (cl R.L (x%32768)) (2*(k%32));have J:=uh Qw A (k%32) om;generalize num (cl R.L (x%32768)) (2*(k%32))=y at*;have U:=ah j;clear j
    go_wp2_with fail
    refine m.mono ?_;rintro e w3 ⟨rfl,B⟩;have K:=ah (H.later B);have V:=ah (show w3.heap[w.heap.size]? = some (.cells (iE r).toArray 132 (0,0)) from (B.block _ (aK F)).trans F);have l:=U.below B;clear m H F U B c0 q s
    by_cases W:y=0
    ·subst W;rw [au rfl] at n;clear l;go_wp2;go_roundw
     case rel=>exact ⟨k+1,om,gn,by rw [ahA _ _ _ u (uh n)];exact uh K,uh V⟩
     case measure=>exact bW
    ·have dy:((y:Int) != 0)=true:=by rw [ou];omega
     rw [ak W] at n;have ar:(y:Int)%32768<(R.L.length:Int):=om;have c0:=l.vF;have q:=oQ l.fJ l.lens _ J;have s:=oP l.fJ l.lens _ J;have ag:=je h.lens J;have o:=ab5 h.lens a k;have X:w3.there (w.heap.size+1+1) (k*64) 64:=iW K.two _ _ (by
      rw [jm,zi _ o,ab4];omega)
     have Xb:=ah o;clear l o;go_wp2;go_roundw
     case rel=>
      refine ⟨k+1,om,gn,?_,?_⟩
      ·rw [ahB _ _ _ u,uh n];exact K.set Xb k (by rw [ab4];exact u) _ ag
      ·rw [UQ _ _ _ _ _ om];exact uh V
     case measure=>exact bW
  ·have ab:k=64:=om;subst ab;rw [ab3] at b;have o: ∀ c ∈ eu R.L r.N,c.length=64:=by rw [← ab3];exact ab5 h.lens a 64
   have ad:(eu R.L r.N).length=64:=by simp [eu]
   have p:(aS (eu R.L r.N)).length=4096:=by rw [zi _ o,ad]
   have hA:Gi (eu R.L r.N):=o;have q:dU wr (w.heap.size+1+1) 0 4096:=sU (NI b.two) p;have s:dO wr (w.heap.size+1+1) 0 4096=aS (eu R.L r.N):=qU (NI b.two) p;have Y:(aS zD).length=4096:=by rw [zi _ NV,NW]
   have X:wr.there (w.heap.size+1) 0 4096:=iW b.one _ _ (by rw [jm,Y];omega);have Hb:=ah b.below;have M:(wr.setCells (w.heap.size+1) 0 (aS (eu R.L r.N))).rangeAt (w.heap.size+1) 0 (aS (eu R.L r.N)):=World.rangeAt_setCells_same _ _ _ _ (by rw [p];exact X);have l3:=sU M p;have l4:=qU M p;clear b t M Y p o;generalize hD:eu R.L r.N=D at*;have HD:=ah hD;clear hD;go_wp2;refine iy (v:= .agg (aS D).toArray) (qZ Tryz.results80 ⟨w.heap.size+1,0,none⟩ rfl (by rw [Np,NM l3,l4])) rfl ⟨by rw [uh HD],?_⟩;exact below_setCells Hb om _ _
end
end Go.Proofs.YtknjjjenklfeoaaGreatDoor
