import Derived.Test.YtknjjjenklfeoaaGreatDoorU00
import Derived.OrdersHeld
set_option maxHeartbeats 8000000
set_option maxRecDepth 100000
set_option linter.all false
namespace Go.Proofs.YtknjjjenklfeoaaGreatDoor
open Go.RowKit
section
def gQ {w:World} {base:Nat} {e:TypeId} {size:Nat} {v:Value} {n:Nat} {xs:List Value} (h:w.ownsRow base e size v n xs): ∃ a cap,v= .slice a n cap:=by
 rcases h.2 with ⟨rfl,rfl⟩ | ⟨g,cap,_,rfl,_⟩
 ·exact ⟨none,0,rfl⟩
 ·exact ⟨_,cap,rfl⟩
def awx (w:World) (f:Nat) (Lv g:Value) (R:aU) (h:bY w f Lv g R) (hL:R.L.length≤256) (n kind at':Nat) (hn:n<65536) (c:Eh R n kind=true):
  Calls Tryz.prog 138 #[.pointer (some ⟨f,0,none⟩),.int .i64 n,.int .i64 kind,.int .i64 at'] w fun e i=>
   e= .returned (.bool false)∧bY i f Lv g { R with bad:=at' }∧Kept (fun k=>k=f) w i:=by
 have d:=h.Sr at';have hk:=Kept.only w f 514 (.int .i64 at');have c0:=h.vF;have u:=h.DX;have q:=h.fz;obtain ⟨a,cap,rfl⟩:=gQ h.fJ
 by_cases m:n<6
 ·have o:decide ((n:Int)<6)=true:=by simp;omega
  clear c
  go_enter Tryz.func138,Tryz.ntmps138
  go_wp2;go_ret;exact ⟨rfl,d,hk⟩
 ·have o:decide ((n:Int)<6)=false:=by simp;omega
  by_cases p:R.L.length≤n
  ·have dl:decide ((R.L.length:Int)≤(n:Int))=true:=by simp;omega
   clear c
   go_enter Tryz.func138,Tryz.ntmps138
   go_wp2;go_ret;exact ⟨rfl,d,hk⟩
  ·have dl:decide ((R.L.length:Int)≤(n:Int))=false:=by simp;omega
   have r:(0:Int)≤(n:Int):=om;have s:(n:Int)<256:=om;have v:=h.ahf n om;simp only [Eh,m,p,decide_false,Gh,wI,Bool.or_eq_true,ou,Tt] at c;obtain ⟨x,b⟩:=c;generalize R.told.getD n 0=t at*;have y:(((t:Nat):Int) != 0)=true:=by rw [ou];omega
   by_cases j:t=kind
   ·have l:kind=1:=by rcases b with b | b <;> omega
    subst l;subst j;clear b
    go_enter Tryz.func138,Tryz.ntmps138
    go_wp2;go_ret;exact ⟨rfl,d,hk⟩
   ·have z:(((t:Nat):Int) != (kind:Int))=true:=by rw [ou];omega
    clear b
    go_enter Tryz.func138,Tryz.ntmps138
    go_wp2;go_ret;exact ⟨rfl,d,hk⟩
def awy (w:World) (f:Nat) (Lv j:Value) (R:aU) (h:bY w f Lv j R) (hL:R.L.length≤256) (n kind at':Nat) (hn:n<65536) (g:Eh R n kind=false) (p:vk 1000000 R):
  Calls Tryz.prog 138 #[.pointer (some ⟨f,0,none⟩),.int .i64 n,.int .i64 kind,.int .i64 at'] w fun e l=>
   e= .returned (.bool true)∧bY l f Lv j { R with told:=R.told.set n kind,used:=R.used.set n (R.used.getD n 0+1) }∧Kept (fun k=>k=f) w l:=by
 simp only [Eh,Cm,decide_eq_false_iff_not] at g;obtain ⟨A,B,b⟩:=g;have C:decide ((n:Int)<6)=false:=by simp;omega
 have dl:decide ((R.L.length:Int)≤(n:Int))=false:=by simp;omega
 have v:(0:Int)≤(n:Int):=om;have x:(n:Int)<256:=om;have c0:=h.vF;have y:=h.fz;have D:=h.ahf n om;have c:=h.avO n kind om;have r:=c.Ud n om;have s:=c.fz;have d:=c.amd n (R.used.getD n 0+1) om;have hk:Kept (fun k=>k=f) w ((w.setCell ⟨f,2+n,none⟩ (.int .i64 kind)).setCell ⟨f,258+n,none⟩ (.int .i64 ((R.used.getD n 0+1:Nat):Int))):=(Kept.only w f _ _).trans (Kept.only _ f _ _);have hu:=p n;simp only at r;obtain ⟨a,cap,rfl⟩:=gQ h.fJ;generalize R.told.getD n 0=t at*;generalize R.used.getD n 0=u at*;have z:(u:Int)≤1000000:=om;rw [show ((u+1:Nat):Int)=(u:Int)+1 by omega] at d hk;have i:=ah (d.drew);have m:=ah (hk.drew);clear d hk
 by_cases o:t=0
 ·subst o;clear b
  go_enter Tryz.func138,Tryz.ntmps138
  go_wp2
  go_region
  go_wp2;go_ret;exact ⟨rfl,uh i,uh m⟩
 ·have E:(((t:Nat):Int) != 0)=true:=by rw [ou];omega
  have q:t=kind∧kind≠1:=by
   have e:(t != 0)=true:=by rw [ou];exact o
   rw [e,um,Cm] at b;exact ⟨by simpa using b.1,by simpa using b.2⟩
  obtain ⟨rfl,F⟩:=q;have G:((t:Int) == 1)=false:=by rw [lY];omega
  clear b
  go_enter Tryz.func138,Tryz.ntmps138
  go_wp2
  go_region
  go_wp2;go_ret;exact ⟨rfl,uh i,uh m⟩
def aeX (w:World) (f:Nat) (Lv a:Value) (R:aU) (h:bY w f Lv a R) (hL:R.L.length≤256) (n kind at':Int) (d:0≤n) (hn:n<65536) (g:0≤kind) (i:0≤at') (c:vk 1000000 R):
  Calls Tryz.prog 138 #[.pointer (some ⟨f,0,none⟩),.int .i64 n,.int .i64 kind,.int .i64 at'] w fun e b=>
   e= .returned (.bool (tell R n.toNat kind.toNat at'.toNat).1)∧bY b f Lv a (tell R n.toNat kind.toNat at'.toNat).2∧Kept (fun k=>k=f) w b:=by
 obtain ⟨n,rfl⟩:=Cj d;obtain ⟨kind,rfl⟩:=Cj g;obtain ⟨at',rfl⟩:=Cj i;simp only [tZ];cases hno:Eh R n kind with
 | true=>
  rw [show tell R n kind at'=(false,{ R with bad:=at' }) by simp [tell,hno]];exact awx w f Lv a R h hL n kind at' om hno
 | false=>
  rw [show tell R n kind at'=(true,{ R with told:=R.told.set n kind,used:=R.used.set n (R.used.getD n 0+1) }) by simp [tell,hno]];exact awy w f Lv a R h hL n kind at' om hno c
def alZ {w:World} {base:Nat} {g cap:Nat} {L:List aj} (h:w.ownsRow base 38 64 (.slice (some ⟨g,0,none⟩) L.length cap) L.length (aS L)) (a: ∀ c ∈ L,c.length=64)
  (k j:Nat) (hk:k<L.length) (hj:j<64):w.cell? ⟨g,k*64+j,none⟩=some (.int .u8 (aI (cl L k) j:Nat)):=by
 rw [h.cellAt (k*64+j) om,QM L a k hk j hj,vG _ _ (by rw [je a hk];exact hj)]
def al0 {w:World} {base:Nat} {g cap:Nat} {L:List aj} (h:w.ownsRow base 38 64 (.slice (some ⟨g,0,none⟩) L.length cap) L.length (aS L)) (a: ∀ c ∈ L,c.length=64)
  (k:Nat) (hk:k<L.length):w.rangeAt g (k*64) (cv (cl L k)):=by
 intro j v hv;have hj:j<64:=by
  have:=(Ia.1 hv).1
  rw [bC,je a hk] at this;exact this
 rw [alZ h a k j hk hj];rw [vG _ _ (by rw [je a hk];exact hj)] at hv;exact hv
def gy {w:World} {base:Nat} {e:TypeId} {size:Nat} {v:Value} {n:Nat} {xs:List Value} (h:w.ownsRow base e size v n xs) (hn:0<n): ∃ g cap,v= .slice (some ⟨g,0,none⟩) n cap∧n≤cap:=by
 rcases h.2 with ⟨rfl,rfl⟩ | ⟨g,cap,_,rfl,_,_,hc,_⟩
 ·omega
 ·exact ⟨g,cap,rfl,hc⟩
def Uk (w:World) (f:Nat) (Lv a:Value) (R:aU) (h:bY w f Lv a R) (n:Int) (h0:0≤n) (d:n<256) (hL:5≤R.L.length):
  Calls Tryz.prog 79 #[.pointer (some ⟨f,0,none⟩),.int .i64 n] w fun e b=>e= .returned (.int .i64 (aQ R.L n.toNat:Nat))∧b=w:=by
 obtain ⟨n,rfl⟩:=Cj h0;rw [tZ];obtain ⟨g,cap,rfl,hc⟩:=gy h.fJ om;have c0:=h.vF;have i:=alZ h.fJ h.lens (1+n / 64) (n%64) om om;have j:=uy (cl R.L (1+n / 64)) (n%64);have c:(5:Int)≤(R.L.length:Int):=om;have l:Hid (aQ R.L n=aI (cl R.L (1+n / 64)) (n%64)):=rfl
 go_enter Tryz.func79,Tryz.ntmps79
 go_wp2;go_ret;exact ⟨rfl,rfl⟩
def akm (w:World) (f:Nat) (Lv l:Value) (R:aU) (h:bY w f Lv l R) (x:Nat) (p:x%32768<256) (y:x<65536) (hL:5≤R.L.length) (n:vk 1000000 R):
  Calls Tryz.prog 139 #[.pointer (some ⟨f,0,none⟩),.int .i64 x] w fun e m=>e= .returned (.tuple #[.bool (pF R x),.int .i64 (sW R x:Nat)])∧m=w:=by
 have z:=h.Ud (x%32768) p;have hu:=n (x%32768);have v:(x:Int)%32768<256:=om;have c:Hid (pF R x=if 32768≤x then (R.used.getD (x%32768) 0 != 1 || aQ R.L (x%32768) != 1) else false):=rfl;have d:Hid (sW R x=if 32768≤x then 0 else if R.used.getD (x%32768) 0=1 then 1 else 0):=rfl;generalize R.used.getD (x%32768) 0=u at*
 by_cases hm:32768≤x
 ·have r:decide ((32768:Int)≤(x:Int))=true:=by simp;omega
  have a:Hid (sW R x=0):=by rw [uh d,au hm];rfl
  clear d
  by_cases g:u=1
  ·subst g;have b:Hid (pF R x=(aQ R.L (x%32768) != 1)):=by rw [uh c,au hm];rfl
   clear c;have i:=Uk w f Lv l R h ((x%32768:Nat):Int) om om hL;rw [tZ] at i;have s:=ah i;clear i;have j:(((aQ R.L (x%32768):Nat):Int) != 1)=(aQ R.L (x%32768) != 1):=by
    rw [WQ];simp only [ou];omega
   have o:=ah j;clear j;generalize aQ R.L (x%32768)=q at*
   go_enter Tryz.func139,Tryz.ntmps139
   go_wp2_with fail
   refine s.mono ?_;rintro e m ⟨rfl,rfl⟩;go_wp2;go_ret2;rw [uh b,uh a,uh o];exact ⟨rfl,rfl⟩
  ·have b:Hid (pF R x=true):=by
    have e:(u != 1)=true:=by rw [ou];exact g
    rw [uh c,au hm,e];rfl
   clear c;have t:((u:Int) == 1)=false:=by rw [lY];omega
   go_enter Tryz.func139,Tryz.ntmps139
   go_wp2;go_ret2;rw [uh b,uh a];exact ⟨rfl,rfl⟩
 ·have r:decide ((32768:Int)≤(x:Int))=false:=by simp;omega
  have b:Hid (pF R x=false):=by rw [uh c,ak hm];rfl
  clear c
  by_cases g:u=1
  ·subst g;have a:Hid (sW R x=1):=by rw [uh d,ak hm];rfl
   clear d
   go_enter Tryz.func139,Tryz.ntmps139
   go_wp2;go_ret2;rw [uh b,uh a];exact ⟨rfl,rfl⟩
  ·have a:Hid (sW R x=0):=by rw [uh d,ak hm,ak g];rfl
   clear d;have t:((u:Int) == 1)=false:=by rw [lY];omega
   go_enter Tryz.func139,Tryz.ntmps139
   go_wp2;go_ret2;rw [uh b,uh a];exact ⟨rfl,rfl⟩
section
variable {P:Program} {ops:Array Oper} {Q:Exit→Act→World→Prop} {md:Region.Mode} {T:World→Prop} {k:Nat}
def vT (P:Program) (md:Region.Mode) (ops:Array Oper) (Q:Exit→Act→World→Prop) (T:World→Prop) (k:Nat):Nat→Array Bool→Act→World→Prop
 | 0,listed,a,w=>Region.ready md ops listed=[]∧Q .normal a w
 | fuel+1,listed,a,w=>
  (Region.ready md ops listed=[]→Q .normal a w)∧
  ∀ i ∈ Region.ready md ops listed,wpOp P ops Q i (fun c b=>(i=k∨T b)∧vT P md ops Q T k fuel (listed.setIfInBounds i true) c b) a w
def am9: ∀ (fuel:Nat) (listed:Array Bool) (a:Act) (w:World),vT P md ops Q T k fuel listed a w→wpAny P md ops Q fuel listed a w
 | 0,_,_,_,h=>h
 | fuel+1,_,_,_,h=>⟨h.1,fun i hi=>wpOp_mono (fun b c d=>am9 fuel _ b c d.2) (h.2 i hi)⟩
def axu {i:Nat} {g ok:Oper} {v:Value} (hi:ops[i]? = some g) (G:ops[k]? = some ok) (I: ∃ e ∈ ok.after,Region.binds md e=true∧e.on=i)
  (x: ∀ (j:Nat) (o:Oper) cs b,ops[j]? = some o→o.op≠ .select cs b) (R:i≠k)
  (L: ∀ c a w,Q (.panic c) (a.put g.dst v) w→Q (.panic c) a w):
  ∀ (fuel:Nat) (listed:Array Bool) (a:Act) (w:World),
   (∀ j l,ops[j]? = some l→j≠i→listed.getD j true=false→(∀ e ∈ l.after,Region.binds md e=true→e.on≠i)→g.apart ops l=true)→
   i ∈ Region.ready md ops listed→YieldsIf P ops T g v a→T w→
   vT P md ops Q T k fuel (listed.setIfInBounds i true) (a.put g.dst v) w→vT P md ops Q T k (fuel+1) listed a w:=by
 intro fuel
 induction fuel with
 | zero=>
  intro listed a w _ hr q n H;refine ⟨fun h=>(by rw [h] at hr;cases hr),fun j hj=> ?_⟩
  by_cases d:j=i
  ·subst d;exact q.wpOp hi n ⟨ay n,H⟩
  ·have:=ready_mono hj d
   rw [H.1] at this;cases this
 | succ fuel ih=>
  intro listed a w u hr q n H;refine ⟨fun h=>(by rw [h] at hr;cases hr),fun j hj=> ?_⟩
  by_cases d:j=i
  ·subst d;exact q.wpOp hi n ⟨ay n,H⟩
  ·have m:=H.2 j (ready_mono hj d);obtain ⟨y,l,f,F⟩:=mem_ready.1 hj;have A: ∀ e ∈ l.after,Region.binds md e=true→e.on≠i:=fun e he r heq=>by
    have m:=F e he r;have h0:=(mem_ready.1 hr).1;rw [heq] at m;rcases J8 i listed.size with s | s
    ·simp [s] at h0 m;rw [h0] at m;cases m
    ·simp [Qj s] at m
   have p:j≠k:=fun e=>by
    subst e;rw [G] at f;injection f with f;subst f;obtain ⟨e,he,r,M⟩:=I;exact A e he r M
   have N:=wpOp_putIf f (u j l f d y A) (fun cs b=>x i g cs b hi) (fun cs b=>x j l cs b f) L q m;have E: ∀ k ok,ops[k]? = some ok→k≠i→(listed.setIfInBounds j true).getD k true=false→
     (∀ e ∈ ok.after,Region.binds md e=true→e.on≠i)→g.apart ops ok=true:=fun k ok hk J B K=>by
    refine u k ok hk J ?_ K
    by_cases p:j=k
    ·subst p;exact y
    ·rw [getD_set_ne true p] at B;exact B
   refine wpOp_mono (fun O C t=> ?_) N;have D:T C:=by
    rcases t.2.1 with z | z
    ·exact absurd z p
    ·exact z
   refine ⟨ay D,ih (listed.setIfInBounds j true) O C E (ready_mono hr (Ne.symm d)) t.1 D ?_⟩;rw [Array.setIfInBounds_comm _ _ d];exact t.2.2
def waits (md:Region.Mode) (ops:Array Oper) (k i:Nat):Bool:=i != k && (match ops[k]? with
 | some o=>o.after.any fun e=>Region.binds md e && e.on == i
 | none=>false)
def axw {i:Nat} {d:Oper} {v:Value} {fuel:Nat} {listed:Array Bool} {a:Act} {w:World} (hi:ops[i]? = some d) (hk:waits md ops k i=true)
  (hs:Region.noSelect ops=true) (g:Region.free md ops listed i=true) (hr:(Region.ready md ops listed).contains i=true)
  (j: ∀ c a w,Q (.panic c) (a.put d.dst v) w→Q (.panic c) a w) (l:YieldsIf P ops T d v a) (m:T w)
  (h:vT P md ops Q T k fuel (listed.setIfInBounds i true) (a.put d.dst v) w):vT P md ops Q T k (fuel+1) listed a w:=by
 unfold waits at hk;rw [wI] at hk;obtain ⟨n,b⟩:=hk;cases hq:ops[k]? with
 | none=>rw [hq] at b;cases b
 | some ok=>
  rw [hq] at b;simp only [Array.any_eq_true'] at b;obtain ⟨e,he,f⟩:=b;rw [wI] at f;exact axu hi hq ⟨e,he,f.1,by simpa using f.2⟩ (Region.noSelect_spec hs) (by simpa using n) j fuel listed a w (Region.free_spec hi g) (by simpa using hr) l m h
def awq (i:Nat) (v:Value) {b:Oper} {fuel:Nat} {listed:Array Bool} {a:Act} {w:World} (d: ∀ W,T W→(execOp a.eval b).run P W= .ok (.value v) W) (e:T w)
  (h:vT P md ops Q T k fuel (listed.setIfInBounds i true) (a.put b.dst v) w) (hi:ops[i]? = some b:=by exact rfl) (hk:waits md ops k i=true:=by kernel_rfl)
  (hs:Region.noSelect ops=true:=by kernel_rfl) (f:Region.free md ops listed i=true:=by kernel_rfl) (hr:(Region.ready md ops listed).contains i=true:=by kernel_rfl)
  (g: ∀ c a w,Q (.panic c) (a.put b.dst v) w→Q (.panic c) a w:=by exact fun _ _ _ h=>h) (j:Region.wanted b (yielded ops a.tmps)=true:=by kernel_rfl):vT P md ops Q T k (fuel+1) listed a w:=
 axw hi hk hs f hr g (aA ⟨j,d⟩) e h
def ama (l:List Value) (i:Nat) (v:Value):l.toArray.setIfInBounds i v=(l.set i v).toArray:=Bh ..
def al9 (l:List Value) (x v:Value):(x :: l).set 0 v=v :: l:=rfl
def amc (l:List Value) (i:Nat) (x v:Value):(x :: l).set (i+1) v=x :: l.set i v:=rfl
def tk (i:Nat) {v:Value} {b:Oper} {fuel:Nat} {listed:Array Bool} {a d:Act} {w:World} (f:T w) (h:vT P md ops Q T k fuel (listed.setIfInBounds i true) d w) (hi:ops[i]? = some b:=by exact rfl)
  (g: ∀ W,T W→(execOp a.eval b).run P W= .ok (.value v) W:=by (intro W e;(repeat (obtain ⟨_,e⟩:=e));go_simp;with_reducible rfl)) (j:a.put b.dst v=d:=by (simp only [Act.put,ama,al9,amc];with_reducible rfl))
  (hk:waits md ops k i=true:=by kernel_rfl) (hs:Region.noSelect ops=true:=by kernel_rfl) (l:Region.free md ops listed i=true:=by kernel_rfl) (hr:(Region.ready md ops listed).contains i=true:=by kernel_rfl)
  (m: ∀ c a w,Q (.panic c) (a.put b.dst v) w→Q (.panic c) a w:=by exact fun _ _ _ h=>h) (n:Region.wanted b (yielded ops a.tmps)=true:=by kernel_rfl):vT P md ops Q T k (fuel+1) listed a w:=
 awq i v g f (by rw [j];exact h) hi hk hs l hr m n
def axv {i:Nat} {d:Oper} {fuel:Nat} {listed:Array Bool} {a:Act} {w:World} (hr:Region.ready md ops listed=[i]) (hi:ops[i]? = some d)
  (h: ∀ K:Act→World→Prop,(∀ c b,(i=k∨T b)→vT P md ops Q T k fuel (listed.setIfInBounds i true) c b→K c b)→if Region.wanted d (yielded ops a.tmps)=true then Oper.wp P d a w K Q else K (a.put d.dst undef) w):vT P md ops Q T k (fuel+1) listed a w:=by
 refine ⟨fun h0=>(by rw [hr] at h0;cases h0),fun j hj=> ?_⟩;rw [hr,iP] at hj;subst hj;have h:=h (fun c b=>(j=k∨T b)∧vT P md ops Q T k fuel (listed.setIfInBounds j true) c b) (fun c b e f=>⟨e,f⟩);unfold wpOp;simp only [hi];split
 ·rename_i hw;rw [au hw] at h;exact aA h
 ·rename_i hw;rw [ak hw] at h;exact h
def wo (i:Nat) {b:Oper} {fuel:Nat} {listed:Array Bool} {a:Act} {w:World}
  (h: ∀ K:Act→World→Prop,(∀ d c,(i=k∨T c)→vT P md ops Q T k fuel (listed.setIfInBounds i true) d c→K d c)→if Region.wanted b (yielded ops a.tmps)=true then Oper.wp P b a w K Q else K (a.put b.dst undef) w) (hr:Region.ready md ops listed=[i]:=by kernel_rfl) (hi:ops[i]? = some b:=by exact rfl):vT P md ops Q T k (fuel+1) listed a w:=
 axv hr hi h
def wv (i:Nat) {v:Value} {b:Oper} {fuel:Nat} {listed:Array Bool} {a c:Act} {w:World} (d:T w) (h:vT P md ops Q T k fuel (listed.setIfInBounds i true) c w) (hi:ops[i]? = some b:=by exact rfl)
  (e:(execOp a.eval b).run P w= .ok (.value v) w:=by (go_simp;with_reducible rfl)) (f:a.put b.dst v=c:=by (simp only [Act.put,ama,al9,amc];with_reducible rfl))
  (hr:Region.ready md ops listed=[i]:=by kernel_rfl) (g:Region.wanted b (yielded ops a.tmps)=true:=by kernel_rfl):vT P md ops Q T k (fuel+1) listed a w:=by
 refine ⟨fun h0=>(by rw [hr] at h0;cases h0),fun j hj=> ?_⟩;rw [hr,iP] at hj;subst hj;have l:YieldsIf P ops (fun W=>W=w) b v a:=aA ⟨g,fun W m=>by rw [m];exact e⟩;exact l.wpOp hi rfl ⟨ay d,by rw [f];exact h⟩
def sH {listed:Array Bool} {a:Act} {w:World} (hr:Region.ready md ops listed=[]) (h:Q .normal a w): ∀ fuel,vT P md ops Q T k fuel listed a w
 | 0=>⟨hr,h⟩
 | _+1=>⟨fun _=>h,by rw [hr];simp⟩
def xZ {id:Nat} {a:Act} {w:World} (T:World→Prop) (k:Nat) (hm:P.follows .mixedOrders=true)
  (h:vT P .any ops Q T k ops.size (Array.replicate ops.size false) a { w with drawn:=w.drawn+1 }):(Code.region id ops true).wp P Q a w:=
 wp_region_any hm (am9 _ _ _ _ h)
end
section
variable {P:Program} {ops:Array Oper} {Q:Exit→Act→World→Prop} {md:Region.Mode} {T:World→Prop} {k:Nat}
def NT {i j:Nat} {f g:Oper} {fuel:Nat} {listed:Array Bool} {a:Act} {w:World} (hr:Region.ready md ops listed=[i,j]) (hi:ops[i]? = some f) (hj:ops[j]? = some g)
  (d: ∀ K:Act→World→Prop,(∀ c b,(i=k∨T b)→vT P md ops Q T k fuel (listed.setIfInBounds i true) c b→K c b)→if Region.wanted f (yielded ops a.tmps)=true then Oper.wp P f a w K Q else K (a.put f.dst undef) w)
  (e: ∀ K:Act→World→Prop,(∀ c b,(j=k∨T b)→vT P md ops Q T k fuel (listed.setIfInBounds j true) c b→K c b)→if Region.wanted g (yielded ops a.tmps)=true then Oper.wp P g a w K Q else K (a.put g.dst undef) w):vT P md ops Q T k (fuel+1) listed a w:=by
 refine ⟨fun h0=>(by rw [hr] at h0;cases h0),fun q l=> ?_⟩;rw [hr] at l;simp only [cO,jM,jO] at l;rcases l with rfl | rfl
 ·have h:=d (fun c b=>(q=k∨T b)∧vT P md ops Q T k fuel (listed.setIfInBounds q true) c b) (fun c b d e=>⟨d,e⟩);unfold wpOp;simp only [hi];split
  ·rename_i hw;rw [au hw] at h;exact aA h
  ·rename_i hw;rw [ak hw] at h;exact h
 ·have h:=e (fun c b=>(q=k∨T b)∧vT P md ops Q T k fuel (listed.setIfInBounds q true) c b) (fun c b d e=>⟨d,e⟩);unfold wpOp;simp only [hj];split
  ·rename_i hw;rw [au hw] at h;exact aA h
  ·rename_i hw;rw [ak hw] at h;exact h
end
end
section
attribute [local go_sem ↓] dw
attribute [local go_sem] dM
def oQ {w:World} {base:Nat} {g cap:Nat} {L:List aj} (h:w.ownsRow base 38 64 (.slice (some ⟨g,0,none⟩) L.length cap) L.length (aS L)) (a: ∀ c ∈ L,c.length=64)
  (k:Nat) (hk:k<L.length):dU w g (k*64) 64:=sU (al0 h a k hk) (by rw [bC,je a hk])
def oP {w:World} {base:Nat} {g cap:Nat} {L:List aj} (h:w.ownsRow base 38 64 (.slice (some ⟨g,0,none⟩) L.length cap) L.length (aS L)) (a: ∀ c ∈ L,c.length=64)
  (k:Nat) (hk:k<L.length):dO w g (k*64) 64=cv (cl L k):=qU (al0 h a k hk) (by rw [bC,je a hk])
def avc (R:List bI) (i:Nat) (hi:i<R.length) (j:Nat) (hj:j<3):(R.flatMap iE)[i*3+j]? = (iE (R.getD i ⟨0,0,[]⟩))[j]? := by
 induction R generalizing i with
 | nil=>simp at hi
 | cons a r ih=>
  cases i with
  | zero=>
   simp only [qx,EG,zS,rE];rw [nV (by simp [iE];omega)]
  | succ i=>
   have b:=ih i (by simpa using hi);simp only [qx,J5];rw [nP (by simp [iE];omega),← b]
   congr 1
   simp [iE];omega
def yN {w:World} {base:Nat} {g cap:Nat} {R:List bI} (h:w.ownsRow base 132 3 (.slice (some ⟨g,0,none⟩) R.length cap) R.length (R.flatMap iE)) (i:Nat) (hi:i<R.length) (j:Nat) (hj:j<3):
  w.cell? ⟨g,i*3+j,none⟩=(iE (R.getD i ⟨0,0,[]⟩))[j]? := by
 rw [h.cellAt (i*3+j) om,avc R i hi j hj]
def rootOf (R:aU) (i:Nat):bI:=R.roots.getD i ⟨0,0,[]⟩
def Ns (R:aU) (b:Nat):Nat:=
 if num (cl R.L (rootOf R 0).N) (2*(b / 32))<32768 then 2
 else if num (cl R.L (num (cl R.L (rootOf R 0).N) (2*(b / 32))%32768)) (2*(b%32))<32768 then 1 else 0
def asX (w:World) (f:Nat) (Lv z:Value) (R:aU) (h:bY w f Lv z R) (b:Nat) (S:b<64) (h0:0<R.roots.length) (hr:(rootOf R 0).N<R.L.length)
  (l:num (cl R.L (rootOf R 0).N) (2*(b / 32))%32768<R.L.length) (U:R.L.length≤256):
  Calls Tryz.prog 116 #[.pointer (some ⟨f,0,none⟩),.int .i64 b] w fun e A=>e= .returned (.int .i64 (Ns R b:Nat))∧aC w A:=by
 obtain ⟨g,cap,rfl,hc⟩:=gy h.fJ om;obtain ⟨B,G,rfl,H⟩:=gy h.pG h0;have c: ∀ d os,bY (Go.Sort.grow (redrawn w d) os) f _ _ R:=fun d os=>h.below (lJ w d os);have c0:=fun d os=>(c d os).vF;have c1:=fun d os=>(c d os).CV;have C: ∀ d os,(Go.Sort.grow (redrawn w d) os).cell? ⟨B,0,none⟩=some (.int .i64 ((rootOf R 0).N:Nat)):=fun d os=>by
  have:=yN (c d os).pG 0 h0 0 om
  simpa [iE,rootOf] using this
 have m:=fun d os=>oQ (c d os).fJ h.lens _ hr;have n:=fun d os=>oP (c d os).fJ h.lens _ hr;have hlen:=je h.lens hr;have a:=ah (fun d os=>FD (cl R.L (rootOf R 0).N) (2*(((b:Int) / 32))) (Go.Sort.grow (redrawn w d) os) hlen om om);have I:((rootOf R 0).N:Int)<(R.L.length:Int):=om;have J:(0:Int)<(R.roots.length:Int):=om;clear c;have Hx:Hid (Ns R b=if num (cl R.L (rootOf R 0).N) (2*(b / 32))<32768 then 2
   else if num (cl R.L (num (cl R.L (rootOf R 0).N) (2*(b / 32))%32768)) (2*(b%32))<32768 then 1 else 0):=rfl
 rw [show (2*((b:Int) / 32)).toNat=2*(b / 32) by omega] at a;have K:=iK (cl R.L (rootOf R 0).N) (2*(b / 32));generalize num (cl R.L (rootOf R 0).N) (2*(b / 32))=x at*
 go_enter Tryz.func116,Tryz.ntmps116
 go_wp2;refine DJ kr kr ?_
 repeat (go_big_quiet_step (exact Aj (uh a _ _)))
 refine DK ?_;intro _ v;obtain ⟨⟨s,o⟩,u⟩:=v;subst u;clear c0 c1 C m n a;have j:=ah (lJ w s o);generalize Go.Sort.grow (redrawn w s) o=D at*
 by_cases p:x<32768
 ·have E:decide ((x:Int)<32768)=true:=by simp;omega
  rw [au p] at Hx;go_wp2;go_ret;exact ⟨by rw [uh Hx];rfl,uh j⟩
 ·have E:decide ((x:Int)<32768)=false:=by simp;omega
  rw [ak p] at Hx;have i:=h.below j;have c0:=i.vF;have m:=oQ i.fJ i.lens _ l;have n:=oP i.fJ i.lens _ l;have M:(x:Int)%32768<(R.L.length:Int):=om;have a:=ah (FD (cl R.L (x%32768)) (2*(((b:Int)%32))) D (je h.lens l) om om);rw [show (2*((b:Int)%32)).toNat=2*(b%32) by omega] at a;have O:=iK (cl R.L (x%32768)) (2*(b%32));generalize num (cl R.L (x%32768)) (2*(b%32))=y at*
  go_wp2_with fail
  refine a.mono ?_;rintro e V ⟨rfl,q⟩;have r:=ah (j.trans (q.mono j.size));clear q a m n c0 i
  by_cases t:y<32768
  ·have F:decide ((y:Int)<32768)=true:=by simp;omega
   rw [au t] at Hx;go_wp2;go_ret;exact ⟨by rw [uh Hx];rfl,uh r⟩
  ·have F:decide ((y:Int)<32768)=false:=by simp;omega
   rw [ak t] at Hx;go_wp2;go_ret;exact ⟨by rw [uh Hx];rfl,uh r⟩
def amP (t m k:Nat) (R:aU) (h:num (cl R.L t) (2*k)=0):o8 t (m+1) k R=o8 t m (k+1) R:=by simp [o8,h]
def amO (t m k:Nat) (R:aU) (h:num (cl R.L t) (2*k)≠0) (a:(tell R (num (cl R.L t) (2*k)%32768) 3 t).1=true):
  o8 t (m+1) k R=o8 t m (k+1) (tell R (num (cl R.L t) (2*k)%32768) 3 t).2:=by simp [o8,h,a]
def awQ (t m k:Nat) (R:aU) (h:num (cl R.L t) (2*k)≠0) (a:(tell R (num (cl R.L t) (2*k)%32768) 3 t).1=false):
  o8 t (m+1) k R=(false,(tell R (num (cl R.L t) (2*k)%32768) 3 t).2):=by simp [o8,h,a]
structure EJ (w0 w':World) (f:Nat) (Lv Rv:Value) (R R':aU) (b:Nat):Prop where
 at':bY w' f Lv Rv R'
 kept:Kept (fun k=>k=f) w0 w'
 hL:R'.L=R.L
 hR:R'.roots=R.roots
 low:vk b R'
def EJ.below {c a d:World} {f:Nat} {Lv e:Value} {R R':aU} {b:Nat} (h:EJ c a f Lv e R R' b) (g:Below a.heap.size a d):EJ c d f Lv e R R' b:=
 ⟨h.at'.below g,h.kept.trans (Kept.dQ g),h.hL,h.hR,h.low⟩
def vk.mono {a b:Nat} {R:aU} (h:vk a R) (c:a≤b):vk b R:=fun n=>jL (h n) c
def EJ.told {d e a:World} {f:Nat} {Lv c:Value} {R R':aU} {b n kind at':Nat} (h:EJ d e f Lv c R R' b) (g:bY a f Lv c (tell R' n kind at').2) (i:Kept (fun k=>k=f) e a):
  EJ d a f Lv c R (tell R' n kind at').2 (b+1):=
 ⟨g,h.kept.trans i,by rw [Af,h.hL],by rw [NP,h.hR],aww h.low _ _ _⟩
def EJ.mono {c d:World} {f:Nat} {Lv e:Value} {R R':aU} {a b:Nat} (h:EJ c d f Lv e R R' a) (g:a≤b):EJ c d f Lv e R R' b:=
 ⟨h.at',h.kept,h.hL,h.hR,h.low.mono g⟩
def awS (w:World) (f:Nat) (Lv v:Value) (R:aU) (r:bI) (h:bY w f Lv v R) (jF:R.L.length≤256) (hN:r.N<65536) (hA:r.At<65536) (b:Nat) (a7:b≤100000) (aa:vk b R):
  Calls Tryz.prog 76 #[.pointer (some ⟨f,0,none⟩),.agg (iE r).toArray] w fun e F=>
   e= .returned (.bool (tree R r).1)∧EJ w F f Lv v R (tree R r).2 (b+2000):=by
 have hW:=(Kept.refl (fun k=>k=f) w).alloc (.cells (iE r).toArray 132);have hB:aC w (w.alloc (.cells (iE r).toArray 132)):=fC;have h0:=h.below hB;have ad:f≠w.heap.size:=Nat.ne_of_lt h.lt;have b0:(w.alloc (.cells (iE r).toArray 132)).cell? ⟨w.heap.size,0,none⟩=some (.int .i64 (r.N:Nat)):=by rw [wM];rfl
 have b1:(w.alloc (.cells (iE r).toArray 132)).cell? ⟨w.heap.size,1,none⟩=some (.int .i64 (r.At:Nat)):=by rw [wM];rfl
 have aR:w.heap.size<(w.alloc (.cells (iE r).toArray 132)).heap.size:=sm;have HW:=ah hW;clear hW hB;have o:=ah (aeX _ f Lv v R h0 jF (r.N:Int) 1 (r.At:Int) om om om om (aa.mono om));have q:Hid (tree R r=if (tell R r.N 1 r.At).1 then xW r.N 32 0 (tell R r.N 1 r.At).2 else (false,(tell R r.N 1 r.At).2)):=rfl;simp only [tZ,show (1:Int).toNat=1 from rfl] at o;have g0:EJ (w.alloc (.cells (iE r).toArray 132)) (w.alloc (.cells (iE r).toArray 132)) f Lv v R R b:=⟨h0,Kept.refl _ _,rfl,rfl,aa⟩
 go_enter Tryz.func76,Tryz.ntmps76
 go_wp2_with fail
 refine o.mono ?_;rintro e w1 ⟨rfl,ae,af⟩;have g1:=g0.told ae af;have ag:=fun hh=>JW (R:=R) (n:=r.N) (kind:=1) (at':=r.At) hh;generalize w.alloc (.cells (iE r).toArray 132)=W at*;clear o ae af g0 h0;generalize (tell R r.N 1 r.At).1=a0 at*;generalize (tell R r.N 1 r.At).2=R1 at*;clear b1;have ai:=ah g1;clear g1;go_wp2
 go_loopw [5,6] (fun ok i F=> ∃ (k:Nat) (R':aU),k≤32∧i= .int .i64 k∧EJ W F f Lv v R R' (b+1+40*k)∧
   ((ok= .bool true∧r.N<R.L.length∧tree R r=xW r.N (32 - k) k R')∨(ok= .bool false∧tree R r=(false,R')))) (fun _ i _=>32 - (intOf i).toNat)
 case atStart=>
  refine ⟨0,R1,om,rfl,uh ai,?_⟩;cases a0 with
  | true=>exact aA ⟨rfl,(ag rfl).2,by rw [uh q];rfl⟩
  | false=>exact ay ⟨rfl,by rw [uh q];rfl⟩
 case round=>
  obtain ⟨k,R',hk,rfl,a,B⟩:=hrel;clear ai ag q;rcases B with ⟨rfl,M,D⟩ | ⟨rfl,D⟩
  ·have q:=ah D;clear D;have O:r.N<R'.L.length:=by rw [a.hL];exact M
   have a8:(r.N:Int)<(R'.L.length:Int):=om;have J:wr.cell? ⟨w.heap.size,0,none⟩=some (.int .i64 (r.N:Nat)):=by
    rw [a.kept.cell (p:=⟨w.heap.size,0,none⟩) aR (fun e=>ad e.symm)];exact b0
   by_cases a9:k<32
   ·obtain ⟨g,cap,rfl,hc⟩:=gy a.at'.fJ om;have I: ∀ d os,bY (Go.Sort.grow (redrawn wr d) os) f _ _ R':=fun d os=>a.at'.below (lJ wr d os);have c0:=fun d os=>(I d os).vF;have cx:=fun d os=>Jm J d os;have l1:=fun d os=>oQ (I d os).fJ a.at'.lens _ O;have l2:=fun d os=>oP (I d os).fJ a.at'.lens _ O;have hlen:=je a.at'.lens O;have t:=ah (fun d os=>FD (cl R'.L r.N) (2*(k:Int)) (Go.Sort.grow (redrawn wr d) os) hlen om om);rw [show (2*(k:Int)).toNat=2*k by omega] at t;have a1:=iK (cl R'.L r.N) (2*k);have HX:Hid (num (cl R'.L r.N) (2*k)=num (cl R'.L r.N) (2*k)):=rfl;generalize hx:num (cl R'.L r.N) (2*k)=x at t a1;have Hx:=ah hx;clear I hx HX;go_wp2;refine DJ kr kr ?_
    repeat (go_big_quiet_step (exact Aj (uh t _ _)))
    refine DK ?_;intro _ a2;obtain ⟨⟨dq,S⟩,al⟩:=a2;subst al;clear c0 cx l1 l2 t;have s:=a.below (lJ wr dq S);have UL:=Jm J dq S;clear J a;generalize Go.Sort.grow (redrawn wr dq) S=w2 at*;have u:=ah s
    by_cases U:x=0
    ·subst U;clear s;go_wp2;go_roundw
     case rel=>
      refine ⟨k+1,R',om,gn,u.mono om,aA ⟨rfl,M,?_⟩⟩;rw [uh q,show 32 - k=(32 - (k+1))+1 by omega,xW,au (uh Hx)]
     case measure=>exact bW
    ·have dx:((x:Int) == 0)=false:=by rw [lY];omega
     by_cases an:1<k
     ·have dk:decide ((1:Int)<(k:Int))=true:=by simp;omega
      have cB:=s.at'.DX;have ba:=s.at'.fz;have hb:=s.at'.Sr (r.N:Int);have hK:=Kept.only w2 f 514 (.int .i64 (r.N:Int));have Hb:=ah hb;have HK:=ah hK;clear hb hK s;go_wp2;go_ret;have e:tree R r=(false,{ R' with bad:=(r.N:Int) }):=by
       rw [uh q,show 32 - k=(32 - (k+1))+1 by omega,xW,ak (by rw [uh Hx];exact U),au an]
      rw [e];exact ⟨rfl,uh Hb,(HW.trans u.kept).trans HK,u.hL,u.hR,u.low.mono om⟩
     ·have dk:decide ((1:Int)<(k:Int))=false:=by simp;omega
      have o:=ah (aeX w2 f _ v R' s.at' (by rw [s.hL];exact jF) ((x:Int)%32768) 2 (r.N:Int) om om om om (s.low.mono om));simp only [tZ,show (2:Int).toNat=2 from rfl,show ((x:Int)%32768).toNat=x%32768 by omega] at o;clear s;have hT:tree R r=(if (if (tell R' (x%32768) 2 r.N).1 then o8 (x%32768) 32 0 (tell R' (x%32768) 2 r.N).2 else (false,(tell R' (x%32768) 2 r.N).2)).1
        then xW r.N (32 - (k+1)) (k+1) (if (tell R' (x%32768) 2 r.N).1 then o8 (x%32768) 32 0 (tell R' (x%32768) 2 r.N).2 else (false,(tell R' (x%32768) 2 r.N).2)).2
        else (false,(if (tell R' (x%32768) 2 r.N).1 then o8 (x%32768) 32 0 (tell R' (x%32768) 2 r.N).2 else (false,(tell R' (x%32768) 2 r.N).2)).2)):=by
       rw [uh q,show 32 - k=(32 - (k+1))+1 by omega,xW,ak (by rw [uh Hx];exact U),ak an,uh Hx];cases (tell R' (x%32768) 2 r.N).1 <;> simp
      have K:=fun hh=>JW (R:=R') (n:=x%32768) (kind:=2) (at':=r.N) hh
      go_wp2_with fail
      refine o.mono ?_;rintro e w3 ⟨rfl,ao,V⟩;have g3:=u.told ao V;have aq:=u.hL;have a3:w3.cell? ⟨w.heap.size,0,none⟩=some (.int .i64 (r.N:Nat)):=by
       rw [V.cell (p:=⟨w.heap.size,0,none⟩) (World.block_lt_of_cell? _ _ UL) (fun e=>ad e.symm)];exact UL
      clear o ao V u UL q Hx;generalize ar:(if (tell R' (x%32768) 2 r.N).1 then o8 (x%32768) 32 0 (tell R' (x%32768) 2 r.N).2 else (false,(tell R' (x%32768) 2 r.N).2))=T at hT;generalize (tell R' (x%32768) 2 r.N).1=a4 at*;generalize (tell R' (x%32768) 2 r.N).2=R2 at*;have HT:=ah hT;have X:=ah ar;have av:=ah g3;clear hT ar g3;rw [aq] at K;clear aq a3;go_wp2
      go_loopw [5,8] (fun ok j F=> ∃ (m:Nat) (c:aU),m≤32∧j= .int .i64 m∧EJ W F f (.slice (some ⟨g,0,none⟩) R'.L.length cap) v R c (b+1+40*k+1+m)∧
        ((ok= .bool true∧x%32768<R.L.length∧T=o8 (x%32768) (32 - m) m c)∨(ok= .bool false∧T=(false,c)))) (fun _ j _=>32 - (intOf j).toNat)
      case atStart=>
       refine ⟨0,R2,om,rfl,uh av,?_⟩;cases a4 with
       | true=>exact aA ⟨rfl,(K rfl).2,by rw [← uh X];rfl⟩
       | false=>exact ay ⟨rfl,by rw [← uh X];rfl⟩
      case round=>
       obtain ⟨m,c,hm,rfl,a,B⟩:=hrel;clear av K X;rcases B with ⟨rfl,Y,E⟩ | ⟨rfl,E⟩
       ·have C:=ah E;clear E
        by_cases aw:m<32
        ·have Z:x%32768<c.L.length:=by rw [a.hL];exact Y
         have bb:(x:Int)%32768<(R'.L.length:Int):=by
          have:=a.at'.fJ
          rcases this.2 with ⟨e,_⟩ | ⟨g',ax,cur,e,_⟩
          ·cases e
          ·have:R'.L.length=c.L.length:=by injection e
           omega
         have eL:R'.L.length=c.L.length:=by
          rcases a.at'.fJ.2 with ⟨e,_⟩ | ⟨g',ax,cur,e,_⟩
          ·cases e
          ·injection e
         have G:=a.at'.fJ;have c0:=a.at'.vF;rw [eL] at G;have l1:=oQ G a.at'.lens _ Z;have l2:=oP G a.at'.lens _ Z;have t:=ah (FD (cl c.L (x%32768)) (2*(m:Int)) wr (je a.at'.lens Z) om om);rw [show (2*(m:Int)).toNat=2*m by omega] at t;have a5:=iK (cl c.L (x%32768)) (2*m);generalize hy:num (cl c.L (x%32768)) (2*m)=y at t a5;have z:=ah hy;have l:=ah a;clear hy a eL G
         go_wp2_with fail
         refine t.mono ?_;rintro e w4 ⟨rfl,az⟩;have A:=l.below az;clear t l az l1 l2 c0
         by_cases ab:y=0
         ·subst ab;have H:=ah A;clear A;go_wp2;go_roundw
          case rel=>
           refine ⟨m+1,c,om,gn,H.mono om,aA ⟨rfl,Y,?_⟩⟩;rw [uh C,show 32 - m=(32 - (m+1))+1 by omega,amP _ _ _ _ (uh z)]
          case measure=>exact bW
         ·have dy:((y:Int) != 0)=true:=by rw [ou];omega
          have o:=ah (aeX w4 f _ v c A.at' (by rw [A.hL];exact jF) ((y:Int)%32768) 3 ((x:Int)%32768) om om om om (A.low.mono om));simp only [show (3:Int).toNat=3 from rfl,show ((y:Int)%32768).toNat=y%32768 by omega,show ((x:Int)%32768).toNat=x%32768 by omega] at o;have H:=ah A;clear A
          go_wp2_with fail
          refine o.mono ?_;rintro e w5 ⟨rfl,aD,aE⟩;have g5:=ah (H.told aD aE);clear o aD aE H;have B:(((tell c (y%32768) 3 (x%32768)).1=true∧T=o8 (x%32768) (32 - (m+1)) (m+1) (tell c (y%32768) 3 (x%32768)).2)∨((tell c (y%32768) 3 (x%32768)).1=false∧T=(false,(tell c (y%32768) 3 (x%32768)).2))):=by
           have e:=uh C;rw [show 32 - m=(32 - (m+1))+1 by omega] at e;cases ht:(tell c (y%32768) 3 (x%32768)).1 with
           | true=>exact aA ⟨rfl,by rw [e,amO _ _ _ _ (by rw [uh z];exact ab) (by rw [uh z];exact ht),uh z]⟩
           | false=>exact ay ⟨rfl,by rw [e,awQ _ _ _ _ (by rw [uh z];exact ab) (by rw [uh z];exact ht),uh z]⟩
          have a6:=ah B;clear B C;generalize (tell c (y%32768) 3 (x%32768)).1=bd at*;generalize (tell c (y%32768) 3 (x%32768)).2=R5 at*;go_wp2;go_roundw
          case rel=>
           refine ⟨m+1,R5,om,gn,g5.mono om,?_⟩;rcases uh a6 with ⟨rfl,e⟩ | ⟨rfl,e⟩
           ·exact aA ⟨rfl,Y,e⟩
           ·exact ay ⟨rfl,e⟩
          case measure=>exact bW
        ·have aL:m=32:=om;subst aL;have l:=ah a;clear a;go_wp2;go_roundw
         case rel=>
          refine ⟨k+1,c,om,gn,l.mono om,aA ⟨rfl,M,?_⟩⟩;rw [uh HT,uh C];rfl
         case measure=>exact bW
       ·have C:=ah E;clear E;have l:=ah a;clear a
        by_cases aw:m<32
        all_goals
         go_wp2;go_roundw
         case rel=>
          refine ⟨k+1,c,om,gn,l.mono om,ay ⟨rfl,?_⟩⟩;rw [uh HT,uh C];rfl
         case measure=>exact bW
   ·have aM:k=32:=om;subst aM;have l:=ah a;clear a;go_wp2;go_ret;have e:tree R r=(true,R'):=by rw [uh q];rfl
    rw [e];exact ⟨rfl,l.at',HW.trans l.kept,l.hL,l.hR,l.low.mono om⟩
  ·have q:=ah D;clear D;have l:=ah a;clear a;go_wp2
   all_goals
    go_ret;rw [uh q];exact ⟨rfl,l.at',HW.trans l.kept,l.hL,l.hR,l.low.mono om⟩
end
def ab7 (L:List aj) (n:Nat):aQ L n<256:=uy _ _
def ap4 (w:World) (f:Nat) (Lv s:Value) (R:aU) (h:bY w f Lv s R) (z:5≤R.L.length) (y:vk 1000000 R):
  Calls Tryz.prog 77 #[.pointer (some ⟨f,0,none⟩)] w fun e j=>e= .returned (.int .i64 (qB R 256 0))∧j=w:=by
 have c0:=h.vF;obtain ⟨a,cap,rfl⟩:=gQ h.fJ
 go_enter Tryz.func77,Tryz.ntmps77
 go_wp2
 go_loopw [3] (fun i j=> ∃ k:Nat,k≤256∧i= .int .i64 k∧j=w∧qB R 256 0=qB R (256 - k) k) (fun i _=>256 - (intOf i).toNat)
 case atStart=>exact ⟨0,om,rfl,rfl,rfl⟩
 case round=>
  obtain ⟨k,hk,rfl,rfl,he⟩:=hrel;have l:=ah he;clear he
  by_cases A:k<256
  ·have G:=h.Ud k A;have hu:=y k;have m:=ah (Uk wr f _ s R h (k:Int) om om z);rw [tZ] at m;have H:=ab7 R.L k;have t:ET R k=((decide (k<R.L.length) && decide (aQ R.L k<R.used.getD k 0)) || (aQ R.L k == 255 || (decide (R.L.length≤k) && aQ R.L k != 0))):=rfl;have o:ET R k=false→qB R 256 0=qB R (256 - (k+1)) (k+1):=fun n=>by
    rw [uh l,show 256 - k=(256 - (k+1))+1 by omega,qB,n];rfl
   have p:ET R k=true→qB R 256 0=(k:Int):=fun n=>by
    rw [uh l,show 256 - k=(256 - (k+1))+1 by omega,qB,n];rfl
   generalize ET R k=bc at*;have b:=ah t;have d:=ah o;have c:=ah p;clear t o p;generalize aQ R.L k=q at*;generalize R.used.getD k 0=u at*
   go_wp2_with fail
   refine m.mono ?_;rintro e I ⟨rfl,rfl⟩;clear m
   by_cases v:k<R.L.length
   ·have dl:decide ((k:Int)<(R.L.length:Int))=true:=by simp;omega
    have B:decide ((R.L.length:Int)≤(k:Int))=false:=by simp;omega
    by_cases x:q<u
    ·have D:decide ((q:Int)<(u:Int))=true:=by simp;omega
     have e:=uh c (by rw [uh b];simp [v,x]);have E:=ah e;clear e b d c;go_wp2;go_ret;exact ⟨by rw [uh E];rfl,rfl⟩
    ·have D:decide ((q:Int)<(u:Int))=false:=by simp;omega
     by_cases g:q=255
     ·subst g;have e:=uh c (by rw [uh b];simp);have E:=ah e;clear e b d c;go_wp2;go_ret;exact ⟨by rw [uh E];rfl,rfl⟩
     ·have F:((q:Int) == 255)=false:=by rw [lY];omega
      have e:=uh d (by rw [uh b];simp [x,g];omega);have E:=ah e;clear e b d c;go_wp2;go_roundw
      case rel=>exact ⟨k+1,om,gn,by trivial,uh E⟩
      case measure=>exact bW
   ·have dl:decide ((k:Int)<(R.L.length:Int))=false:=by simp;omega
    have B:decide ((R.L.length:Int)≤(k:Int))=true:=by simp;omega
    by_cases g:q=255
    ·subst g;have e:=uh c (by rw [uh b];simp);have E:=ah e;clear e b d c;go_wp2;go_ret;exact ⟨by rw [uh E];rfl,rfl⟩
    ·have F:((q:Int) == 255)=false:=by rw [lY];omega
     by_cases r:q=0
     ·subst r;have e:=uh d (by rw [uh b];simp [v]);have E:=ah e;clear e b d c;go_wp2;go_roundw
      case rel=>exact ⟨k+1,om,gn,by trivial,uh E⟩
      case measure=>exact bW
     ·have J:((q:Int) != 0)=true:=by rw [ou];omega
      have e:=uh c (by rw [uh b];simp [r];omega);have E:=ah e;clear e b d c;go_wp2;go_ret;exact ⟨by rw [uh E];rfl,rfl⟩
  ·have C:k=256:=om;subst C;go_wp2;go_ret;exact ⟨by rw [uh l];rfl,rfl⟩
def aiD (w:World) (f:Nat) (Lv m:Value) (R:aU) (h:bY w f Lv m R) (A:R.L.length≤256) (x:6≤R.L.length):
  Calls Tryz.prog 117 #[.pointer (some ⟨f,0,none⟩)] w fun e b=>e= .returned (.int .i64 (Fb R.L:Nat))∧b=w:=by
 have c0:=h.vF;obtain ⟨a,cap,rfl⟩:=gQ h.fJ;have y:(R.L.length:Int)≤256:=om;have o:bF (fun k=>decide (6≤k) && aQ R.L k == 0) 6=0:=by simp [bF]
 have p:Fb R.L=256 - R.L.length+bF (fun k=>decide (6≤k) && aQ R.L k == 0) R.L.length:=rfl;have v:=ah p;have r:=ah o;clear p o
 go_enter Tryz.func117,Tryz.ntmps117
 go_wp2
 go_loopw [3,4] (fun n i b=> ∃ k c:Nat,6≤k∧k≤R.L.length∧i= .int .i64 k∧b=w∧c≤k∧n= .int .i64 (256 - (R.L.length:Int)+c)∧bF (fun k=>decide (6≤k) && aQ R.L k == 0) k=c) (fun _ i _=>R.L.length - (intOf i).toNat)
 case atStart=>exact ⟨6,0,om,om,rfl,rfl,om,sm,uh r⟩
 case round=>
  obtain ⟨k,c,u,hk,rfl,rfl,hc,rfl,he⟩:=hrel;have s:=ah he;clear he r
  by_cases z:k<R.L.length
  ·have d:=ah (Uk wr f _ m R h (k:Int) om om om);rw [tZ] at d;have hs:bF (fun k=>decide (6≤k) && aQ R.L k == 0) (k+1)=c+if aQ R.L k=0 then 1 else 0:=by
    rw [bF,uh s]
    congr 1
    simp [u]
   have t:=ah hs;clear hs;generalize aQ R.L k=q at*
   go_wp2_with fail
   refine d.mono ?_;rintro e B ⟨rfl,rfl⟩;clear d
   by_cases g:q=0
   ·subst g;go_wp2;go_roundw
    case rel=>exact ⟨k+1,c+1,om,om,gn,by trivial,om,gn,by rw [uh t];rfl⟩
    case measure=>exact bW
   ·have C:((q:Int) == 0)=false:=by rw [lY];omega
    go_wp2;go_roundw
    case rel=>exact ⟨k+1,c,om,om,gn,by trivial,om,rfl,by rw [uh t,ak g];rfl⟩
    case measure=>exact bW
  ·have j:k=R.L.length:=om;have l:=ah j;clear j;go_wp2;go_ret;refine ⟨VJ ?_,rfl⟩;have e:=uh v;rw [← uh l,uh s] at e;have D:=uh l;omega
end Go.Proofs.YtknjjjenklfeoaaGreatDoor
