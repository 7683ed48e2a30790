import Derived.Test.YtknjjjenklfeoaaGreatDoorO00
import Derived.OrdersHeld
set_option maxHeartbeats 8000000
set_option maxRecDepth 100000
set_option linter.all false
namespace Go.Proofs.YtknjjjenklfeoaaGreatDoor
open Go.RowKit
section
theorem iq {w:World} {base:Nat} {e:TypeId} {size:Nat} {v:Value} {n:Nat} {xs:List Value} (h:w.ownsRow base e size v n xs): ∃ a cap,v= .slice a n cap:=by
 rcases h.2 with ⟨rfl,rfl⟩ | ⟨g,cap,_,rfl,_⟩
 ·exact ⟨none,0,rfl⟩
 ·exact ⟨_,cap,rfl⟩
theorem aui (w:World) (f:Nat) (Lv Rv:Value) (R:aU) (h:bV w f Lv Rv R) (hL:R.L.length≤256) (n kind at':Nat) (hn:n<65536) (hno:Dn R n kind=true):
  Calls Tryz.prog 138 #[.pointer (some ⟨f,0,none⟩),.int .i64 n,.int .i64 kind,.int .i64 at'] w fun e w'=>
   e= .returned (.bool false)∧bV w' f Lv Rv { R with bad:=at' }∧Kept (fun k=>k=f) w w':=by
 have hb:=h.QN at';have hk:=Kept.only w f 514 (.int .i64 at');have c0:=h.uN;have cB:=h.CY;have hfz:=h.fz;obtain ⟨a,cap,rfl⟩:=iq h.fF
 by_cases h6:n<6
 ·have d6:decide ((n:Int)<6)=true:=by simp;omega
  clear hno
  go_enter Tryz.func138,Tryz.ntmps138
  go_wp2;go_ret;exact ⟨rfl,hb,hk⟩
 ·have d6:decide ((n:Int)<6)=false:=by simp;omega
  by_cases hl:R.L.length≤n
  ·have dl:decide ((R.L.length:Int)≤(n:Int))=true:=by simp;omega
   clear hno
   go_enter Tryz.func138,Tryz.ntmps138
   go_wp2;go_ret;exact ⟨rfl,hb,hk⟩
  ·have dl:decide ((R.L.length:Int)≤(n:Int))=false:=by simp;omega
   have hn0:(0:Int)≤(n:Int):=om;have hn1:(n:Int)<256:=om;have ct:=h.afB n om;simp only [Dn,h6,hl,decide_false,EO,vU,Bool.or_eq_true,nR,Rx] at hno;obtain ⟨ht,hx⟩:=hno;generalize R.told.getD n 0=t at*;have dt:(((t:Nat):Int) != 0)=true:=by rw [nR];omega
   by_cases hk1:t=kind
   ·have hx1:kind=1:=by rcases hx with hx | hx <;> omega
    subst hx1;subst hk1;clear hx
    go_enter Tryz.func138,Tryz.ntmps138
    go_wp2;go_ret;exact ⟨rfl,hb,hk⟩
   ·have dk:(((t:Nat):Int) != (kind:Int))=true:=by rw [nR];omega
    clear hx
    go_enter Tryz.func138,Tryz.ntmps138
    go_wp2;go_ret;exact ⟨rfl,hb,hk⟩
theorem auj (w:World) (f:Nat) (Lv Rv:Value) (R:aU) (h:bV w f Lv Rv R) (hL:R.L.length≤256) (n kind at':Nat) (hn:n<65536) (hno:Dn R n kind=false) (hlow:uK 1000000 R):
  Calls Tryz.prog 138 #[.pointer (some ⟨f,0,none⟩),.int .i64 n,.int .i64 kind,.int .i64 at'] w fun e w'=>
   e= .returned (.bool true)∧bV w' f Lv Rv { R with told:=R.told.set n kind,used:=R.used.set n (R.used.getD n 0+1) }∧Kept (fun k=>k=f) w w':=by
 simp only [Dn,Bj,decide_eq_false_iff_not] at hno;obtain ⟨h6,hl,hx⟩:=hno;have d6:decide ((n:Int)<6)=false:=by simp;omega
 have dl:decide ((R.L.length:Int)≤(n:Int))=false:=by simp;omega
 have hn0:(0:Int)≤(n:Int):=om;have hn1:(n:Int)<256:=om;have c0:=h.uN;have hfz:=h.fz;have ct:=h.afB n om;have hb1:=h.att n kind om;have cu:=hb1.SA n om;have hfz1:=hb1.fz;have hb2:=hb1.aki n (R.used.getD n 0+1) om;have hk:Kept (fun k=>k=f) w ((w.setCell ⟨f,2+n,none⟩ (.int .i64 kind)).setCell ⟨f,258+n,none⟩ (.int .i64 ((R.used.getD n 0+1:Nat):Int))):=(Kept.only w f _ _).trans (Kept.only _ f _ _);have hu:=hlow n;simp only at cu;obtain ⟨a,cap,rfl⟩:=iq h.fF;generalize R.told.getD n 0=t at*;generalize R.used.getD n 0=u at*;have hu2:(u:Int)≤1000000:=om;rw [show ((u+1:Nat):Int)=(u:Int)+1 by omega] at hb2 hk;have Hb2:=ah (hb2.drew);have Hk:=ah (hk.drew);clear hb2 hk
 by_cases ht:t=0
 ·subst ht;clear hx
  go_enter Tryz.func138,Tryz.ntmps138
  go_wp2
  go_region
  go_wp2;go_ret;exact ⟨rfl,uh Hb2,uh Hk⟩
 ·have dt:(((t:Nat):Int) != 0)=true:=by rw [nR];omega
  have hx':t=kind∧kind≠1:=by
   have e:(t != 0)=true:=by rw [nR];exact ht
   rw [e,tC,Bj] at hx;exact ⟨by simpa using hx.1,by simpa using hx.2⟩
  obtain ⟨rfl,h1⟩:=hx';have d1:((t:Int) == 1)=false:=by rw [lI];omega
  clear hx
  go_enter Tryz.func138,Tryz.ntmps138
  go_wp2
  go_region
  go_wp2;go_ret;exact ⟨rfl,uh Hb2,uh Hk⟩
theorem adp (w:World) (f:Nat) (Lv Rv:Value) (R:aU) (h:bV w f Lv Rv R) (hL:R.L.length≤256) (n kind at':Int) (hn0:0≤n) (hn:n<65536) (hk0:0≤kind) (ha:0≤at') (hlow:uK 1000000 R):
  Calls Tryz.prog 138 #[.pointer (some ⟨f,0,none⟩),.int .i64 n,.int .i64 kind,.int .i64 at'] w fun e w'=>
   e= .returned (.bool (tell R n.toNat kind.toNat at'.toNat).1)∧bV w' f Lv Rv (tell R n.toNat kind.toNat at'.toNat).2∧Kept (fun k=>k=f) w w':=by
 obtain ⟨n,rfl⟩:=CP hn0;obtain ⟨kind,rfl⟩:=CP hk0;obtain ⟨at',rfl⟩:=CP ha;simp only [vC];cases hno:Dn R n kind with
 | true=>
  rw [show tell R n kind at'=(false,{ R with bad:=at' }) by simp [tell,hno]];exact aui w f Lv Rv R h hL n kind at' om hno
 | false=>
  rw [show tell R n kind at'=(true,{ R with told:=R.told.set n kind,used:=R.used.set n (R.used.getD n 0+1) }) by simp [tell,hno]];exact auj w f Lv Rv R h hL n kind at' om hno hlow
theorem ajZ {w:World} {base:Nat} {g cap:Nat} {L:List aj} (h:w.ownsRow base 38 64 (.slice (some ⟨g,0,none⟩) L.length cap) L.length (aQ L)) (hl: ∀ c ∈ L,c.length=64)
  (k j:Nat) (hk:k<L.length) (hj:j<64):w.cell? ⟨g,k*64+j,none⟩=some (.int .u8 (aI (cl L k) j:Nat)):=by
 rw [h.cellAt (k*64+j) om,PO L hl k hk j hj,uO _ _ (by rw [iM hl hk];exact hj)]
theorem aj0 {w:World} {base:Nat} {g cap:Nat} {L:List aj} (h:w.ownsRow base 38 64 (.slice (some ⟨g,0,none⟩) L.length cap) L.length (aQ L)) (hl: ∀ c ∈ L,c.length=64)
  (k:Nat) (hk:k<L.length):w.rangeAt g (k*64) (cv (cl L k)):=by
 intro j v hv;have hj:j<64:=by
  have:=(FW.1 hv).1
  rw [bg,iM hl hk] at this;exact this
 rw [ajZ h hl k j hk hj];rw [uO _ _ (by rw [iM hl hk];exact hj)] at hv;exact hv
theorem gB {w:World} {base:Nat} {e:TypeId} {size:Nat} {v:Value} {n:Nat} {xs:List Value} (h:w.ownsRow base e size v n xs) (hn:0<n): ∃ g cap,v= .slice (some ⟨g,0,none⟩) n cap∧n≤cap:=by
 rcases h.2 with ⟨rfl,rfl⟩ | ⟨g,cap,_,rfl,_,_,hc,_⟩
 ·omega
 ·exact ⟨g,cap,rfl,hc⟩
theorem SG (w:World) (f:Nat) (Lv Rv:Value) (R:aU) (h:bV w f Lv Rv R) (n:Int) (h0:0≤n) (h1:n<256) (hL:5≤R.L.length):
  Calls Tryz.prog 79 #[.pointer (some ⟨f,0,none⟩),.int .i64 n] w fun e w'=>e= .returned (.int .i64 (aS R.L n.toNat:Nat))∧w'=w:=by
 obtain ⟨n,rfl⟩:=CP h0;rw [vC];obtain ⟨g,cap,rfl,hc⟩:=gB h.fF om;have c0:=h.uN;have cb:=ajZ h.fF h.lens (1+n / 64) (n%64) om om;have bl:=tV (cl R.L (1+n / 64)) (n%64);have hLi:(5:Int)≤(R.L.length:Int):=om;have Hc:Hid (aS R.L n=aI (cl R.L (1+n / 64)) (n%64)):=rfl
 go_enter Tryz.func79,Tryz.ntmps79
 go_wp2;go_ret;exact ⟨rfl,rfl⟩
theorem aiA (w:World) (f:Nat) (Lv Rv:Value) (R:aU) (h:bV w f Lv Rv R) (x:Nat) (h1:x%32768<256) (hx:x<65536) (hL:5≤R.L.length) (hlow:uK 1000000 R):
  Calls Tryz.prog 139 #[.pointer (some ⟨f,0,none⟩),.int .i64 x] w fun e w'=>e= .returned (.tuple #[.bool (oZ R x),.int .i64 (sG R x:Nat)])∧w'=w:=by
 have cu:=h.SA (x%32768) h1;have hu:=hlow (x%32768);have hi1:(x:Int)%32768<256:=om;have Hb:Hid (oZ R x=if 32768≤x then (R.used.getD (x%32768) 0 != 1 || aS R.L (x%32768) != 1) else false):=rfl;have Hn:Hid (sG R x=if 32768≤x then 0 else if R.used.getD (x%32768) 0=1 then 1 else 0):=rfl;generalize R.used.getD (x%32768) 0=u at*
 by_cases hm:32768≤x
 ·have dm:decide ((32768:Int)≤(x:Int))=true:=by simp;omega
  have Hn0:Hid (sG R x=0):=by rw [uh Hn,au hm];rfl
  clear Hn
  by_cases hu1:u=1
  ·subst hu1;have Hb0:Hid (oZ R x=(aS R.L (x%32768) != 1)):=by rw [uh Hb,au hm];rfl
   clear Hb;have hcnt:=SG w f Lv Rv R h ((x%32768:Nat):Int) om om hL;rw [vC] at hcnt;have zB:=ah hcnt;clear hcnt;have hci:(((aS R.L (x%32768):Nat):Int) != 1)=(aS R.L (x%32768) != 1):=by
    rw [Vk];simp only [nR];omega
   have Hci:=ah hci;clear hci;generalize aS R.L (x%32768)=q at*
   go_enter Tryz.func139,Tryz.ntmps139
   go_wp2_with fail
   refine zB.mono ?_;rintro e w' ⟨rfl,rfl⟩;go_wp2;go_ret2;rw [uh Hb0,uh Hn0,uh Hci];exact ⟨rfl,rfl⟩
  ·have Hb0:Hid (oZ R x=true):=by
    have e:(u != 1)=true:=by rw [nR];exact hu1
    rw [uh Hb,au hm,e];rfl
   clear Hb;have du:((u:Int) == 1)=false:=by rw [lI];omega
   go_enter Tryz.func139,Tryz.ntmps139
   go_wp2;go_ret2;rw [uh Hb0,uh Hn0];exact ⟨rfl,rfl⟩
 ·have dm:decide ((32768:Int)≤(x:Int))=false:=by simp;omega
  have Hb0:Hid (oZ R x=false):=by rw [uh Hb,ak hm];rfl
  clear Hb
  by_cases hu1:u=1
  ·subst hu1;have Hn0:Hid (sG R x=1):=by rw [uh Hn,ak hm];rfl
   clear Hn
   go_enter Tryz.func139,Tryz.ntmps139
   go_wp2;go_ret2;rw [uh Hb0,uh Hn0];exact ⟨rfl,rfl⟩
  ·have Hn0:Hid (sG R x=0):=by rw [uh Hn,ak hm,ak hu1];rfl
   clear Hn;have du:((u:Int) == 1)=false:=by rw [lI];omega
   go_enter Tryz.func139,Tryz.ntmps139
   go_wp2;go_ret2;rw [uh Hb0,uh Hn0];exact ⟨rfl,rfl⟩
def xH (x y:Value):Sem Bool:=Op.equalIn 10000 38 x y
theorem jG (x y:Value):Op.equalIn 10000 38 x y=xH x y:=rfl
theorem wE {a b:List UInt8} (ha:a.length=64) (hb:b.length=64) (w:World):(xH (.agg (cv a).toArray) (.agg (cv b).toArray)).run Tryz.prog w= .ok (decide (a=b)) w:=acT 9998 a b ha hb w
def aaT (x y:Value):Sem Bool:=Op.equalIn 10000 67 x y
theorem SL (x y:Value):Op.equalIn 10000 67 x y=aaT x y:=rfl
theorem as2 {C D:List aj} (hC:EP C) (hD:EP D) (hc:C.length=64) (hd:D.length=64) (w:World):(aaT (.agg (aQ C).toArray) (.agg (aQ D).toArray)).run Tryz.prog w= .ok (decide (C=D)) w:=akb 9997 C D hC hD hc hd w
section
variable {P:Program} {ops:Array Oper} {Q:Exit→Act→World→Prop} {md:Region.Mode} {T:World→Prop} {k:Nat}
def uZ (P:Program) (md:Region.Mode) (ops:Array Oper) (Q:Exit→Act→World→Prop) (T:World→Prop) (k:Nat):Nat→Array Bool→Act→World→Prop
 | 0,listed,a,w=>Region.ready md ops listed=[]∧Q .normal a w
 | fuel+1,listed,a,w=>
  (Region.ready md ops listed=[]→Q .normal a w)∧
  ∀ i ∈ Region.ready md ops listed,wpOp P ops Q i (fun a' w'=>(i=k∨T w')∧uZ P md ops Q T k fuel (listed.setIfInBounds i true) a' w') a w
theorem ak6: ∀ (fuel:Nat) (listed:Array Bool) (a:Act) (w:World),uZ P md ops Q T k fuel listed a w→wpAny P md ops Q fuel listed a w
 | 0,_,_,_,h=>h
 | fuel+1,_,_,_,h=>⟨h.1,fun i hi=>wpOp_mono (fun a' w' h'=>ak6 fuel _ a' w' h'.2) (h.2 i hi)⟩
theorem au7 {i:Nat} {oi ok:Oper} {v:Value} (hi:ops[i]? = some oi) (hok:ops[k]? = some ok) (ao6: ∃ e ∈ ok.after,Region.binds md e=true∧e.on=i)
  (hsel: ∀ (j:Nat) (o:Oper) cs b,ops[j]? = some o→o.op≠ .select cs b) (hik:i≠k)
  (hQ: ∀ c a w,Q (.panic c) (a.put oi.dst v) w→Q (.panic c) a w):
  ∀ (fuel:Nat) (listed:Array Bool) (a:Act) (w:World),
   (∀ j oj,ops[j]? = some oj→j≠i→listed.getD j true=false→(∀ e ∈ oj.after,Region.binds md e=true→e.on≠i)→oi.apart ops oj=true)→
   i ∈ Region.ready md ops listed→YieldsIf P ops T oi v a→T w→
   uZ P md ops Q T k fuel (listed.setIfInBounds i true) (a.put oi.dst v) w→uZ P md ops Q T k (fuel+1) listed a w:=by
 intro fuel
 induction fuel with
 | zero=>
  intro listed a w _ hr hy hS H;refine ⟨fun h=>(by rw [h] at hr;cases hr),fun j hj=> ?_⟩
  by_cases hji:j=i
  ·subst hji;exact hy.wpOp hi hS ⟨ay hS,H⟩
  ·have:=ready_mono hj hji
   rw [H.1] at this;cases this
 | succ fuel ih=>
  intro listed a w hfree hr hy hS H;refine ⟨fun h=>(by rw [h] at hr;cases hr),fun j hj=> ?_⟩
  by_cases hji:j=i
  ·subst hji;exact hy.wpOp hi hS ⟨ay hS,H⟩
  ·have h1:=H.2 j (ready_mono hj hji);obtain ⟨hjun,oj,hoj,hall⟩:=mem_ready.1 hj;have hnot: ∀ e ∈ oj.after,Region.binds md e=true→e.on≠i:=fun e he hb heq=>by
    have h1:=hall e he hb;have h0:=(mem_ready.1 hr).1;rw [heq] at h1;rcases Jw i listed.size with h' | h'
    ·simp [h'] at h0 h1;rw [h0] at h1;cases h1
    ·simp [OV h'] at h1
   have hjk:j≠k:=fun e=>by
    subst e;rw [hok] at hoj;injection hoj with hoj;subst hoj;obtain ⟨e,he,hb,ho⟩:=ao6;exact hnot e he hb ho
   have h2:=wpOp_putIf hoj (hfree j oj hoj hji hjun hnot) (fun cs b=>hsel i oi cs b hi) (fun cs b=>hsel j oj cs b hoj) hQ hy h1;have hfree': ∀ k ok,ops[k]? = some ok→k≠i→(listed.setIfInBounds j true).getD k true=false→
     (∀ e ∈ ok.after,Region.binds md e=true→e.on≠i)→oi.apart ops ok=true:=fun k ok hk hki hun hno=>by
    refine hfree k ok hk hki ?_ hno
    by_cases hjk:j=k
    ·subst hjk;exact hjun
    ·rw [getD_set_ne true hjk] at hun;exact hun
   refine wpOp_mono (fun a' w' h3=> ?_) h2;have hT:T w':=by
    rcases h3.2.1 with z | z
    ·exact absurd z hjk
    ·exact z
   refine ⟨ay hT,ih (listed.setIfInBounds j true) a' w' hfree' (ready_mono hr (Ne.symm hji)) h3.1 hT ?_⟩;rw [Array.setIfInBounds_comm _ _ hji];exact h3.2.2
def waits (md:Region.Mode) (ops:Array Oper) (k i:Nat):Bool:=i != k && (match ops[k]? with
 | some o=>o.after.any fun e=>Region.binds md e && e.on == i
 | none=>false)
theorem au9 {i:Nat} {oi:Oper} {v:Value} {fuel:Nat} {listed:Array Bool} {a:Act} {w:World} (hi:ops[i]? = some oi) (hk:waits md ops k i=true)
  (hs:Region.noSelect ops=true) (hf:Region.free md ops listed i=true) (hr:(Region.ready md ops listed).contains i=true)
  (hQ: ∀ c a w,Q (.panic c) (a.put oi.dst v) w→Q (.panic c) a w) (hy:YieldsIf P ops T oi v a) (hS:T w)
  (h:uZ P md ops Q T k fuel (listed.setIfInBounds i true) (a.put oi.dst v) w):uZ P md ops Q T k (fuel+1) listed a w:=by
 unfold waits at hk;rw [vU] at hk;obtain ⟨h1,h2⟩:=hk;cases hq:ops[k]? with
 | none=>rw [hq] at h2;cases h2
 | some ok=>
  rw [hq] at h2;simp only [Array.any_eq_true'] at h2;obtain ⟨e,he,h3⟩:=h2;rw [vU] at h3;exact au7 hi hq ⟨e,he,h3.1,by simpa using h3.2⟩ (Region.noSelect_spec hs) (by simpa using h1) hQ fuel listed a w (Region.free_spec hi hf) (by simpa using hr) hy hS h
theorem auc (i:Nat) (v:Value) {oi:Oper} {fuel:Nat} {listed:Array Bool} {a:Act} {w:World} (hy: ∀ W,T W→(execOp a.eval oi).run P W= .ok (.value v) W) (hS:T w)
  (h:uZ P md ops Q T k fuel (listed.setIfInBounds i true) (a.put oi.dst v) w) (hi:ops[i]? = some oi:=by exact rfl) (hk:waits md ops k i=true:=by kernel_rfl)
  (hs:Region.noSelect ops=true:=by kernel_rfl) (hf:Region.free md ops listed i=true:=by kernel_rfl) (hr:(Region.ready md ops listed).contains i=true:=by kernel_rfl)
  (hQ: ∀ c a w,Q (.panic c) (a.put oi.dst v) w→Q (.panic c) a w:=by exact fun _ _ _ h=>h) (hg:Region.wanted oi (yielded ops a.tmps)=true:=by exact rfl):uZ P md ops Q T k (fuel+1) listed a w:=
 au9 hi hk hs hf hr hQ (aA ⟨hg,hy⟩) hS h
theorem akf (l:List Value) (i:Nat) (v:Value):l.toArray.setIfInBounds i v=(l.set i v).toArray:=Af ..
theorem ake (l:List Value) (x v:Value):(x :: l).set 0 v=v :: l:=rfl
theorem akh (l:List Value) (i:Nat) (x v:Value):(x :: l).set (i+1) v=x :: l.set i v:=rfl
theorem tk (i:Nat) {v:Value} {oi:Oper} {fuel:Nat} {listed:Array Bool} {a a':Act} {w:World} (hS:T w) (h:uZ P md ops Q T k fuel (listed.setIfInBounds i true) a' w) (hi:ops[i]? = some oi:=by exact rfl)
  (hy: ∀ W,T W→(execOp a.eval oi).run P W= .ok (.value v) W:=by (intro W hW;(repeat (obtain ⟨_,hW⟩:=hW));go_simp;with_reducible rfl)) (ha:a.put oi.dst v=a':=by (simp only [Act.put,akf,ake,akh];with_reducible rfl))
  (hk:waits md ops k i=true:=by kernel_rfl) (hs:Region.noSelect ops=true:=by kernel_rfl) (hf:Region.free md ops listed i=true:=by kernel_rfl) (hr:(Region.ready md ops listed).contains i=true:=by kernel_rfl)
  (hQ: ∀ c a w,Q (.panic c) (a.put oi.dst v) w→Q (.panic c) a w:=by exact fun _ _ _ h=>h) (hg:Region.wanted oi (yielded ops a.tmps)=true:=by exact rfl):uZ P md ops Q T k (fuel+1) listed a w:=
 auc i v hy hS (by rw [ha];exact h) hi hk hs hf hr hQ hg
theorem au8 {i:Nat} {oi:Oper} {fuel:Nat} {listed:Array Bool} {a:Act} {w:World} (hr:Region.ready md ops listed=[i]) (hi:ops[i]? = some oi)
  (h: ∀ K:Act→World→Prop,(∀ a' w',(i=k∨T w')→uZ P md ops Q T k fuel (listed.setIfInBounds i true) a' w'→K a' w')→if Region.wanted oi (yielded ops a.tmps)=true then Oper.wp P oi a w K Q else K (a.put oi.dst undef) w):uZ P md ops Q T k (fuel+1) listed a w:=by
 refine ⟨fun h0=>(by rw [hr] at h0;cases h0),fun j hj=> ?_⟩;rw [hr,jw] at hj;subst hj;have h:=h (fun a' w'=>(j=k∨T w')∧uZ P md ops Q T k fuel (listed.setIfInBounds j true) a' w') (fun a' w' h1 h2=>⟨h1,h2⟩);unfold wpOp;simp only [hi];split
 ·rename_i hw;rw [au hw] at h;exact aA h
 ·rename_i hw;rw [ak hw] at h;exact h
theorem wo (i:Nat) {oi:Oper} {fuel:Nat} {listed:Array Bool} {a:Act} {w:World}
  (h: ∀ K:Act→World→Prop,(∀ a' w',(i=k∨T w')→uZ P md ops Q T k fuel (listed.setIfInBounds i true) a' w'→K a' w')→if Region.wanted oi (yielded ops a.tmps)=true then Oper.wp P oi a w K Q else K (a.put oi.dst undef) w) (hr:Region.ready md ops listed=[i]:=by kernel_rfl) (hi:ops[i]? = some oi:=by exact rfl):uZ P md ops Q T k (fuel+1) listed a w:=
 au8 hr hi h
theorem wv (i:Nat) {v:Value} {oi:Oper} {fuel:Nat} {listed:Array Bool} {a a':Act} {w:World} (hS:T w) (h:uZ P md ops Q T k fuel (listed.setIfInBounds i true) a' w) (hi:ops[i]? = some oi:=by exact rfl)
  (hy:(execOp a.eval oi).run P w= .ok (.value v) w:=by (go_simp;with_reducible rfl)) (ha:a.put oi.dst v=a':=by (simp only [Act.put,akf,ake,akh];with_reducible rfl))
  (hr:Region.ready md ops listed=[i]:=by kernel_rfl) (hg:Region.wanted oi (yielded ops a.tmps)=true:=by exact rfl):uZ P md ops Q T k (fuel+1) listed a w:=by
 refine ⟨fun h0=>(by rw [hr] at h0;cases h0),fun j hj=> ?_⟩;rw [hr,jw] at hj;subst hj;have hY:YieldsIf P ops (fun W=>W=w) oi v a:=aA ⟨hg,fun W hW=>by rw [hW];exact hy⟩;exact hY.wpOp hi rfl ⟨ay hS,by rw [ha];exact h⟩
theorem tu {listed:Array Bool} {a:Act} {w:World} (hr:Region.ready md ops listed=[]) (h:Q .normal a w): ∀ fuel,uZ P md ops Q T k fuel listed a w
 | 0=>⟨hr,h⟩
 | _+1=>⟨fun _=>h,by rw [hr];simp⟩
theorem yT {id:Nat} {a:Act} {w:World} (T:World→Prop) (k:Nat) (hm:P.follows .mixedOrders=true)
  (h:uZ P .any ops Q T k ops.size (Array.replicate ops.size false) a { w with drawn:=w.drawn+1 }):(Code.region id ops true).wp P Q a w:=
 wp_region_any hm (ak6 _ _ _ _ h)
end
section
variable {P:Program} {ops:Array Oper} {Q:Exit→Act→World→Prop} {md:Region.Mode} {T:World→Prop} {k:Nat}
theorem MJ {i j:Nat} {oi oj:Oper} {fuel:Nat} {listed:Array Bool} {a:Act} {w:World} (hr:Region.ready md ops listed=[i,j]) (hi:ops[i]? = some oi) (hj:ops[j]? = some oj)
  (h1: ∀ K:Act→World→Prop,(∀ a' w',(i=k∨T w')→uZ P md ops Q T k fuel (listed.setIfInBounds i true) a' w'→K a' w')→if Region.wanted oi (yielded ops a.tmps)=true then Oper.wp P oi a w K Q else K (a.put oi.dst undef) w)
  (h2: ∀ K:Act→World→Prop,(∀ a' w',(j=k∨T w')→uZ P md ops Q T k fuel (listed.setIfInBounds j true) a' w'→K a' w')→if Region.wanted oj (yielded ops a.tmps)=true then Oper.wp P oj a w K Q else K (a.put oj.dst undef) w):uZ P md ops Q T k (fuel+1) listed a w:=by
 refine ⟨fun h0=>(by rw [hr] at h0;cases h0),fun q hq=> ?_⟩;rw [hr] at hq;simp only [dD,jM,jO] at hq;rcases hq with rfl | rfl
 ·have h:=h1 (fun a' w'=>(q=k∨T w')∧uZ P md ops Q T k fuel (listed.setIfInBounds q true) a' w') (fun a' w' h1 h2=>⟨h1,h2⟩);unfold wpOp;simp only [hi];split
  ·rename_i hw;rw [au hw] at h;exact aA h
  ·rename_i hw;rw [ak hw] at h;exact h
 ·have h:=h2 (fun a' w'=>(q=k∨T w')∧uZ P md ops Q T k fuel (listed.setIfInBounds q true) a' w') (fun a' w' h1 h2=>⟨h1,h2⟩);unfold wpOp;simp only [hj];split
  ·rename_i hw;rw [au hw] at h;exact aA h
  ·rename_i hw;rw [ak hw] at h;exact h
end
end
section
attribute [local go_sem ↓] dw
attribute [local go_sem] dK
theorem oI {w:World} {base:Nat} {g cap:Nat} {L:List aj} (h:w.ownsRow base 38 64 (.slice (some ⟨g,0,none⟩) L.length cap) L.length (aQ L)) (hl: ∀ c ∈ L,c.length=64)
  (k:Nat) (hk:k<L.length):dN w g (k*64) 64:=sV (aj0 h hl k hk) (by rw [bg,iM hl hk])
theorem oH {w:World} {base:Nat} {g cap:Nat} {L:List aj} (h:w.ownsRow base 38 64 (.slice (some ⟨g,0,none⟩) L.length cap) L.length (aQ L)) (hl: ∀ c ∈ L,c.length=64)
  (k:Nat) (hk:k<L.length):dI w g (k*64) 64=cv (cl L k):=qX (aj0 h hl k hk) (by rw [bg,iM hl hk])
theorem asM (R:List bC) (i:Nat) (hi:i<R.length) (j:Nat) (hj:j<3):(R.flatMap ig)[i*3+j]? = (ig (R.getD i ⟨0,0,[]⟩))[j]? := by
 induction R generalizing i with
 | nil=>simp at hi
 | cons a r ih=>
  cases i with
  | zero=>
   simp only [qA,DF,yV,qR];rw [oJ (by simp [ig];omega)]
  | succ i=>
   have h2:=ih i (by simpa using hi);simp only [qA,Jt];rw [nP (by simp [ig];omega),← h2]
   congr 1
   simp [ig];omega
theorem xU {w:World} {base:Nat} {g cap:Nat} {R:List bC} (h:w.ownsRow base 132 3 (.slice (some ⟨g,0,none⟩) R.length cap) R.length (R.flatMap ig)) (i:Nat) (hi:i<R.length) (j:Nat) (hj:j<3):
  w.cell? ⟨g,i*3+j,none⟩=(ig (R.getD i ⟨0,0,[]⟩))[j]? := by
 rw [h.cellAt (i*3+j) om,asM R i hi j hj]
def rootOf (R:aU) (i:Nat):bC:=R.roots.getD i ⟨0,0,[]⟩
def LP (R:aU) (b:Nat):Nat:=
 if num (cl R.L (rootOf R 0).N) (2*(b / 32))<32768 then 2
 else if num (cl R.L (num (cl R.L (rootOf R 0).N) (2*(b / 32))%32768)) (2*(b%32))<32768 then 1 else 0
theorem aqy (w:World) (f:Nat) (Lv Rv:Value) (R:aU) (h:bV w f Lv Rv R) (b:Nat) (hb:b<64) (h0:0<R.roots.length) (hr:(rootOf R 0).N<R.L.length)
  (hx:num (cl R.L (rootOf R 0).N) (2*(b / 32))%32768<R.L.length) (jk:R.L.length≤256):
  Calls Tryz.prog 116 #[.pointer (some ⟨f,0,none⟩),.int .i64 b] w fun e w'=>e= .returned (.int .i64 (LP R b:Nat))∧aC w w':=by
 obtain ⟨g,cap,rfl,hc⟩:=gB h.fF om;obtain ⟨g2,cap2,rfl,hc2⟩:=gB h.o8 h0;have hG: ∀ d os,bV (Go.Sort.grow (redrawn w d) os) f _ _ R:=fun d os=>h.below (kL w d os);have c0:=fun d os=>(hG d os).uN;have c1:=fun d os=>(hG d os).BG;have cr: ∀ d os,(Go.Sort.grow (redrawn w d) os).cell? ⟨g2,0,none⟩=some (.int .i64 ((rootOf R 0).N:Nat)):=fun d os=>by
  have:=xU (hG d os).o8 0 h0 0 om
  simpa [ig,rootOf] using this
 have l1:=fun d os=>oI (hG d os).fF h.lens _ hr;have l2:=fun d os=>oH (hG d os).fF h.lens _ hr;have hlen:=iM h.lens hr;have Hn:=ah (fun d os=>Em (cl R.L (rootOf R 0).N) (2*(((b:Int) / 32))) (Go.Sort.grow (redrawn w d) os) hlen om om);have hri:((rootOf R 0).N:Int)<(R.L.length:Int):=om;have h0i:(0:Int)<(R.roots.length:Int):=om;clear hG;have Hx:Hid (LP R b=if num (cl R.L (rootOf R 0).N) (2*(b / 32))<32768 then 2
   else if num (cl R.L (num (cl R.L (rootOf R 0).N) (2*(b / 32))%32768)) (2*(b%32))<32768 then 1 else 0):=rfl
 rw [show (2*((b:Int) / 32)).toNat=2*(b / 32) by omega] at Hn;have hxl:=iD (cl R.L (rootOf R 0).N) (2*(b / 32));generalize num (cl R.L (rootOf R 0).N) (2*(b / 32))=x at*
 go_enter Tryz.func116,Tryz.ntmps116
 go_wp2;refine CQ kr kr ?_
 repeat (go_big_quiet_step (exact zA (uh Hn _ _)))
 refine CS ?_;intro _ hw';obtain ⟨⟨dq,osq⟩,hw''⟩:=hw';subst hw'';clear c0 c1 cr l1 l2 Hn;have Hb:=ah (kL w dq osq);generalize Go.Sort.grow (redrawn w dq) osq=w1 at*
 by_cases hlt:x<32768
 ·have dx:decide ((x:Int)<32768)=true:=by simp;omega
  rw [au hlt] at Hx;go_wp2;go_ret;exact ⟨by rw [uh Hx];rfl,uh Hb⟩
 ·have dx:decide ((x:Int)<32768)=false:=by simp;omega
  rw [ak hlt] at Hx;have h1:=h.below Hb;have c0:=h1.uN;have l1:=oI h1.fF h1.lens _ hx;have l2:=oH h1.fF h1.lens _ hx;have hxi:(x:Int)%32768<(R.L.length:Int):=om;have Hn:=ah (Em (cl R.L (x%32768)) (2*(((b:Int)%32))) w1 (iM h.lens hx) om om);rw [show (2*((b:Int)%32)).toNat=2*(b%32) by omega] at Hn;have hyl:=iD (cl R.L (x%32768)) (2*(b%32));generalize num (cl R.L (x%32768)) (2*(b%32))=y at*
  go_wp2_with fail
  refine Hn.mono ?_;rintro e w2 ⟨rfl,hb2⟩;have Hb2:=ah (Hb.trans (hb2.mono Hb.size));clear hb2 Hn l1 l2 c0 h1
  by_cases hy:y<32768
  ·have dy:decide ((y:Int)<32768)=true:=by simp;omega
   rw [au hy] at Hx;go_wp2;go_ret;exact ⟨by rw [uh Hx];rfl,uh Hb2⟩
  ·have dy:decide ((y:Int)<32768)=false:=by simp;omega
   rw [ak hy] at Hx;go_wp2;go_ret;exact ⟨by rw [uh Hx];rfl,uh Hb2⟩
theorem akL (t m k:Nat) (R:aU) (h:num (cl R.L t) (2*k)=0):oN t (m+1) k R=oN t m (k+1) R:=by simp [oN,h]
theorem akK (t m k:Nat) (R:aU) (h:num (cl R.L t) (2*k)≠0) (ht:(tell R (num (cl R.L t) (2*k)%32768) 3 t).1=true):
  oN t (m+1) k R=oN t m (k+1) (tell R (num (cl R.L t) (2*k)%32768) 3 t).2:=by simp [oN,h,ht]
theorem auu (t m k:Nat) (R:aU) (h:num (cl R.L t) (2*k)≠0) (ht:(tell R (num (cl R.L t) (2*k)%32768) 3 t).1=false):
  oN t (m+1) k R=(false,(tell R (num (cl R.L t) (2*k)%32768) 3 t).2):=by simp [oN,h,ht]
structure DK (w0 w':World) (f:Nat) (Lv Rv:Value) (R R':aU) (b:Nat):Prop where
 at':bV w' f Lv Rv R'
 kept:Kept (fun k=>k=f) w0 w'
 hL:R'.L=R.L
 hR:R'.roots=R.roots
 low:uK b R'
theorem DK.below {w0 w' w2:World} {f:Nat} {Lv Rv:Value} {R R':aU} {b:Nat} (h:DK w0 w' f Lv Rv R R' b) (hb:Below w'.heap.size w' w2):DK w0 w2 f Lv Rv R R' b:=
 ⟨h.at'.below hb,h.kept.trans (Kept.dS hb),h.hL,h.hR,h.low⟩
theorem uK.mono {a b:Nat} {R:aU} (h:uK a R) (hab:a≤b):uK b R:=fun n=>jZ (h n) hab
theorem DK.told {w0 w' w2:World} {f:Nat} {Lv Rv:Value} {R R':aU} {b n kind at':Nat} (h:DK w0 w' f Lv Rv R R' b) (hF:bV w2 f Lv Rv (tell R' n kind at').2) (hK:Kept (fun k=>k=f) w' w2):
  DK w0 w2 f Lv Rv R (tell R' n kind at').2 (b+1):=
 ⟨hF,h.kept.trans hK,by rw [zn,h.hL],by rw [MG,h.hR],auh h.low _ _ _⟩
theorem DK.mono {w0 w':World} {f:Nat} {Lv Rv:Value} {R R':aU} {a b:Nat} (h:DK w0 w' f Lv Rv R R' a) (hab:a≤b):DK w0 w' f Lv Rv R R' b:=
 ⟨h.at',h.kept,h.hL,h.hR,h.low.mono hab⟩
theorem auw (w:World) (f:Nat) (Lv Rv:Value) (R:aU) (r:bC) (h:bV w f Lv Rv R) (jk:R.L.length≤256) (hN:r.N<65536) (hA:r.At<65536) (b:Nat) (hbb:b≤100000) (hlow:uK b R):
  Calls Tryz.prog 76 #[.pointer (some ⟨f,0,none⟩),.agg (ig r).toArray] w fun e w'=>
   e= .returned (.bool (tree R r).1)∧DK w w' f Lv Rv R (tree R r).2 (b+2000):=by
 have hW:=(Kept.refl (fun k=>k=f) w).alloc (.cells (ig r).toArray 132);have hB:aC w (w.alloc (.cells (ig r).toArray 132)):=fC;have h0:=h.below hB;have hfb:f≠w.heap.size:=Nat.ne_of_lt h.lt;have b0:(w.alloc (.cells (ig r).toArray 132)).cell? ⟨w.heap.size,0,none⟩=some (.int .i64 (r.N:Nat)):=by rw [vX];rfl
 have b1:(w.alloc (.cells (ig r).toArray 132)).cell? ⟨w.heap.size,1,none⟩=some (.int .i64 (r.At:Nat)):=by rw [vX];rfl
 have hsz:w.heap.size<(w.alloc (.cells (ig r).toArray 132)).heap.size:=sm;have HW:=ah hW;clear hW hB;have Ht:=ah (adp _ f Lv Rv R h0 jk (r.N:Int) 1 (r.At:Int) om om om om (hlow.mono om));have zF:Hid (tree R r=if (tell R r.N 1 r.At).1 then xk r.N 32 0 (tell R r.N 1 r.At).2 else (false,(tell R r.N 1 r.At).2)):=rfl;simp only [vC,show (1:Int).toNat=1 from rfl] at Ht;have g0:DK (w.alloc (.cells (ig r).toArray 132)) (w.alloc (.cells (ig r).toArray 132)) f Lv Rv R R b:=⟨h0,Kept.refl _ _,rfl,rfl,hlow⟩
 go_enter Tryz.func76,Tryz.ntmps76
 go_wp2_with fail
 refine Ht.mono ?_;rintro e w1 ⟨rfl,hF1,hK1⟩;have g1:=g0.told hF1 hK1;have hok:=fun hh=>Ji (R:=R) (n:=r.N) (kind:=1) (at':=r.At) hh;generalize w.alloc (.cells (ig r).toArray 132)=W at*;clear Ht hF1 hK1 g0 h0;generalize (tell R r.N 1 r.At).1=ok1 at*;generalize (tell R r.N 1 r.At).2=R1 at*;clear b1;have Hg1:=ah g1;clear g1;go_wp2
 go_loopw [5,6] (fun ok i w'=> ∃ (k:Nat) (R':aU),k≤32∧i= .int .i64 k∧DK W w' f Lv Rv R R' (b+1+40*k)∧
   ((ok= .bool true∧r.N<R.L.length∧tree R r=xk r.N (32 - k) k R')∨(ok= .bool false∧tree R r=(false,R')))) (fun _ i _=>32 - (intOf i).toNat)
 case atStart=>
  refine ⟨0,R1,om,rfl,uh Hg1,?_⟩;cases ok1 with
  | true=>exact aA ⟨rfl,(hok rfl).2,by rw [uh zF];rfl⟩
  | false=>exact ay ⟨rfl,by rw [uh zF];rfl⟩
 case round=>
  obtain ⟨k,R',hk,rfl,hg,hcase⟩:=hrel;clear Hg1 hok zF;rcases hcase with ⟨rfl,hNL,htr⟩ | ⟨rfl,htr⟩
  ·have zF:=ah htr;clear htr;have abj:r.N<R'.L.length:=by rw [hg.hL];exact hNL
   have hNi:(r.N:Int)<(R'.L.length:Int):=om;have hbox:wr.cell? ⟨w.heap.size,0,none⟩=some (.int .i64 (r.N:Nat)):=by
    rw [hg.kept.cell (p:=⟨w.heap.size,0,none⟩) hsz (fun e=>hfb e.symm)];exact b0
   by_cases hlt:k<32
   ·obtain ⟨g,cap,rfl,hc⟩:=gB hg.at'.fF om;have hG: ∀ d os,bV (Go.Sort.grow (redrawn wr d) os) f _ _ R':=fun d os=>hg.at'.below (kL wr d os);have c0:=fun d os=>(hG d os).uN;have cx:=fun d os=>Ip hbox d os;have l1:=fun d os=>oI (hG d os).fF hg.at'.lens _ abj;have l2:=fun d os=>oH (hG d os).fF hg.at'.lens _ abj;have hlen:=iM hg.at'.lens abj;have Hn:=ah (fun d os=>Em (cl R'.L r.N) (2*(k:Int)) (Go.Sort.grow (redrawn wr d) os) hlen om om);rw [show (2*(k:Int)).toNat=2*k by omega] at Hn;have hxl:=iD (cl R'.L r.N) (2*k);have HX:Hid (num (cl R'.L r.N) (2*k)=num (cl R'.L r.N) (2*k)):=rfl;generalize hx:num (cl R'.L r.N) (2*k)=x at Hn hxl;have Hx:=ah hx;clear hG hx HX;go_wp2;refine CQ kr kr ?_
    repeat (go_big_quiet_step (exact zA (uh Hn _ _)))
    refine CS ?_;intro _ hw';obtain ⟨⟨dq,osq⟩,hw''⟩:=hw';subst hw'';clear c0 cx l1 l2 Hn;have g2:=hg.below (kL wr dq osq);have Tt:=Ip hbox dq osq;clear hbox hg;generalize Go.Sort.grow (redrawn wr dq) osq=w2 at*;have Hg2:=ah g2
    by_cases hx0:x=0
    ·subst hx0;clear g2;go_wp2;go_roundw
     case rel=>
      refine ⟨k+1,R',om,gn,Hg2.mono om,aA ⟨rfl,hNL,?_⟩⟩;rw [uh zF,show 32 - k=(32 - (k+1))+1 by omega,xk,au (uh Hx)]
     case measure=>exact cO
    ·have dx:((x:Int) == 0)=false:=by rw [lI];omega
     by_cases hk1:1<k
     ·have dk:decide ((1:Int)<(k:Int))=true:=by simp;omega
      have cB:=g2.at'.CY;have hfz:=g2.at'.fz;have hb:=g2.at'.QN (r.N:Int);have hK:=Kept.only w2 f 514 (.int .i64 (r.N:Int));have Hb:=ah hb;have HK:=ah hK;clear hb hK g2;go_wp2;go_ret;have e:tree R r=(false,{ R' with bad:=(r.N:Int) }):=by
       rw [uh zF,show 32 - k=(32 - (k+1))+1 by omega,xk,ak (by rw [uh Hx];exact hx0),au hk1]
      rw [e];exact ⟨rfl,uh Hb,(HW.trans Hg2.kept).trans HK,Hg2.hL,Hg2.hR,Hg2.low.mono om⟩
     ·have dk:decide ((1:Int)<(k:Int))=false:=by simp;omega
      have Ht:=ah (adp w2 f _ Rv R' g2.at' (by rw [g2.hL];exact jk) ((x:Int)%32768) 2 (r.N:Int) om om om om (g2.low.mono om));simp only [vC,show (2:Int).toNat=2 from rfl,show ((x:Int)%32768).toNat=x%32768 by omega] at Ht;clear g2;have hT:tree R r=(if (if (tell R' (x%32768) 2 r.N).1 then oN (x%32768) 32 0 (tell R' (x%32768) 2 r.N).2 else (false,(tell R' (x%32768) 2 r.N).2)).1
        then xk r.N (32 - (k+1)) (k+1) (if (tell R' (x%32768) 2 r.N).1 then oN (x%32768) 32 0 (tell R' (x%32768) 2 r.N).2 else (false,(tell R' (x%32768) 2 r.N).2)).2
        else (false,(if (tell R' (x%32768) 2 r.N).1 then oN (x%32768) 32 0 (tell R' (x%32768) 2 r.N).2 else (false,(tell R' (x%32768) 2 r.N).2)).2)):=by
       rw [uh zF,show 32 - k=(32 - (k+1))+1 by omega,xk,ak (by rw [uh Hx];exact hx0),ak hk1,uh Hx];cases (tell R' (x%32768) 2 r.N).1 <;> simp
      have hok2:=fun hh=>Ji (R:=R') (n:=x%32768) (kind:=2) (at':=r.N) hh
      go_wp2_with fail
      refine Ht.mono ?_;rintro e w3 ⟨rfl,hF3,hK3⟩;have g3:=Hg2.told hF3 hK3;have hgL:=Hg2.hL;have hgb:w3.cell? ⟨w.heap.size,0,none⟩=some (.int .i64 (r.N:Nat)):=by
       rw [hK3.cell (p:=⟨w.heap.size,0,none⟩) (World.block_lt_of_cell? _ _ Tt) (fun e=>hfb e.symm)];exact Tt
      clear Ht hF3 hK3 Hg2 Tt zF Hx;generalize hT2:(if (tell R' (x%32768) 2 r.N).1 then oN (x%32768) 32 0 (tell R' (x%32768) 2 r.N).2 else (false,(tell R' (x%32768) 2 r.N).2))=T at hT;generalize (tell R' (x%32768) 2 r.N).1=ok2 at*;generalize (tell R' (x%32768) 2 r.N).2=R2 at*;have HT:=ah hT;have HT2:=ah hT2;have Hg3:=ah g3;clear hT hT2 g3;rw [hgL] at hok2;clear hgL hgb;go_wp2
      go_loopw [5,8] (fun ok j w'=> ∃ (m:Nat) (R3:aU),m≤32∧j= .int .i64 m∧DK W w' f (.slice (some ⟨g,0,none⟩) R'.L.length cap) Rv R R3 (b+1+40*k+1+m)∧
        ((ok= .bool true∧x%32768<R.L.length∧T=oN (x%32768) (32 - m) m R3)∨(ok= .bool false∧T=(false,R3)))) (fun _ j _=>32 - (intOf j).toNat)
      case atStart=>
       refine ⟨0,R2,om,rfl,uh Hg3,?_⟩;cases ok2 with
       | true=>exact aA ⟨rfl,(hok2 rfl).2,by rw [← uh HT2];rfl⟩
       | false=>exact ay ⟨rfl,by rw [← uh HT2];rfl⟩
      case round=>
       obtain ⟨m,R3,hm,rfl,hg,hcase⟩:=hrel;clear Hg3 hok2 HT2;rcases hcase with ⟨rfl,hxL,hTe⟩ | ⟨rfl,hTe⟩
       ·have Pe:=ah hTe;clear hTe
        by_cases hlt2:m<32
        ·have abA:x%32768<R3.L.length:=by rw [hg.hL];exact hxL
         have hxi:(x:Int)%32768<(R'.L.length:Int):=by
          have:=hg.at'.fF
          rcases this.2 with ⟨e,_⟩ | ⟨g',cap',cur,e,_⟩
          ·cases e
          ·have:R'.L.length=R3.L.length:=by injection e
           omega
         have eL:R'.L.length=R3.L.length:=by
          rcases hg.at'.fF.2 with ⟨e,_⟩ | ⟨g',cap',cur,e,_⟩
          ·cases e
          ·injection e
         have hrow:=hg.at'.fF;have c0:=hg.at'.uN;rw [eL] at hrow;have l1:=oI hrow hg.at'.lens _ abA;have l2:=oH hrow hg.at'.lens _ abA;have Hn:=ah (Em (cl R3.L (x%32768)) (2*(m:Int)) wr (iM hg.at'.lens abA) om om);rw [show (2*(m:Int)).toNat=2*m by omega] at Hn;have hyl:=iD (cl R3.L (x%32768)) (2*m);generalize hy:num (cl R3.L (x%32768)) (2*m)=y at Hn hyl;have Hy:=ah hy;have Hg:=ah hg;clear hy hg eL hrow
         go_wp2_with fail
         refine Hn.mono ?_;rintro e w4 ⟨rfl,hb4⟩;have g4:=Hg.below hb4;clear Hn Hg hb4 l1 l2 c0
         by_cases hy0:y=0
         ·subst hy0;have Hg4:=ah g4;clear g4;go_wp2;go_roundw
          case rel=>
           refine ⟨m+1,R3,om,gn,Hg4.mono om,aA ⟨rfl,hxL,?_⟩⟩;rw [uh Pe,show 32 - m=(32 - (m+1))+1 by omega,akL _ _ _ _ (uh Hy)]
          case measure=>exact cO
         ·have dy:((y:Int) != 0)=true:=by rw [nR];omega
          have Ht:=ah (adp w4 f _ Rv R3 g4.at' (by rw [g4.hL];exact jk) ((y:Int)%32768) 3 ((x:Int)%32768) om om om om (g4.low.mono om));simp only [show (3:Int).toNat=3 from rfl,show ((y:Int)%32768).toNat=y%32768 by omega,show ((x:Int)%32768).toNat=x%32768 by omega] at Ht;have Hg4:=ah g4;clear g4
          go_wp2_with fail
          refine Ht.mono ?_;rintro e w5 ⟨rfl,hF5,hK5⟩;have g5:=ah (Hg4.told hF5 hK5);clear Ht hF5 hK5 Hg4;have hcase:(((tell R3 (y%32768) 3 (x%32768)).1=true∧T=oN (x%32768) (32 - (m+1)) (m+1) (tell R3 (y%32768) 3 (x%32768)).2)∨((tell R3 (y%32768) 3 (x%32768)).1=false∧T=(false,(tell R3 (y%32768) 3 (x%32768)).2))):=by
           have e:=uh Pe;rw [show 32 - m=(32 - (m+1))+1 by omega] at e;cases ht:(tell R3 (y%32768) 3 (x%32768)).1 with
           | true=>exact aA ⟨rfl,by rw [e,akK _ _ _ _ (by rw [uh Hy];exact hy0) (by rw [uh Hy];exact ht),uh Hy]⟩
           | false=>exact ay ⟨rfl,by rw [e,auu _ _ _ _ (by rw [uh Hy];exact hy0) (by rw [uh Hy];exact ht),uh Hy]⟩
          have alL:=ah hcase;clear hcase Pe;generalize (tell R3 (y%32768) 3 (x%32768)).1=ok5 at*;generalize (tell R3 (y%32768) 3 (x%32768)).2=R5 at*;go_wp2;go_roundw
          case rel=>
           refine ⟨m+1,R5,om,gn,g5.mono om,?_⟩;rcases uh alL with ⟨rfl,e⟩ | ⟨rfl,e⟩
           ·exact aA ⟨rfl,hxL,e⟩
           ·exact ay ⟨rfl,e⟩
          case measure=>exact cO
        ·have hm32:m=32:=om;subst hm32;have Hg:=ah hg;clear hg;go_wp2;go_roundw
         case rel=>
          refine ⟨k+1,R3,om,gn,Hg.mono om,aA ⟨rfl,hNL,?_⟩⟩;rw [uh HT,uh Pe];rfl
         case measure=>exact cO
       ·have Pe:=ah hTe;clear hTe;have Hg:=ah hg;clear hg
        by_cases hlt2:m<32
        all_goals
         go_wp2;go_roundw
         case rel=>
          refine ⟨k+1,R3,om,gn,Hg.mono om,ay ⟨rfl,?_⟩⟩;rw [uh HT,uh Pe];rfl
         case measure=>exact cO
   ·have hk32:k=32:=om;subst hk32;have Hg:=ah hg;clear hg;go_wp2;go_ret;have e:tree R r=(true,R'):=by rw [uh zF];rfl
    rw [e];exact ⟨rfl,Hg.at',HW.trans Hg.kept,Hg.hL,Hg.hR,Hg.low.mono om⟩
  ·have zF:=ah htr;clear htr;have Hg:=ah hg;clear hg;go_wp2
   all_goals
    go_ret;rw [uh zF];exact ⟨rfl,Hg.at',HW.trans Hg.kept,Hg.hL,Hg.hR,Hg.low.mono om⟩
end
end Go.Proofs.YtknjjjenklfeoaaGreatDoor
