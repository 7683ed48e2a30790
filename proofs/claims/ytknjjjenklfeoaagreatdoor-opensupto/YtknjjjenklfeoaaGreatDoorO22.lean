import Derived.Test.YtknjjjenklfeoaaGreatDoorO21
set_option maxHeartbeats 8000000
set_option maxRecDepth 100000
set_option linter.all false
namespace Go.Proofs.YtknjjjenklfeoaaGreatDoor
open Go.RowKit
section
attribute [local go_sem ↓] dw fP fZ LK Ou OH Ns SL Xe VN Wq VP
attribute [local go_sem] dK fO fV gK gy aV MF Oj Ol QJ Yh Ye QK
def AU (Ps:List jQ) (s:ByteArray):Nat→Nat→Int
 | 0,_=> -1
 | m+1,k=>if bJ (iT Ps k).name=s then (k:Int) else AU Ps s m (k+1)
def xR (D:dY) (s:ByteArray):Int:=AU D.L s D.L.length 0
theorem ajp {w:World} {g k:Nat} {Ps:List jQ} (h:w.rangeAt g (k*4097) (fM (iT Ps k))):w.cell? ⟨g,k*4097,none⟩=some (.string (bJ (iT Ps k).name)):=by
 have:=h 0 (.string (bJ (iT Ps k).name)) rfl
 rw [jL] at this;exact this
theorem acL (w:World) (d:Nat) (Pv:Value) (D:dY) (h:eP w d Pv D) (h4:D.L.length≤1000) (s:ByteArray):
  Calls Tryz.prog 120 #[.pointer (some ⟨d,0,none⟩),.string s] w fun e w'=>e= .returned (.int .i64 (xR D s))∧w'=w:=by
 obtain ⟨C,L⟩:=D;obtain ⟨a,cap,BL⟩:=iq h.row;subst BL;simp only at h4;have c0:w.cell? ⟨d,4096,none⟩=some (.slice a L.length cap):=h.wQ;have HF:Hid (xR ⟨C,L⟩ s=AU L s L.length 0):=rfl;have H:=ah h;clear h
 go_enter Tryz.func120,Tryz.ntmps120
 go_wp2
 go_loopw [5] (fun i w'=> ∃ k:Nat,k≤L.length∧i= .int .i64 k∧w'=w∧AU L s L.length 0=AU L s (L.length - k) k) (fun i _=>L.length - (intOf i).toNat)
 case atStart=>exact ⟨0,om,rfl,rfl,rfl⟩
 case round=>
  obtain ⟨k,hk,rfl,rfl,hl⟩:=hrel
  by_cases hlt:k<L.length
  ·obtain ⟨g2,cap2,e2,_⟩:=gB H.row (show 0<L.length by omega);obtain ⟨rfl,rfl⟩:a=some ⟨g2,0,none⟩∧cap=cap2:=by injection e2 with x1 x2 x3;exact ⟨x1,x3⟩
   have rg:=LZ H.row H.yM k hlt;have c1:=ajp rg;have hki:(k:Int)<(L.length:Int):=om;rw [show L.length - k=(L.length - (k+1))+1 by omega,AU] at hl;clear rg e2;generalize bJ (iT L k).name=q at*
   by_cases h0:q=s
   ·rw [au h0] at hl;have Hl:=ah hl;subst h0;clear hl;go_wp2;go_ret;exact ⟨by rw [uh HF,uh Hl];rfl,by first | rfl | trivial⟩
   ·rw [ak h0] at hl;have Hl:=ah hl;have d0:(q.toList == s.toList)=false:=lI.2 (fun he=>h0 (adO (by rw [← Zk,← Zk];exact he)));clear hl;go_wp2;go_roundw
    case rel=>exact ⟨k+1,om,gn,by first | rfl | trivial,uh Hl⟩
    case measure=>exact cO
  ·have hk4:k=L.length:=om;have Hl:Hid (AU L s L.length 0= -1):=by
    show _=_;rw [hl,hk4,Bf];rfl
   clear hl;go_wp2;go_ret;exact ⟨by rw [uh HF,uh Hl];rfl,by first | rfl | trivial⟩
theorem ajO (Ps:List jQ) (s:ByteArray): ∀ m k,0≤AU Ps s m k→ ∃ i,k≤i∧i<k+m∧AU Ps s m k=(i:Int)
 | 0,k,h=>by simp [AU] at h
 | m+1,k,h=>by
  rw [AU] at h ⊢;split
  ·exact ⟨k,om,om,rfl⟩
  ·rename_i hn;rw [ak hn] at h;obtain ⟨i,h1,h2,h3⟩:=ajO Ps s m (k+1) h;exact ⟨i,om,om,h3⟩
def pK (D:dY) (s:ByteArray):Int × Nat:=if oC s.data.toList=false then (-1,2) else if xR D s<0 then (-1,4) else (xR D s,0)
theorem ads (D:dY) (s:ByteArray):(pK D s=(-1,2)∨pK D s=(-1,4))∨ ∃ i,i<D.L.length∧pK D s=(((i:Nat):Int),0):=by
 unfold pK;split
 ·exact aA (aA rfl)
 ·split
  ·exact aA (ay rfl)
  ·rename_i h;obtain ⟨i,_,h2,h3⟩:=ajO D.L s D.L.length 0 (by unfold xR at h;omega);have h4:xR D s=(i:Int):=h3;exact ay ⟨i,om,by rw [h4]⟩
theorem adt (w:World) (d:Nat) (Pv:Value) (D:dY) (h:eP w d Pv D) (h4:D.L.length≤1000) (s:ByteArray) (hs:s.size≤maxLen):
  Calls Tryz.prog 123 #[.pointer (some ⟨d,0,none⟩),.string s] w fun e w'=>e= .returned (.tuple #[.int .i64 (pK D s).1,.int .i64 ((pK D s).2:Nat)])∧aC w w':=by
 have Hi:=ah (abD s w hs);have Hf:=ah (acL w d Pv D h h4 s);have HT:Hid (pK D s=if oC s.data.toList=false then (-1,2) else if xR D s<0 then (-1,4) else (xR D s,0)):=rfl;clear h;generalize oC s.data.toList=b at*;generalize xR D s=f at*
 go_enter Tryz.func123,Tryz.ntmps123
 go_wp2_with fail
 refine Hi.mono ?_;rintro e w1 ⟨rfl,rfl⟩
 go_wp2_with fail
 refine Hf.mono ?_;rintro e w2 ⟨rfl,rfl⟩;cases b with
 | false=>
  rw [au rfl] at HT;go_wp2;go_ret2;exact ⟨by rw [uh HT];rfl,bG _ _⟩
 | true=>
  rw [ak dc] at HT
  by_cases hf:f<0
  ·have df:decide (f<0)=true:=eH hf;rw [au hf] at HT;go_wp2;go_ret2;exact ⟨by rw [uh HT];rfl,bG _ _⟩
  ·have df:decide (f<0)=false:=gU hf;rw [ak hf] at HT;go_wp2;go_ret2;exact ⟨by rw [uh HT];rfl,bG _ _⟩
def QH (D:dY) (s:ByteArray) (n:Int):aj × Nat:=
 if (pK D s).2=0 then if kP n then (cl (iT D.L (pK D s).1.toNat).C n.toNat,0) else (zc,1) else (zc,(pK D s).2)
theorem arQ {w:World} {g k:Nat} {Ps:List jQ} (hp: ∀ p ∈ Ps,ug p.C) (hk:k<Ps.length) (h:w.rangeAt g (k*4097) (fM (iT Ps k))) (b:Nat) (hb:b<64):w.rangeAt g (k*4097+1+b*64) (cv (cl (iT Ps k).C b)):=by
 have hc:=hp _ (LY hk);intro j v hv;have hl:=iM hc.all (k:=b) (by have:=hc.len;omega);have hj:=(FW.1 hv).1;rw [bg,hl] at hj;have h1:=h ((b*64+j)+1) v (by
  unfold fM;rw [EN,PO _ hc.all b (by have:=hc.len;omega) j hj];exact hv)
 rw [show k*4097+1+b*64+j=k*4097+((b*64+j)+1) by omega];exact h1
theorem arR {w:World} {g k:Nat} {Ps:List jQ} (h:w.rangeAt g (k*4097) (fM (iT Ps k))):w.rangeAt g (k*4097+1) (aQ (iT Ps k).C):=by
 intro j v hv;have h1:=h (j+1) v (by unfold fM;rw [EN];exact hv);rw [show k*4097+1+j=k*4097+(j+1) by omega];exact h1
theorem asr (w:World) (d:Nat) (Pv:Value) (D:dY) (h:eP w d Pv D) (h4:D.L.length≤1000) (s:ByteArray) (hs:s.size≤maxLen) (n:Int):
  Calls Tryz.prog 127 #[.pointer (some ⟨d,0,none⟩),.string s,.int .i64 n] w fun e w'=>e= .returned (.tuple #[.agg (cv (QH D s n).1).toArray,.int .i64 ((QH D s n).2:Nat)])∧aC w w':=by
 obtain ⟨C,L⟩:=D;have L0:=dU.one w (.cells (cv zc).toArray 38);have Ht:=ah (adt _ d Pv ⟨C,L⟩ (h.below L0.below) h4 s hs);have H:=ah h;have L0:=ah L0;obtain ⟨a,cap,BL⟩:=iq h.row;subst BL;simp only at h4;have HR:Hid (QH ⟨C,L⟩ s n=if (pK ⟨C,L⟩ s).2=0 then if kP n then (cl (iT L (pK ⟨C,L⟩ s).1.toNat).C n.toNat,0) else (zc,1) else (zc,(pK ⟨C,L⟩ s).2)):=rfl;have Hb:Hid (∀ W,_):=fun W=>Xc n W;clear h;rcases (show (∃ m,m≠0∧pK ⟨C,L⟩ s=(-1,m))∨ ∃ i,i<L.length∧pK ⟨C,L⟩ s=(((i:Nat):Int),0) by
  rcases ads ⟨C,L⟩ s with (e | e) | ⟨i,hi,e⟩
  ·exact aA ⟨2,dc,e⟩
  ·exact aA ⟨4,dc,e⟩
  ·exact ay ⟨i,hi,e⟩) with ⟨m,hm,e⟩ | ⟨i,hi,e⟩
 ·rw [e,ak hm] at HR;rw [e] at Ht;dsimp only at Ht HR;have d0:(((m:Nat):Int) != 0)=true:=by rw [nR];omega
  clear e
  go_enter Tryz.func127,Tryz.ntmps127
  go_wp2_with fail
  refine Ht.mono ?_;rintro e w1 ⟨rfl,hb1⟩;have L1:=L0.later hb1;have th:=iI L1.o0 0 64 (by simp [bg,aV]);have L3:=L1.setCells 0 rfl 0 (cv zc);rw [jL,qw _ _ (by simp [bg,aV])] at L3;have l3:=gZ L3.o0 aV;have l4:=gY L3.o0 aV;have HB:=ah L3.below;clear L3 L1 hb1 Ht L0;go_wp2;rw [uh HR];refine gV (v:= .tuple #[.agg (cv zc).toArray,.int .i64 (m:Nat)]) (by rw [EK Tryz.results127];simp only [dw];simp [asAddr,dK l3,l4]) rfl ⟨rfl,uh HB⟩
 ·rw [e] at HR Ht;dsimp only at Ht HR;rw [au rfl,vC] at HR;cases hb:kP n with
  | false=>
   rw [hb,ak dc] at HR;rw [hb] at Hb;clear e
   go_enter Tryz.func127,Tryz.ntmps127
   go_wp2_with fail
   refine Ht.mono ?_;rintro e w1 ⟨rfl,hb1⟩;have L1:=L0.later hb1;have th:=iI L1.o0 0 64 (by simp [bg,aV]);have L3:=L1.setCells 0 rfl 0 (cv zc);rw [jL,qw _ _ (by simp [bg,aV])] at L3;have l3:=gZ L3.o0 aV;have l4:=gY L3.o0 aV;have HB:=ah L3.below;clear L3 L1 hb1 Ht L0
   go_wp2_with fail
   refine (uh Hb _).mono ?_;rintro e w2 ⟨rfl,rfl⟩;go_wp2;rw [uh HR];refine gV (v:= .tuple #[.agg (cv zc).toArray,.int .i64 1]) (by rw [EK Tryz.results127];simp only [dw];simp [asAddr,dK l3,l4]) rfl ⟨rfl,uh HB⟩
  | true=>
   rw [hb,au rfl] at HR;rw [hb] at Hb;have hn:0≤n∧n<64:=by simpa [kP] using hb
   obtain ⟨k,rfl⟩:=CP hn.1;rw [vC] at HR;have hk:k<64:=om;have hki:(k:Int)<64:=om;have hii:(i:Int)<(L.length:Int):=om;obtain ⟨g2,cap2,e2,_⟩:=gB H.row (show 0<L.length by omega);obtain ⟨rfl,rfl⟩:a=some ⟨g2,0,none⟩∧cap=cap2:=by injection e2 with x1 x2 x3;exact ⟨x1,x3⟩
   clear e e2 hb hn
   go_enter Tryz.func127,Tryz.ntmps127
   go_wp2_with fail
   refine Ht.mono ?_;rintro e w1 ⟨rfl,hb1⟩;have L1:=L0.later hb1;have hD1:=H.below L1.below;have c1:w1.cell? ⟨d,4096,none⟩=some (.slice (some ⟨g2,0,none⟩) L.length cap):=hD1.wQ;have hpc:=hD1.yM _ (LY hi);have hcl:=iM hpc.all (k:=k) (by have:=hpc.len;omega);have rg:=arQ hD1.yM hi (LZ hD1.row hD1.yM i hi) k hk;have r1:=sV (n:=64) rg (by rw [bg,hcl]);have r2:=qX (n:=64) rg (by rw [bg,hcl]);have th:=iI L1.o0 0 64 (by simp [bg,aV]);generalize cl (iT L i).C k=c at*;have L3:=L1.setCells 0 rfl 0 (cv c);rw [jL,qw _ _ (by simp [bg,aV,hcl])] at L3;have l3:=gZ L3.o0 hcl;have l4:=gY L3.o0 hcl;have HB:=ah L3.below;clear L3 L1 hb1 Ht L0 hD1 rg
   go_wp2_with fail
   refine (uh Hb _).mono ?_;rintro e w2 ⟨rfl,rfl⟩;go_wp2;rw [uh HR];refine gV (v:= .tuple #[.agg (cv c).toArray,.int .i64 0]) (by rw [EK Tryz.results127];simp only [dw];simp [asAddr,dK l3,l4]) rfl ⟨rfl,uh HB⟩
end
section
attribute [local go_sem ↓] dw fP fZ LK Ou OH Ns SL Xe VN Wq VP
attribute [local go_sem] dK fO fV gK gy aV MF Oj Ol QJ Yh Ye QK lY l7
def Kv (Ps Qs:List jQ):Nat→Nat→Bool
 | 0,_=>true
 | m+1,k=>if Ob (iT Ps k) (iT Qs k) then Kv Ps Qs m (k+1) else false
def Yl (D E:dY):Bool:=if D.C=E.C∧D.L.length=E.L.length then Kv D.L E.L D.L.length 0 else false
theorem ajn {p q:jQ}:Ob p q=true↔p=q:=by
 obtain ⟨a,b⟩:=p;obtain ⟨c,d⟩:=q;simp [Ob]
theorem XQ (Ps Qs:List jQ): ∀ m k,Kv Ps Qs m k=true↔ ∀ j,k≤j→j<k+m→iT Ps j=iT Qs j
 | 0,k=>⟨fun _ j h1 h2=>om,fun _=>rfl⟩
 | m+1,k=>by
  rw [Kv];constructor
  ·intro h j h1 h2
   split at h
   ·rename_i hp
    by_cases e:j=k
    ·subst e;exact ajn.1 hp
    ·exact (XQ Ps Qs m (k+1)).1 h j om om
   ·cases h
  ·intro h;rw [au (ajn.2 (h k om om))];exact (XQ Ps Qs m (k+1)).2 fun j h1 h2=>h j om om
theorem akc {D E:dY}:Yl D E=true↔D=E:=by
 obtain ⟨C,L⟩:=D;obtain ⟨C2,L2⟩:=E;unfold Yl;simp only;constructor
 ·intro h
  split at h
  ·rename_i hc;obtain ⟨rfl,hl⟩:=hc
   congr 1
   have:=(XQ L L2 L.length 0).1 h
   apply UY hl;intro i h1 h2
   have:=this i om om
   unfold iT at this;rw [aK,aK,bI h1,bI h2] at this;exact this
  ·cases h
 ·intro h;injection h with h1 h2;subst h1;subst h2;rw [au ⟨rfl,rfl⟩];exact (XQ L L L.length 0).2 fun _ _ _=>rfl
theorem akd (w:World) (d e':Nat) (Pv Qv:Value) (D E:dY) (h:eP w d Pv D) (k:eP w e' Qv E) (hD:D.L.length≤1000) (hE:E.L.length≤1000):
  Calls Tryz.prog 59 #[.pointer (some ⟨d,0,none⟩),.pointer (some ⟨e',0,none⟩)] w fun e w'=>
   e= .returned (.bool (Yl D E))∧aC w w':=by
 obtain ⟨C,L⟩:=D;obtain ⟨C2,L2⟩:=E;obtain ⟨a,cap,BL⟩:=iq h.row;subst BL;obtain ⟨a2,cap2,WI⟩:=iq k.row;subst WI;simp only at hD hE;have c0: ∀ n,(w.drewN n).cell? ⟨d,4096,none⟩=some (.slice a L.length cap):=fun n=>h.wQ;have c1: ∀ n,(w.drewN n).cell? ⟨e',4096,none⟩=some (.slice a2 L2.length cap2):=fun n=>k.wQ;have l1: ∀ n,dN (w.drewN n) d 0 4096:=fun n=>h.has;have l2: ∀ n,dI (w.drewN n) d 0 4096=aQ C:=fun n=>h.cells;have l3: ∀ n,dN (w.drewN n) e' 0 4096:=fun n=>k.has;have l4: ∀ n,dI (w.drewN n) e' 0 4096=aQ C2:=fun n=>k.cells;have he: ∀ w,(aaT (.agg (aQ C).toArray) (.agg (aQ C2).toArray)).run Tryz.prog w= .ok (decide (C=C2)) w:=fun w=>as2 h.cont.all k.cont.all h.cont.len k.cont.len w;have Hs:Hid (Yl ⟨C,L⟩ ⟨C2,L2⟩=if C=C2∧L.length=L2.length then Kv L L2 L.length 0 else false):=rfl;have H:=ah h;have K:=ah k;clear h k
 by_cases hcc:C=C2
 ·by_cases hll:L.length=L2.length
  ·rw [au ⟨hcc,hll⟩] at Hs;rw [eH hcc] at he;have bl:((L.length:Int) != (L2.length:Int))=false:=by rw [hll];simp
   have Hll:=ah hll;have hle:L2.length≤L.length:=om;have hge:L.length≤L2.length:=om;clear hcc hll
   go_enter Tryz.func59,Tryz.ntmps59
   go_wp2
   go_quiet (fail)
   go_wp2
   go_loopw [5] (fun i w'=> ∃ k nq:Nat,k≤L.length∧i= .int .i64 k∧w'=w.drewN nq∧Kv L L2 L.length 0=Kv L L2 (L.length - k) k) (fun i _=>L.length - (intOf i).toNat)
   case atStart=>exact ⟨0,nq,om,rfl,rfl,rfl⟩
   case round=>
    obtain ⟨k,nq2,hk,rfl,rfl,hp⟩:=hrel
    by_cases hlt:k<L.length
    ·have hD0:=H.drewN nq2;have hE0:=K.drewN nq2;obtain ⟨g2,cp2,e2,_⟩:=gB hD0.row (show 0<L.length by omega);obtain ⟨rfl,rfl⟩:a=some ⟨g2,0,none⟩∧cap=cp2:=by injection e2 with x1 x2 x3;exact ⟨x1,x3⟩
     obtain ⟨g3,cp3,e3,_⟩:=gB hE0.row (show 0<L2.length by omega);obtain ⟨rfl,rfl⟩:a2=some ⟨g3,0,none⟩∧cap2=cp3:=by injection e3 with x1 x2 x3;exact ⟨x1,x3⟩
     have rg:=LZ H.row H.yM k hlt;have rg2:=LZ K.row K.yM k (show k<L2.length by omega);have hpc:ug (iT L k).C:=H.yM _ (LY hlt);have hqc:ug (iT L2 k).C:=K.yM _ (LY (show k<L2.length by omega));have m1: ∀ n,dN (w.drewN n) g2 (k*4097) 4097:=fun n=>sV (w:=w) rg (yL hpc);have m2: ∀ n,dI (w.drewN n) g2 (k*4097) 4097=fM (iT L k):=fun n=>qX (w:=w) rg (yL hpc);have m3: ∀ n,dN (w.drewN n) g3 (k*4097) 4097:=fun n=>sV (w:=w) rg2 (yL hqc);have m4: ∀ n,dI (w.drewN n) g3 (k*4097) 4097=fM (iT L2 k):=fun n=>qX (w:=w) rg2 (yL hqc);have hki:(k:Int)<(L.length:Int):=om;have WQ:(k:Int)<(L2.length:Int):=om;have hpe: ∀ w,(aaU (.agg (fM (iT L k)).toArray) (.agg (fM (iT L2 k)).toArray)).run Tryz.prog w= .ok (Ob (iT L k) (iT L2 k)) w:=fun w=>as4 hpc hqc w;rw [show L.length - k=(L.length - (k+1))+1 by omega,Kv] at hp;clear hD0 hE0 e2 e3 rg rg2;cases hq:Ob (iT L k) (iT L2 k) with
     | true=>
      rw [hq] at hpe hp;rw [au rfl] at hp;have Hp:=ah hp;clear hp hq;generalize iT L k=pk at*;generalize iT L2 k=qk at*;go_wp2
      go_quiet (fail)
      go_wp2;go_roundw
      case rel=>exact ⟨k+1,_,om,gn,rfl,uh Hp⟩
      case measure=>exact cO
     | false=>
      rw [hq] at hpe hp;rw [ak dc] at hp;rw [hp] at Hs;clear hp hq;generalize iT L k=pk at*;generalize iT L2 k=qk at*;go_wp2
      go_quiet (fail)
      go_wp2;go_ret;exact ⟨by rw [uh Hs];rfl,(((Kept.refl (fun _=>False) w).drewN nq2).drewN _).below⟩
    ·have hki: ¬ (k:Int)<(L.length:Int):=om;rw [show L.length - k=0 by omega,Kv] at hp;rw [hp] at Hs;clear hp;go_wp2;go_ret;exact ⟨by rw [uh Hs];rfl,((Kept.refl (fun _=>False) w).drewN nq2).below⟩
  ·rw [ak (fun x=>hll x.2)] at Hs;rw [eH hcc] at he;have bl:((L.length:Int) != (L2.length:Int))=true:=by rw [nR];omega
   clear hcc
   go_enter Tryz.func59,Tryz.ntmps59
   go_wp2
   go_quiet (fail)
   go_wp2;go_ret;exact ⟨by rw [uh Hs];rfl,((Kept.refl (fun _=>False) w).drewN nq).below⟩
 ·rw [ak (fun x=>hcc x.1)] at Hs;rw [gU hcc] at he;clear hcc
  go_enter Tryz.func59,Tryz.ntmps59
  go_wp2
  go_quiet (fail)
  go_wp2;go_ret;exact ⟨by rw [uh Hs];rfl,((Kept.refl (fun _=>False) w).drewN nq).below⟩
def IZ (R:aU) (i:Nat):jQ:=⟨(rootOf R i).name,dZ R.L (rootOf R i).N⟩
def Ep (R:aU) (k:Nat):List jQ:=(List.range (k - 1)).map fun i=>IZ R (i+1)
theorem arT (R:aU) (k:Nat) (hk:1≤k):Ep R (k+1)=Ep R k++[IZ R k]:=by
 unfold Ep;rw [show k+1 - 1=(k - 1)+1 by omega,Y7,rE];simp only [jC,KN];rw [show k - 1+1=k by omega]
theorem arS (R:aU) (k:Nat):(Ep R k).length=k - 1:=by simp [Ep]
theorem agd (R:aU):D9 R=⟨dZ R.L (rootOf R 0).N,Ep R R.roots.length⟩:=rfl
theorem afW {R:aU} {f:Nat} {Lv Rv:Value} {w:World} (h:bV w f Lv Rv R) {t:Nat} (hin:rH R.L t):ug (dZ R.L t):=
 ⟨by rw [← aaC];exact aaE h.lens hin 64,by simp [dZ]⟩
def RF (f g2 n cap2 k d:Nat) (r:bC) (Qv:Value) (w':World):Prop:=w'.cell? ⟨f,1,none⟩=some (.slice (some ⟨g2,0,none⟩) n cap2)∧w'.cell? ⟨g2,k*3,none⟩=some (.int .i64 (r.N:Nat))∧w'.cell? ⟨g2,k*3+1,none⟩=some (.int .i64 (r.At:Nat))∧w'.cell? ⟨g2,k*3+2,none⟩=some (.string ⟨r.name.toArray⟩)∧w'.cell? ⟨d,4096,none⟩=some Qv
theorem agh (w:World) (f:Nat) (Lv Rv:Value) (R:aU) (h:bV w f Lv Rv R) (hin: ∀ i,i<R.roots.length→rH R.L (rootOf R i).N) (jk:R.L.length≤256) (hr:0<R.roots.length) (hr2:R.roots.length≤1000):
  Calls Tryz.prog 43 #[.pointer (some ⟨f,0,none⟩)] w fun e w'=>
   ∃ d Qv,e= .returned (.pointer (some ⟨d,0,none⟩))∧w.heap.size≤d∧eP w' d Qv (D9 R)∧(∀ g,Qv.ownBlock=some g→w.heap.size≤g)∧aC w w':=by
 obtain ⟨i0,hi0,hz0,hz1,hz2⟩:=qy Tryz.Xa;have hc0:=afW h (hin 0 hr);have hcs:=fun i hi=>afW h (hin i hi);have hA:EP (dZ R.L (rootOf R 0).N):=hc0.all;have hl64:=hc0.len;obtain ⟨g2,cap2,rfl,_⟩:=gB h.o8 om;have c1:=h.BG;have r0:=xU h.o8 0 om 0 om;have r1:=xU h.o8 0 om 1 om;have r2:=xU h.o8 0 om 2 om;rw [show R.roots.getD 0 ⟨0,0,[]⟩=rootOf R 0 from rfl] at r0 r1 r2;simp only [ig,Ju,EN,jL,yV,qR] at r0 r1 r2;have hri:(0:Int)<(R.roots.length:Int):=om;have Hc:=ah (afX w f Lv _ R (rootOf R 0) h (hin 0 hr) jk);unfold ig at Hc;have Hh:=ah h;have Hcs:=ah hcs;have Gi:=ah hin;clear h hcs hin
 go_enter Tryz.func43,Tryz.ntmps43
 go_wp2_with fail
 refine Hc.mono ?_;rintro e w1 ⟨rfl,hb⟩;have hN:eP (w1.alloc (.cells (vZ ⟨dZ R.L (rootOf R 0).N,[]⟩ (.slice none 0 0)).toArray 70)) w1.heap.size (.slice none 0 0) ⟨dZ R.L (rootOf R 0).N,[]⟩:=⟨aW _ _,wF _ _ _ _,hc0,fun p hp=>by cases hp⟩;have HN:=ah hN;have hsz:=hb.size;have HB:=ah (hb.alloc hb.size (.cells (vZ ⟨dZ R.L (rootOf R 0).N,[]⟩ (.slice none 0 0)).toArray 70));clear hN Hc r0 r1 r2 c1 hb;generalize PU:dZ R.L (rootOf R 0).N=C at*;have HCC:=ah PU;clear PU;go_wp2;generalize w1.alloc (.cells (vZ ⟨C,[]⟩ (.slice none 0 0)).toArray 70)=W1 at*;generalize w1.heap.size=d at*
 go_loopw [4] (fun i w'=> ∃ (k:Nat) (Qv:Value),1≤k∧k≤R.roots.length∧i= .int .i64 k∧eP w' d Qv ⟨C,Ep R k⟩∧(∀ g,Qv.ownBlock=some g→w.heap.size≤g∧g≠d)∧aC w w') (fun i _=>R.roots.length - (intOf i).toNat)
 case atStart=>exact ⟨1,.slice none 0 0,om,om,rfl,uh HN,fun g hg=>(by cases hg),uh HB⟩
 case round=>
  obtain ⟨k,Qv,hk1,hk,rfl,hQ,IG,hb⟩:=hrel;have hF:=Hh.below hb;have c1:=hF.BG
  by_cases hlt:k<R.roots.length
  ·have r0:=xU hF.o8 k hlt 0 om;have r1:=xU hF.o8 k hlt 1 om;have r2:=xU hF.o8 k hlt 2 om;rw [show R.roots.getD k ⟨0,0,[]⟩=rootOf R k from rfl] at r0 r1 r2;simp only [ig,Ju,EN,jL] at r0 r1 r2;have hlk:=arS R k;have hrow:wr.ownsRow 0 139 4097 Qv (k - 1) ((Ep R k).flatMap fM):=by have:=hQ.row;simp only [hlk] at this;exact this
   have hki:(k:Int)<(R.roots.length:Int):=om;have Hp:Hid (Ep R (k+1)=Ep R k++[IZ R k]):=arT R k hk1;have hpc:ug (IZ R k).C:=uh Hcs k hlt;have hfd:f≠d:=fun e=>by have:=Hh.lt;omega
   have hgd:g2≠d:=fun e=>by have:=(Hh.o8.lt g2 rfl).2;omega
   have hdl:=hQ.lt;have hfl:=hF.lt;have hgl:=(hF.o8.lt g2 rfl).2;have Hc:=ah (fun (W:World) (hB:aC wr W)=>afX W f Lv _ R (rootOf R k) (hF.below hB) (uh Gi k hlt) jk);unfold ig at Hc;have HF:=ah hF;have HQ:=ah hQ;have fA:=ah hrow;have Hb:=ah hb;have Gg:=ah IG;have hbs:=hb.size;have hcq: ∀ W,aC wr W→W.cell? ⟨d,4096,none⟩=some Qv:=fun W hB=>(hQ.below hB).wQ;have Hcq:=ah hcq;have c7:wr.drew.cell? ⟨d,4096,none⟩=some Qv:=hQ.wQ;clear hF hQ hrow hb IG hcq;have hbp: ∀ w,(aai #[(0,.string ⟨(rootOf R k).name.toArray⟩),(1,.agg (aQ (dZ R.L (rootOf R k).N)).toArray)]).run Tryz.prog w= .ok (.agg (fM (IZ R k)).toArray) w:=fun w=>QK (nm:=(rootOf R k).name) hpc.all hpc.len;go_wp2;have hT:RF f g2 R.roots.length cap2 k d (rootOf R k) Qv wr.drew:=⟨c1,r0,r1,r2,c7⟩;refine yT (RF f g2 R.roots.length cap2 k d (rootOf R k) Qv) 27 kr ?_;refine tk 0 hT ?_;refine tk 1 hT ?_;refine tk 2 hT ?_;refine tk 3 hT ?_
   refine tk 4 hT ?_;refine tk 5 hT ?_;refine tk 6 hT ?_;refine tk 7 hT ?_;refine tk 8 hT ?_;refine tk 9 hT ?_;refine tk 10 hT ?_;refine tk 11 hT ?_;refine tk 12 hT ?_;refine tk 13 hT ?_;refine tk 14 hT ?_;refine tk 15 hT ?_;refine tk 16 hT ?_;refine tk 17 hT ?_;refine tk 18 hT ?_;refine tk 19 hT ?_;refine tk 20 hT ?_;refine wo 21 fun K21 hK21=> ?_;go_simp;go_at_call 80;refine (uh Hc _ ((bG _ _).drew)).mono ?_;rintro e w2 ⟨rfl,b2⟩;have B2:Hid (aC wr w2):=((bG _ wr).drew).trans b2;have d2:w2.cell? ⟨d,4096,none⟩=some Qv:=uh Hcq _ B2;have d3: ∀ o,(w2.alloc o).cell? ⟨d,4096,none⟩=some Qv:=fun o=>uh Hcq _ (B2.alloc B2.size o);have f2:w2.cell? ⟨f,1,none⟩=some (.slice (some ⟨g2,0,none⟩) R.roots.length cap2):=(HF.below B2).BG;have hgw: ∀ W,aC wr W→ ∀ i,W.cell? ⟨g2,i,none⟩=wr.cell? ⟨g2,i,none⟩:=fun W hB i=>OX (hB.block g2 hgl)
   have hT2:RF f g2 R.roots.length cap2 k d (rootOf R k) Qv w2:=⟨f2,(hgw _ B2 _).trans r0,(hgw _ B2 _).trans r1,(hgw _ B2 _).trans r2,d2⟩;have hT3: ∀ o,RF f g2 R.roots.length cap2 k d (rootOf R k) Qv (w2.alloc o):=fun o=>⟨(HF.below (B2.alloc B2.size o)).BG,(hgw _ (B2.alloc B2.size o) _).trans r0,(hgw _ (B2.alloc B2.size o) _).trans r1,(hgw _ (B2.alloc B2.size o) _).trans r2,d3 o⟩;clear b2 hgw;refine hK21 _ _ (ay hT2) ?_;refine tk 22 hT2 ?_;refine wo 23 fun K23 hK23=> ?_;go_simp;refine hK23 _ _ (ay (hT3 _)) ?_;refine wo 24 fun K24 hK24=> ?_
   refine Jq _ (by rfl) _ _ _ (by rfl) 0 139 i0 _ 4097 4112 Tryz.underlying68 hi0 hz0 hz1 hz2 (by rw [show (Value.agg (fM ⟨[],zD⟩).toArray).cells.size=(fM ⟨[],zD⟩).length from by simp [Value.cells]];exact yL (p:=⟨[],zD⟩) ⟨MK,ML⟩) om Qv (k - 1) ((Ep R k).flatMap fM) (by rfl) (((bQ (S:=fun _=>False) (Kept.dS B2) fA (fun _ _=>id))).alloc _) ⟨w2.heap.size,0,none⟩ 1 1 (fM (IZ R k)) (by rfl) (by rw [yL hpc]) (pU (cs:=(fM (IZ R k)).toArray) (t:=139) (fr:=(0,0)) (aW w2 _)) (XP _) om (by unfold maxLen;omega) om om (w2.heap.size+1) sm ?_;intro g5 cap5 w5 hown5 hgrow hat uP;have b5:=ah (qH hgrow (HQ.below (B2.alloc B2.size _)).aF (fun g hg=>(uh Gg g hg).2));have c5:w5.cell? ⟨d,4096,none⟩=some Qv:=(aG b5 4096).trans (by rw [← aG HQ.aF];exact HQ.wQ);have z5: ∀ i,w5.frozen? ⟨d,i,none⟩=false:=fun i=>eG b5 i;have hgn:w.heap.size≤g5∧g5≠d:=by
    rcases hat with x | x
    ·exact uh Gg g5 x
    ·have:=B2.size;omega
   have S1:=ah ((Hb.trans (B2.mono Hb.size)).alloc (by have:=B2.size;omega) (.cells (fM (IZ R k)).toArray 139));have hB5:aC w w5:=S1.grown hgrow (by have:=B2.size;simp;omega) (fun k hk=>(uh Gg k hk).1);have S2:=ah (hB5.setCell (p:=⟨d,4096,none⟩) hsz (.slice (some ⟨g5,0,none⟩) (k - 1+1) cap5));have hD5:eP (w5.setCell ⟨d,4096,none⟩ (.slice (some ⟨g5,0,none⟩) (k - 1+1) cap5)) d (.slice (some ⟨g5,0,none⟩) (k - 1+1) cap5) ⟨C,Ep R (k+1)⟩:=by
    have:=(HQ.below (B2.alloc B2.size (.cells (fM (IZ R k)).toArray 139))).abd (g5:=g5) (cap5:=cap5) hpc (fun g hg=>(uh Gg g hg).2) hgrow (by rw [hlk];exact hown5) hgn.2
    rw [hlk] at this;rw [uh Hp];exact this
   have ek:k - 1+1=k:=om;rw [ek] at hD5 S2;have HD5:=ah hD5;clear ek;have hT5:RF f g2 R.roots.length cap2 k d (rootOf R k) Qv w5:=by
    have hF5:=Hh.below hB5;have hgw: ∀ i,w5.cell? ⟨g2,i,none⟩=wr.cell? ⟨g2,i,none⟩:=fun i=>by
     have hg0:=(Hh.o8.lt g2 rfl).2;exact (OX (hB5.block g2 hg0)).trans (OX (Hb.block g2 hg0)).symm
    exact ⟨hF5.BG,(hgw _).trans r0,(hgw _).trans r1,(hgw _).trans r2,c5⟩
   clear hD5 hgrow hown5 hB5;refine hK24 _ _ (ay hT5) ?_;refine wv 25 hT5 ?_;refine wv 26 hT5 ?_;refine wo 27 fun K27 hK27=> ?_;go_simp;refine hK27 _ _ (aA rfl) ?_;refine tu kr ?_ _;clear hT hT2 hT3 hT5;go_wp2;go_roundw
   case rel=>exact ⟨k+1,.slice (some ⟨g5,0,none⟩) k cap5,om,om,gn,uh HD5,fun g hg=>(by simp only [Value.ownBlock,jv] at hg;subst hg;exact hgn),uh S2⟩
   case measure=>exact cO
  ·have hkl:k=R.roots.length:=om;have hfin:eP wr d Qv (D9 R):=by rw [agd,uh HCC,← hkl];exact hQ
   have HQ:=ah hfin;have Hb:=ah hb;have Gg:=ah IG;clear hQ hfin hb hkl IG hF;go_wp2;go_ret;exact ⟨d,Qv,rfl,hsz,uh HQ,fun g hg=>(uh Gg g hg).1,uh Hb⟩
end
section
def vw (C:List aj) (t:Nat):aj:=if t<C.length then cl C t else zc
theorem Gs (C:List aj) (n t:Nat) (ht:t<n):cl (aZ C n) t=vw C t:=by
 unfold cl aZ vw;rw [aK,jD,x9 ht];rfl
theorem lV {C:List aj} {t:Nat} (h:t<C.length):vw C t=cl C t:=by unfold vw;rw [au h]
theorem Dc {C:List aj} {t:Nat} (h:C.length≤t):cl C t=[]:=by unfold cl;rw [aK,eu h];rfl
def aH (N0:Nat) (E:List aX):List bC:=⟨N0,0,[]⟩ :: E.map kV
theorem Cj {N0:Nat} {E:List aX} {r:bC}:r ∈ aH N0 E↔r=⟨N0,0,[]⟩∨ ∃ e ∈ E,r=kV e:=by
 unfold aH;rw [dD,gQ];constructor
 ·rintro (h | ⟨e,he,h⟩)
  ·exact aA h
  ·exact ay ⟨e,he,h.symm⟩
 ·rintro (h | ⟨e,he,h⟩)
  ·exact aA h
  ·exact ay ⟨e,he,h.symm⟩
structure kM (C:List aj) (T N0:Nat) (E:List aX):Prop where
 lens: ∀ c ∈ C,c.length=64
 qj:6≤C.length
 le:C.length≤T
 seven:7≤T
 most:T≤256
 n0:N0<65536
 head:cl C 0=fE T N0
 list:cl C 5=nG E
 jT:iL E
section
variable {C:List aj} {T N0:Nat} {E:List aX}
theorem kM.Qq (h:kM C T N0 E):num (cl C 0) 4=T:=by rw [h.head];exact aqR (by have:=h.most;omega) h.n0
theorem kM.Cc (h:kM C T N0 E):num (cl C 0) 6=N0:=by rw [h.head];exact aqS (by have:=h.most;omega) h.n0
theorem kM.lQ (h:kM C T N0 E):lQ C=true:=by
 have h1:=h.qj;have h2:=h.le;have h3:=h.most;have h4:=h.seven;unfold Go.Proofs.YtknjjjenklfeoaaGreatDoor.lQ;rw [h.Qq,h.head,aho,ahm om h.n0]
 simp
 omega
theorem kM.pad (h:kM C T N0 E):(gu C).L=aZ C T:=by show aZ C (num (cl C 0) 4)=_;rw [h.Qq]
theorem kM.iO (h:kM C T N0 E):iO (gu C)=(true,aH N0 E):=by
 have h6:=h.qj;have h7:=h.seven;show Go.Proofs.YtknjjjenklfeoaaGreatDoor.qJ (cl (gu C).L 5) 4 0 false [⟨num (cl C 0) 6,0,[]⟩]=_;rw [h.pad,Gs _ _ _ om,lV om,h.list,h.Cc];exact h.jT.qJ ⟨N0,0,[]⟩ 4 0 rfl (nN _)
theorem kM.look (h:kM C T N0 E) (hs:cZ (aZ C T) (aH N0 E)):
  (look C).bad= -1∧(look C).L=aZ C T∧(look C).roots=aH N0 E∧(∀ n,n<256→(look C).used.getD n 0=gX n+dM (aZ C T) (aH N0 E) n)∧uK 1000 (look C):=by
 have:=aqg h.lQ (by rw [h.iO]) (by rw [h.iO,h.pad];exact hs)
 rw [h.iO,h.pad] at this;exact this
theorem kM.exact (h:kM C T N0 E) (hs:cZ (aZ C T) (aH N0 E)) (hx:wI (aZ C T) (aH N0 E)):y7 (Go.Proofs.YtknjjjenklfeoaaGreatDoor.look C)=true:=by
 have:=aqf h.lQ (by rw [h.iO]) (by rw [h.iO,h.pad];exact hs.aul hx)
 exact this.2.2.2.1
def bU (L:List aj) (N0:Nat) (E:List aX):dY:=⟨dZ L N0,E.map fun e=>⟨e.name,dZ L e.first⟩⟩
theorem kM.nS (h:kM C T N0 E) (hs:cZ (aZ C T) (aH N0 E)):D9 (Go.Proofs.YtknjjjenklfeoaaGreatDoor.look C)=bU (aZ C T) N0 E:=by
 obtain ⟨_,h2,h3,_⟩:=h.look hs;rw [agd];unfold bU Ep IZ rootOf;rw [h2,h3];have e0:((aH N0 E).getD 0 ⟨0,0,[]⟩).N=N0:=rfl;rw [e0]
 congr 1
 apply uH;intro i;rw [jD,jD];have hl:(aH N0 E).length - 1=E.length:=by simp [aH]
 rw [hl]
 by_cases hi:i<E.length
 ·rw [x9 hi,bI hi,EM,EM];have e:(aH N0 E).getD (i+1) ⟨0,0,[]⟩=kV E[i]:=by
   unfold aH;rw [Jt,aK,jD,bI hi];rfl
  rw [e];rfl
 ·rw [eu (by simpa using hi),eu om];rfl
theorem rP (hC:C.length=T):aZ C T=C:=by rw [← hC];exact XM
structure bD (base:List aj) (V:aB) (N0:Nat) (E:List aX):Prop where
 file:kM V.C V.C.length N0 E
 sound:cZ V.C (aH N0 E)
 agE:V.loose=false
 log:yY base V
section
variable {base:List aj} {V:aB}
theorem bD.pad (_h:bD base V N0 E):aZ V.C V.C.length=V.C:=XM
theorem bD.look (h:bD base V N0 E):(look V.C).bad= -1∧(look V.C).L=V.C∧(look V.C).roots=aH N0 E∧(∀ n,n<256→(look V.C).used.getD n 0=gX n+dM V.C (aH N0 E) n)∧uK 1000 (look V.C):=by
 have:=h.file.look (by rw [h.pad];exact h.sound)
 rw [h.pad] at this;exact this
theorem bD.y7 (h:bD base V N0 E) (hx:wI V.C (aH N0 E)):y7 (Go.Proofs.YtknjjjenklfeoaaGreatDoor.look V.C)=true:=h.file.exact (by rw [h.pad];exact h.sound) (by rw [h.pad];exact hx)
theorem bD.nS (h:bD base V N0 E):D9 (Go.Proofs.YtknjjjenklfeoaaGreatDoor.look V.C)=bU V.C N0 E:=by
 have:=h.file.nS (by rw [h.pad];exact h.sound)
 rw [h.pad] at this;exact this
theorem bD.Au (h:bD base V N0 E):bK V=(aH N0 E).map (·.N):=by
 unfold bK;rw [h.file.Cc,h.file.jT.zZ h.file.list];simp [aH,kV]
end
end
end
end Go.Proofs.YtknjjjenklfeoaaGreatDoor
