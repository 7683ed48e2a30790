import Derived.Test.YtknjjjenklfeoaaGreatDoorU45
import Derived.LaidEql
import Derived.RowKitTokens
import Derived.LaidLaws
import Derived.LaidHandle
set_option maxHeartbeats 8000000
set_option maxRecDepth 100000
set_option linter.all false
namespace Go.Proofs.YtknjjjenklfeoaaGreatDoor
open Go.RowKit
section
open Go.RowKit Go.Shelf Go.Extern
attribute [local go_sem] Oper.semAt_some
def aoS (t:Addr) (w:World):(ReflectliteValue.unpack (.iface 159 (.pointer (some t)))).run Tryz.prog w
  = .ok (.agg #[.pointer (some ⟨10,159,none⟩),.pointer (some ⟨w.heap.size,0,none⟩),.int .u64 150]) (w.alloc (.cells #[.pointer (some t)] 159)):=kr
def aoQ (a : Addr) (w : World) : (ReflectliteValue.methodAny (ReflectliteValue.valueError "reflectlite.Value.Type" 0) (fun t _ _ _ => ReflectliteType.toType t) #[.agg #[.pointer (some ⟨10, 159, none⟩), .pointer (some a), .int .u64 150]]).run Tryz.prog w
  = .ok (.iface 246 (.agg #[.pointer (some ⟨10,159,none⟩)])) w:=kr
def aoK (h : Value) (w : World) : (Go.method 398 246 (.agg #[h]) "Kind").run Tryz.prog w = .ok (204, h) w := kr
def aoG (w:World):((ReflectliteType.abiMethod fun t=>(fun a:Nat=>Value.int IntKind.u8 (a:Int)) <$> Rtype.kind t) #[.pointer (some ⟨10,159,none⟩)]).run Tryz.prog w= .ok (.int .u8 22) w:=kr
def aoF (w:World):((ReflectliteType.abiMethod fun t=>(fun a:Nat=>Value.int IntKind.u8 (a:Int)) <$> Rtype.kind t) #[.pointer (some ⟨10,157,none⟩)]).run Tryz.prog w= .ok (.int .u8 25) w:=kr
def agL (a:Addr) (w:World):(ReflectliteValue.parts (.agg #[.pointer (some ⟨10,159,none⟩),.pointer (some a),.int .u64 150])).run Tryz.prog w= .ok (some (159,a,150)) w:=kr
def aoE (a p:Addr) (W:World) (b:W.cell? a=some (.pointer (some p))):
  (ReflectliteValue.method (ReflectliteValue.valueError "reflectlite.Value.IsNil" 0) ReflectliteValue.isNil #[.agg #[.pointer (some ⟨10, 159, none⟩), .pointer (some a), .int .u64 150]]).run Tryz.prog W = .ok (.bool false) W := by
 show (ReflectliteValue.parts (.agg #[.pointer (some ⟨10,159,none⟩),.pointer (some a),.int .u64 150]) >>= _).run Tryz.prog W=_;rw [jC,agL];simp only [Result.andThen];simp [ReflectliteValue.isNil,loadVar,isAgg,underlying,Tryz.underlying159,b,Result.andThen]
def aoI (h : Value) (w : World) : (Go.method 398 246 (.agg #[h]) "Elem").run Tryz.prog w = .ok (215, .agg #[h]) w := kr
def aoJ (h : Value) (w : World) : (Go.method 398 246 (.agg #[h]) "Implements").run Tryz.prog w = .ok (216, .agg #[h]) w := kr
def aoH (h : Value) (w : World) : (Go.method 398 246 (.agg #[h]) "AssignableTo").run Tryz.prog w = .ok (213, .agg #[h]) w := kr
def aoA (w:World):(ReflectliteType.method ReflectliteType.elem #[.agg #[.pointer (some ⟨10,159,none⟩)]]).run Tryz.prog w= .ok (.iface 246 (.agg #[.pointer (some ⟨10,157,none⟩)])) w:=kr
def aoD (w : World) : (ReflectliteType.relation "Implements" ReflectliteType.implements_ #[.agg #[.pointer (some ⟨10, 157, none⟩)], .iface 246 (.agg #[.pointer (some ⟨10, 98, none⟩)])]).run Tryz.prog w = .ok (.bool true) w := kr
def aoP (v:Value) (w:World):(ReflectliteType.typeOf #[.iface 157 v]).run Tryz.prog w= .ok (.iface 246 (.agg #[.pointer (some ⟨10,157,none⟩)])) w:=kr
def aox (w : World) : (ReflectliteType.relation "AssignableTo" ReflectliteType.assignableTo #[.agg #[.pointer (some ⟨10, 157, none⟩)], .iface 246 (.agg #[.pointer (some ⟨10, 157, none⟩)])]).run Tryz.prog w = .ok (.bool true) w := kr
def aoR (a b:Value) (w:World):(ReflectliteValue.unpack (.iface 157 (.agg #[a,b]))).run Tryz.prog w
  = .ok (.agg #[.pointer (some ⟨10,157,none⟩),.pointer (some ⟨w.heap.size,0,none⟩),.int .u64 153]) (w.alloc (.cells #[a,b] 157)):=kr
def aoz (w:World):(Rtype.elem? 159).run Tryz.prog w= .ok (some 157) w:=kr
def aoL (p:Addr) (w:World):(ReflectliteValue.mk 157 p ReflectliteValue.flagAddr).run Tryz.prog w= .ok (.agg #[.pointer (some ⟨10,157,none⟩),.pointer (some p),.int .u64 409]) w:=kr
def aoB (a p:Addr) (W:World) (b:W.cell? a=some (.pointer (some p))):
  (ReflectliteValue.method (ReflectliteValue.valueError "reflectlite.Value.Elem" 0) ReflectliteValue.elem #[.agg #[.pointer (some ⟨10, 159, none⟩), .pointer (some a), .int .u64 150]]).run Tryz.prog W
   = .ok (.agg #[.pointer (some ⟨10,157,none⟩),.pointer (some p),.int .u64 409]) W:=by
 show (ReflectliteValue.parts (.agg #[.pointer (some ⟨10,159,none⟩),.pointer (some a),.int .u64 150]) >>= _).run Tryz.prog W=_;rw [jC,agL];simp only [Result.andThen];simp [ReflectliteValue.elem,loadVar,isAgg,underlying,Tryz.underlying159,b,Result.andThen,aoz,aoL]
def aoM (a:Addr) (w:World):(ReflectliteValue.parts (.agg #[.pointer (some ⟨10,157,none⟩),.pointer (some a),.int .u64 409])).run Tryz.prog w= .ok (some (157,a,409)) w:=kr
def aoN (a:Addr) (w:World):(ReflectliteValue.parts (.agg #[.pointer (some ⟨10,157,none⟩),.pointer (some a),.int .u64 153])).run Tryz.prog w= .ok (some (157,a,153)) w:=kr
def aoy (w:World):(Rtype.directlyAssignable 157 157).run Tryz.prog w= .ok true w:=kr
def aoO (t b:Nat) (c x:Value) (W:World) (hc:c.oneCell'=true) (e:x.oneCell'=true) (f:W.heap[b]? = some (.cells #[c,x] 157 (0,0))) (g:W.there t 0 2):
  (ReflectliteValue.set #[.agg #[.pointer (some ⟨10,157,none⟩),.pointer (some ⟨t,0,none⟩),.int .u64 409],.agg #[.pointer (some ⟨10,157,none⟩),.pointer (some ⟨b,0,none⟩),.int .u64 153]]).run Tryz.prog W
   = .ok (.tuple #[]) (W.setCells t 0 [c,x]):=by
 have a:W.heap[b]? = some (.cells [c,x].toArray 157 (0,0)):=f;have d:=BQ (P:=Tryz.prog) (fH a (n:=2) rfl) 157 _ Tryz.underlying157 rfl kr;rw [fM a (n:=2) rfl] at d;have hs:=Ib (P:=Tryz.prog) W t 0 157 [c,x].toArray (by simpa using g) (by simp only [jm];kernel_rfl) (vU (by
  intro v hv;simp only [cO,jM,jO] at hv;rcases hv with rfl | rfl
  ·exact hc
  ·exact e))
 show (ReflectliteValue.parts (.agg #[.pointer (some ⟨10,157,none⟩),.pointer (some ⟨t,0,none⟩),.int .u64 409]) >>= _).run Tryz.prog W=_;rw [jC,aoM];show (ReflectliteValue.parts (.agg #[.pointer (some ⟨10,157,none⟩),.pointer (some ⟨b,0,none⟩),.int .u64 153]) >>= _).run Tryz.prog W=_;rw [jC,aoN];simp only [Result.andThen];simp [ReflectliteValue.flagAddr,d,Result.andThen,aoy];rw [hs]
def aoC (t:Nat) (c x:Value) (hc:c.oneCell'=true) (o:x.oneCell'=true) (w:World) (g:oN w) (i:w.there t 0 2):
  Calls Tryz.prog 97 #[.iface 157 (.agg #[c,x]),.iface 159 (.pointer (some ⟨t,0,none⟩))] w fun ev q=>ev= .returned (.bool true)∧ ∃ W,aC w W∧q=W.setCells t 0 [c,x]:=by
 have I:= @run_callFunc_extern Tryz.prog 154 _ (fun args=>ReflectliteValue.unpack (args.getD 0 (.tuple #[]))) Tryz.func154 kr kr kr kr;have h7 := @run_callFunc_extern Tryz.prog 155 _ (ReflectliteValue.methodAny (ReflectliteValue.valueError "reflectlite.Value.Type" 0) (fun t _ _ _ => ReflectliteType.toType t)) Tryz.func155 kr kr kr kr
 have h8 := @run_callFunc_extern Tryz.prog 156 _ (ReflectliteValue.method (ReflectliteValue.valueError "reflectlite.Value.IsNil" 0) ReflectliteValue.isNil) Tryz.func156 kr kr kr kr
 have u:= @run_callFunc_extern Tryz.prog 204 _ (ReflectliteType.abiMethod fun t=>do pure (.int .u8 (← Rtype.kind t))) Tryz.func204 kr kr kr kr;have v:= @run_callFunc_extern Tryz.prog 215 _ (ReflectliteType.method ReflectliteType.elem) Tryz.func215 kr kr kr kr;have h38 := @run_callFunc_extern Tryz.prog 216 _ (ReflectliteType.relation "Implements" ReflectliteType.implements_) Tryz.func216 kr kr kr kr
 have y:= @run_callFunc_extern Tryz.prog 175 _ (ReflectliteType.typeOf) Tryz.func175 kr kr kr kr;have h35 := @run_callFunc_extern Tryz.prog 213 _ (ReflectliteType.relation "AssignableTo" ReflectliteType.assignableTo) Tryz.func213 kr kr kr kr
 have h11 := @run_callFunc_extern Tryz.prog 176 _ (ReflectliteValue.method (ReflectliteValue.valueError "reflectlite.Value.Elem" 0) ReflectliteValue.elem) Tryz.func176 kr kr kr kr
 have z:= @run_callFunc_extern Tryz.prog 177 _ (ReflectliteValue.set) Tryz.func177 kr kr kr kr;have J:=aoP;have K:=aoH;have A:=aox;have B:=aoR c x;have L:=aoS;have M:=aoQ;have N:=aoK;have O:=aoI;have Q:=aoJ;have C:=aoG;have D:=aoF;have F:=aoA;have G:=aoD;have R:=g.size;have n:t<w.heap.size:=by
  have h0:=(i 0 om).1;rcases J8 t w.heap.size with h | h
  ·exact h
  ·simp [World.cell?,Qj h] at h0
 have b1:aC w (w.alloc (.cells #[.pointer (some ⟨t,0,none⟩)] 159)):=fC;have b2:aC w ((w.alloc (.cells #[.pointer (some ⟨t,0,none⟩)] 159)).alloc (.cells #[.pointer (some ⟨10,159,none⟩),.pointer (some ⟨w.heap.size,0,none⟩),.int .u64 150] 224)):=b1.alloc b1.size _;have b:aC w (((w.alloc (.cells #[.pointer (some ⟨t,0,none⟩)] 159)).alloc (.cells #[.pointer (some ⟨10,159,none⟩),.pointer (some ⟨w.heap.size,0,none⟩),.int .u64 150] 224)).alloc (.cells #[.pointer (some ⟨10,159,none⟩),.pointer (some ⟨w.heap.size,0,none⟩),.int .u64 150] 224)):=b2.alloc b2.size _;have d:aC w ((((w.alloc (.cells #[.pointer (some ⟨t,0,none⟩)] 159)).alloc (.cells #[.pointer (some ⟨10,159,none⟩),.pointer (some ⟨w.heap.size,0,none⟩),.int .u64 150] 224)).alloc (.cells #[.pointer (some ⟨10,159,none⟩),.pointer (some ⟨w.heap.size,0,none⟩),.int .u64 150] 224)).alloc (.cells #[c,x] 157)):=b.alloc b.size _
 have e:(w.alloc (.cells #[.pointer (some ⟨t,0,none⟩)] 159)).heap[w.heap.size]? = some (.cells #[.pointer (some ⟨t,0,none⟩)] 159 (0,0)):=aX _ _;have a:((w.alloc (.cells #[.pointer (some ⟨t,0,none⟩)] 159)).alloc (.cells #[.pointer (some ⟨10,159,none⟩),.pointer (some ⟨w.heap.size,0,none⟩),.int .u64 150] 224)).heap[w.heap.size]? = some (.cells #[.pointer (some ⟨t,0,none⟩)] 159 (0,0)):=(jX _ _ _ (aK e)).trans e;have k:(((w.alloc (.cells #[.pointer (some ⟨t,0,none⟩)] 159)).alloc (.cells #[.pointer (some ⟨10,159,none⟩),.pointer (some ⟨w.heap.size,0,none⟩),.int .u64 150] 224)).alloc (.cells #[.pointer (some ⟨10,159,none⟩),.pointer (some ⟨w.heap.size,0,none⟩),.int .u64 150] 224)).heap[w.heap.size]? = some (.cells #[.pointer (some ⟨t,0,none⟩)] 159 (0,0)):=(jX _ _ _ (aK a)).trans a
 have T:=aoE ⟨w.heap.size,0,none⟩ ⟨t,0,none⟩ ((w.alloc (.cells #[.pointer (some ⟨t,0,none⟩)] 159)).alloc (.cells #[.pointer (some ⟨10,159,none⟩),.pointer (some ⟨w.heap.size,0,none⟩),.int .u64 150] 224)) ((aF a 0).trans rfl);have H:=(g.below b2).typ;have el:=aoB ⟨w.heap.size,0,none⟩ ⟨t,0,none⟩ (((w.alloc (.cells #[.pointer (some ⟨t,0,none⟩)] 159)).alloc (.cells #[.pointer (some ⟨10,159,none⟩),.pointer (some ⟨w.heap.size,0,none⟩),.int .u64 150] 224)).alloc (.cells #[.pointer (some ⟨10,159,none⟩),.pointer (some ⟨w.heap.size,0,none⟩),.int .u64 150] 224)) ((aF k 0).trans rfl)
 have l:((((w.alloc (.cells #[.pointer (some ⟨t,0,none⟩)] 159)).alloc (.cells #[.pointer (some ⟨10,159,none⟩),.pointer (some ⟨w.heap.size,0,none⟩),.int .u64 150] 224)).alloc (.cells #[.pointer (some ⟨10,159,none⟩),.pointer (some ⟨w.heap.size,0,none⟩),.int .u64 150] 224)).alloc (.cells #[c,x] 157)).heap[w.heap.size+1+1+1]? = some (.cells #[c,x] 157 (0,0)):=by
  have:=aX (((w.alloc (.cells #[.pointer (some ⟨t,0,none⟩)] 159)).alloc (.cells #[.pointer (some ⟨10,159,none⟩),.pointer (some ⟨w.heap.size,0,none⟩),.int .u64 150] 224)).alloc (.cells #[.pointer (some ⟨10,159,none⟩),.pointer (some ⟨w.heap.size,0,none⟩),.int .u64 150] 224)) (.cells #[c,x] 157)
  rwa [jV,jV,jV] at this
 have f:((((w.alloc (.cells #[.pointer (some ⟨t,0,none⟩)] 159)).alloc (.cells #[.pointer (some ⟨10,159,none⟩),.pointer (some ⟨w.heap.size,0,none⟩),.int .u64 150] 224)).alloc (.cells #[.pointer (some ⟨10,159,none⟩),.pointer (some ⟨w.heap.size,0,none⟩),.int .u64 150] 224)).alloc (.cells #[c,x] 157)).there t 0 2:=fun j hj=>by
  have m:=i j hj;have r:=d.block t n;unfold World.cell? World.frozen? at m ⊢;rw [show ((((w.alloc (.cells #[.pointer (some ⟨t,0,none⟩)] 159)).alloc (.cells #[.pointer (some ⟨10,159,none⟩),.pointer (some ⟨w.heap.size,0,none⟩),.int .u64 150] 224)).alloc (.cells #[.pointer (some ⟨10,159,none⟩),.pointer (some ⟨w.heap.size,0,none⟩),.int .u64 150] 224)).alloc (.cells #[c,x] 157)).heap[(⟨t,0+j,none⟩:Addr).block]? = w.heap[(⟨t,0+j,none⟩:Addr).block]? from r];exact m
 have st:=aoO t (w.heap.size+1+1+1) c x ((((w.alloc (.cells #[.pointer (some ⟨t,0,none⟩)] 159)).alloc (.cells #[.pointer (some ⟨10,159,none⟩),.pointer (some ⟨w.heap.size,0,none⟩),.int .u64 150] 224)).alloc (.cells #[.pointer (some ⟨10,159,none⟩),.pointer (some ⟨w.heap.size,0,none⟩),.int .u64 150] 224)).alloc (.cells #[c,x] 157)) hc o l f;have s:=ah d;clear b1 b2 b d e a k l f
 go_enter Tryz.func97,Tryz.ntmps97
 go_wp2;refine wp_loop_rounds 1 ?_;rw [rounds_succ];go_wp2;go_ret;exact ⟨rfl,_,uh s,rfl⟩
end
section
open Go.RowKit Go.Shelf
attribute [local go_sem] Oper.semAt_some
def aqC (n:Nat) (x:Value) (m:isIface x) (w:World) (g:oN w):
  Calls Tryz.prog 49 #[kS n x] w fun e o=>e= .returned (.int .i64 (n:Nat))∧aC w o:=by
 obtain ⟨a,b,rfl⟩:=m;have b1:aC w (w.alloc (.cells #[.int .i64 0,.nilIface] 157)):=fC;have c:(w.alloc (.cells #[.int .i64 0,.nilIface] 157)).heap[w.heap.size]? = some (.cells [Value.int .i64 0,.nilIface].toArray 157 (0,0)):=aX _ _;have h:=ah (aoC w.heap.size (.int .i64 (n:Nat)) (.iface a b) rfl rfl _ (g.below b1) (iW c 0 2 sm));have i:=ah b1;have k:=ah c;clear b1 c g;unfold kS
 go_enter Tryz.func49,Tryz.ntmps49
 go_wp2_with fail
 refine h.mono ?_;rintro e r ⟨rfl,W,d,rfl⟩;have l:=(d.block _ (aK k)).trans k;have f:=TU (vs:=[Value.int .i64 (n:Nat),.iface a b]) l rfl;have c0:(W.setCells w.heap.size 0 [.int .i64 (n:Nat),.iface a b]).cell? ⟨w.heap.size,0,none⟩=some (.int .i64 (n:Nat)):=(aF f 0).trans rfl;have hB:aC w (W.setCells w.heap.size 0 [.int .i64 (n:Nat),.iface a b]):=by
  have hk:=Kept.BL W w.heap.size 0 [.int .i64 (n:Nat),.iface a b];have hw:=i.trans (d.mono i.size);exact ⟨hk.os.trans hw.os,hk.tape.trans hw.tape,hk.output.trans hw.output,jL hw.size hk.size,fun j hj=>by
   rw [hk.block j (iL hj hw.size) om];exact hw.block j hj⟩
 have q:=ah hB;clear hB f l d h;generalize W.setCells w.heap.size 0 [.int .i64 (n:Nat),.iface a b]=s at*;go_wp2;go_ret;exact ⟨rfl,uh q⟩
def anE (file:List aj) (e:Ending):Prop:= ∃ n:Nat,qY file=(n:Int)∧e= .returned (.tuple #[.pointer none,.int .i64 (n:Nat),.int .i64 6])
def afJ (w a:World) (file:List aj) (e:Ending):Prop:=qY file= -1∧ ∃ d v Cv Lv,e= .returned (.tuple #[.pointer (some ⟨d,0,none⟩),.int .i64 0,.int .i64 0])∧pK a d v Cv Lv (dP file)∧ ∀ k,MW d v Cv Lv k→w.heap.size≤k
def axf (w:World) (a:Value) (file:List aj) (b:kK w a file) (f:oN w) (hm:file.length≤1000000):
  Calls Tryz.prog 48 #[a] w fun e c=>(QA file e∨abq w c file e)∧aC w c:=by
 by_cases d:Qx file
 ·exact axh w a file b f d
 ·refine (axg w a file b f hm d).mono ?_;rintro e c ⟨⟨x,g,rfl⟩,i⟩;refine ⟨aA ⟨0,x,?_,g,rfl⟩,i⟩;unfold qY;rw [au (by
   cases h:mD file with
   | true=>exact absurd ((ai4 b.lens).1 h) d
   | false=>rfl)]
  rfl
def ahR (w:World) (f:Value) (file:List aj) (o:kK w f file) (g:oN w) (hm:file.length≤1000000):
  Calls Tryz.prog 18 #[f] w fun e q=>(anE file e∨afJ w q file e)∧aC w q:=by
 have h:=ah (axf w f file o g hm);have u:=ah g;clear o g
 go_enter Tryz.func18,Tryz.ntmps18
 go_wp2_with fail
 refine h.mono ?_;rintro e b ⟨(⟨n,x,hn,y,rfl⟩ | ⟨hn,v,Cv,Lv,rfl,r,m⟩),a⟩
 ·have i:=ah (aqC n x y b (u.below a));have j:=ah a;have z:=ah hn;clear a hn h;unfold kS at i ⊢
  go_wp2_with fail
  refine i.mono ?_;rintro e B ⟨rfl,c⟩;have d:=ah (j.trans (c.mono j.size));clear c j i;go_wp2;refine iy (aaD rfl _ _ _) rfl ?_;exact ⟨aA ⟨n,uh z,rfl⟩,uh d⟩
 ·have c:aC b (b.alloc (.cells #[.pointer (some ⟨v,0,none⟩)] 85)):=fC;have s:pK (b.alloc (.cells #[.pointer (some ⟨v,0,none⟩)] 85)) b.heap.size v Cv Lv (dP file):=⟨aX _ _,r.below c⟩;have d:=ah (a.trans (c.mono a.size));have t:=a.size;have l:afJ w (b.alloc (.cells #[.pointer (some ⟨v,0,none⟩)] 85)) file (.returned (.tuple #[.pointer (some ⟨b.heap.size,0,none⟩),.int .i64 0,.int .i64 0])):=by
   refine ⟨hn,_,_,_,_,rfl,s,?_⟩;rintro k (rfl | hk)
   ·exact t
   ·exact m k hk
  have A:=ah l;clear a c s r m l hn h;go_wp2;refine iy (aaD rfl _ _ _) rfl ?_;exact ⟨ay A,uh d⟩
end
section
attribute [local go_sem ↓] O8 VX
attribute [local go_sem] Sl
section
variable {base:List aj} {V:aB} {N0:Nat} {E:List aW}
def aY.qY (h:aY base V N0 E):qY V.C= -1:=by
 rw [← adw h.file.lens];exact h.look.1
end
end
section
attribute [local go_sem ↓] dw fP fV jE
attribute [local go_sem] dM fO fU gW gB aV jc jd
end
section
def JM (c:Int) (n:Nat):Nat:=((if c<0 then -(c+1) else c)%(n:Int)).toNat
def ali (c:Int) {n:Nat} (hn:0<n):JM c n<n:=by
 unfold JM;have a:=Int.emod_lt_of_pos (if c<0 then -(c+1) else c) (show (0:Int)<(n:Int) by omega);have b:=Int.emod_nonneg (if c<0 then -(c+1) else c) (show (n:Int)≠0 by omega);omega
def auj (c:Int) {n:Nat} (hn:0<n):((JM c n:Nat):Int)=(if c<0 then -(c+1) else c)%(n:Int):=by
 unfold JM;have a:=Int.emod_nonneg (if c<0 then -(c+1) else c) (show (n:Int)≠0 by omega);omega
def ar8 (c:Int) (n:Nat) (hn:0<n) (i:n≤9000000000000000000) (w:World) (hc: -9223372036854775808≤c∧c≤9223372036854775807):Calls Tryz.prog 124 #[.int .i64 c,.int .i64 (n:Int)] w fun e f=>e= .returned (.int .i64 ((JM c n:Nat):Int))∧f=w:=by
 obtain ⟨j,k⟩:=hc;have l: ¬ (n:Int)=0:=om;have m:(0:Int)<(n:Int):=om;have hR:=auj c hn
 by_cases h0:c<0
 ·have g:decide (c<0)=true:=by simpa using h0
  have r:IntKind.i64.wrap (c+1)=c+1:=FY _ om;have s:IntKind.i64.wrap (-(c+1))= -(c+1):=FY _ om;rw [au h0] at hR;have b:(-(c+1)).tmod (n:Int)= -(c+1)%(n:Int):=anx om;rw [← hR] at b;have a: -((c+1).tmod (n:Int))=((JM c n:Nat):Int):=by rw [← Int.neg_tmod];exact b
  have o:=ali c hn;have hr:IntKind.i64.wrap ((JM c n:Nat):Int)=((JM c n:Nat):Int):=FY _ om;have q:IntKind.i64.wrap (-((c+1).tmod (n:Int)))=((JM c n:Nat):Int):=by rw [a];exact hr
  have d:=ah a;clear b hR a
  go_enter Tryz.func124,Tryz.ntmps124
  go_wp2;go_ret;exact ⟨by rw [← uh d];rfl,rfl⟩
 ·have g:decide (c<0)=false:=by simpa using h0
  rw [ak h0] at hR;have h:=ah hR;clear hR
  go_enter Tryz.func124,Tryz.ntmps124
  go_wp2;go_ret;exact ⟨by rw [uh h];rfl,rfl⟩
section
variable {w:World} {p:Nat} {P:eP} {S:Nat→Prop}
def dL.YT {z:Nat} {D1:dR} {b:Value} (h:dL w p P S) (hr:fB w z b D1) (o: ¬ S z):
  dL (w.setCell ⟨p,1,none⟩ (.pointer (some ⟨z,0,none⟩))) p { P with y:=z,D:=D1,Pv:=b } (fun k=>(S k∨k=z)∨b.ownBlock=some k):=by
 have hk:=Kept.only w p 1 (.pointer (some ⟨z,0,none⟩));have key: ∀ {k:Nat} {cs:Array Value} {t:TypeId} {fr:Nat × Nat},w.heap[k]? = some (.cells cs t fr)→t≠107→k≠p:=by
  intro k cs t fr c f e;subst e;exact f (QD c h.aG)
 have a: ∀ {base:Nat} {e:TypeId} {size:Nat} {v:Value} {n:Nat} {xs:List Value},w.ownsRow base e size v n xs→e≠107→ ∀ g,v.ownBlock=some g→g≠p:=by
  intro base e size v n xs j f g i;obtain ⟨cs,fr,c⟩:=LG j i;exact key c f
 refine ⟨?_,h.ig.kept hk ?_,hr.kept hk (key hr.aG dc) (a hr.row dc),h.Dw.kept hk (a h.Dw.row dc),bV hk h.BP (a h.BP dc),fun m hm=>(h.eM m hm).kept hk (key (h.eM m hm).aG dc) (a (h.eM m hm).row dc),fun m hm e=>o ((show m.d=z from e) ▸ (h.Dj m hm).1),h.Ky,aA (aA h.AL),fun k l=>aA (aA (h.Di k l)),aA (ay rfl),?_,fun m hm=>⟨aA (aA (h.Dj m hm).1),fun g i=>aA (aA ((h.Dj m hm).2 g i))⟩,?_⟩
 ·rw [heap_setCell_same _ _ _ _ _ _ _ h.aG];rfl
 ·rintro k (e | e | e | e)
  ·rw [e];exact key h.ig.aG dc
  ·rw [e];exact key h.ig.bH.aG dc
  ·exact a h.ig.bH.jS dc k e
  ·exact a h.ig.bH.fJ dc k e
 ·rintro g (e | e | e)
  ·exact ay e
  ·exact aA (aA (h.iI g (ay (aA e))))
  ·exact aA (aA (h.iI g (ay (ay e))))
 ·rintro k ((e | e) | e)
  ·exact iL (h.lt k e) hk.size
  ·rw [e];exact iL hr.lt hk.size
  ·exact iL (hr.row.lt k e).2 hk.size
def wz.YT {b:World} {f:eP} {d:Nat→Prop} {z:Nat} {D1:dR} {c:Value} (h:dL w p P S) (a:wz w b p P S f d) (hr:fB b z c D1) (i:w.heap.size≤z) (j: ¬ d z) (l: ∀ g,c.ownBlock=some g→w.heap.size≤g):
  wz w (b.setCell ⟨p,1,none⟩ (.pointer (some ⟨z,0,none⟩))) p P S { f with y:=z,D:=D1,Pv:=c } (fun k=>(d k∨k=z)∨c.ownBlock=some k):=by
 refine ⟨a.at'.YT hr j,a.base,a.marks,a.ex,a.log,a.kept.trans ((Kept.only b p 1 _).mono fun k e=>by rw [e];exact h.AL),?_⟩;rintro k ((e | e) | e)
 ·exact a.new k e
 ·rw [e];exact ay i
 ·exact ay (l k e)
def wz.below {b w6:World} {c:eP} {d:Nat→Prop} (a:wz w b p P S c d) (e:aC b w6):wz w w6 p P S c d:=
 ⟨a.at'.below e,a.base,a.marks,a.ex,a.log,a.kept.trans (Kept.dQ e),a.new⟩
def wz.other {c i o:World} {z:Nat} {j d e:Value} {l:aB} (h:dL w p P S) (m:aC w c) (hs:dF c i P.v P.Cv P.Lv d e l) (hk:Kept (fun x=>x=z∨j.ownBlock=some x) i o)
  (u:w.heap.size≤z∧z<c.heap.size) (n: ∀ g,j.ownBlock=some g→w.heap.size≤g∧g<c.heap.size) (r:l.L.length≤P.V.L.length+100):
  wz w o p P S { P with Cv:=d,Lv:=e,V:=l } (fun k=>S k∨eX P.v d e k):=by
 have f:=h.below m;have s:=f.step hs;have q: ∀ k,(S k∨eX P.v d e k)→ ¬ (k=z∨j.ownBlock=some k):=fun k a x=>by
  rcases f.SA hs k a with y | y
  ·have t:=h.lt k y;rcases x with x | x
   ·omega
   ·have:=(n k x).1;omega
  ·rcases x with x | x
   ·omega
   ·have:=(n k x).2;omega
 refine ⟨s.kept hk q,rfl,rfl,rfl,r,?_,fun k a=> ?_⟩
 ·have b:Kept S w i:=(Kept.dQ m).trans (f.aeP hs);refine ⟨hk.os.trans b.os,hk.tape.trans b.tape,hk.output.trans b.output,jL b.size hk.size,fun k a hn=> ?_⟩;rw [hk.block k (iL a b.size) (fun x=>by
   rcases x with x | x
   ·omega
   ·have:=(n k x).1;omega)]
  exact b.block k a hn
 ·rcases f.SA hs k a with y | y
  ·exact aA y
  ·have:=m.size;exact ay om
end
def am3 {P:Program} {w:World} {n:String} {g:Nat} {cs:Array Value} {x:Value} (hn:P.globalNamed n=some g) (h:w.var? P n=some cs) (b:cs.toList=[x]):w.cell? ⟨g,0,none⟩=some x:=by
 unfold World.var? at h;rw [hn] at h;simp only [Option.bind_some] at h;have a:cs= #[x]:=Array.eq_one_of_toList b;subst a
 split at h
 ·rename_i c t fr d;injection h with h;subst h;exact (aF d 0).trans rfl
 ·cases h
def Nk {w:World} {n nm:String} {d:DataW Unit} {r:List (String × DataW Unit)} {b:List MemPlace} (g:Nat) (h:DataW.LaidVars Tryz.prog w ((n,.iface nm d) :: r) b)
  (hn:Tryz.prog.globalNamed n=some g) (c:(Tryz.prog.globals[g]?).map (·.type)=some 98):(∃ u v,w.cell? ⟨g,0,none⟩=some (.iface u v))∧ ∃ q,DataW.LaidVars Tryz.prog w r q:=by
 obtain ⟨e,t,cs,fuel,p,q,f,i,j,k,l,_⟩:=h;obtain rfl:g=e:=Tj (hn.symm.trans f);obtain rfl:98=t:=Tj (c.symm.trans i);obtain ⟨_,u,v,a,_⟩:=iface_of_trod Tryz.underlying98 k;exact ⟨⟨u,v,am3 hn j a⟩,q,l⟩
def aqz: ∀ ty,ty<Tryz.prog.types.size→Tryz.prog.rowNamed ty [101,114,114,111,114]=true→ty=98:=by
 have h:(List.range Tryz.prog.types.size).all (fun t=> !(Tryz.prog.rowNamed t [101,114,114,111,114]) || t == 98)=true:=kr;intro ty a hr
 have:=Tq.1 h ty (G9.2 a)
 rw [hr] at this;simpa using this
def aqT {W:World} (h:laidMetH Tryz.prog Rows.anyRow.laid W):oN W:=by
 have h' : laidMet Tryz.prog [("vellum/volume.errLength", Rows.laid_vellum_volume_errLength), ("vellum/volume.errHead", Rows.laid_vellum_volume_errHead), ("vellum/volume.errList", Rows.laid_vellum_volume_errList), ("vellum/volume.errNowhere", Rows.laid_vellum_volume_errNowhere), ("vellum/volume.errTwice", Rows.laid_vellum_volume_errTwice), ("vellum/volume.errBehind", Rows.laid_vellum_volume_errBehind), ("vellum/volume.errCount", Rows.laid_vellum_volume_errCount), ("vellum/volume.errMark", Rows.laid_vellum_volume_errMark)] W ∧ handlesMet Tryz.prog [("errors.errorType", Rows.laid_errors_errorType)] W := h
 obtain ⟨⟨x,a,_⟩,e⟩:=h';obtain ⟨f,_,a⟩:=Nk 0 a kr kr;obtain ⟨i,_,a⟩:=Nk 1 a kr kr;obtain ⟨j,_,a⟩:=Nk 2 a kr kr;obtain ⟨k,_,a⟩:=Nk 6 a kr kr;obtain ⟨l,_,a⟩:=Nk 7 a kr kr;obtain ⟨m,_,a⟩:=Nk 8 a kr kr;obtain ⟨n,_,a⟩:=Nk 3 a kr kr;obtain ⟨o,_,_⟩:=Nk 4 a kr kr;have hx := e ("errors.errorType", Rows.laid_errors_errorType) (List.mem_singleton.2 rfl)
 have hx' : ∃ name u ty, (Rows.laid_errors_errorType : DataW Unit).handleName? = some name ∧ (Tryz.prog.cutTypes.find? (·.1 == "internal/reflectlite.rtype")).map (·.2) = some u ∧ ty < Tryz.prog.types.size ∧ Tryz.prog.rowNamed ty name = true ∧ W.var? Tryz.prog "errors.errorType" = some #[.iface u (.agg #[typeHandle Tryz.prog ty])] := hx
 obtain ⟨name,u,ty,q,r,s,t,v⟩:=hx';obtain rfl:([101,114,114,111,114]:List UInt8)=name:=Tj ((show (Rows.laid_errors_errorType:DataW Unit).handleName? = some [101,114,114,111,114] by kernel_rfl).symm.trans q);obtain rfl : 246 = u := Option.some.inj ((show (Tryz.prog.cutTypes.find? (·.1 == "internal/reflectlite.rtype")).map (·.2) = some 246 by kernel_rfl).symm.trans r)
 have c:=aqz ty s t;subst c;have e5 : W.cell? ⟨5, 0, none⟩ = some (.iface 246 (.agg #[typeHandle Tryz.prog 98])) := am3 (show Tryz.prog.globalNamed "errors.errorType" = some 5 by kernel_rfl) v rfl
 have d:Tryz.prog.globals.size=10:=kr;have b:W.cell? ⟨5,0,none⟩=some (.iface 246 (.agg #[.pointer (some ⟨10,98,none⟩)])):=by
  rw [e5];unfold typeHandle;rw [d]
 refine ⟨fun g y=> ?_,b⟩
 have:g=0∨g=1∨g=2∨g=3∨g=4∨g=5∨g=6∨g=7∨g=8:=om
 rcases this with rfl | rfl | rfl | rfl | rfl | rfl | rfl | rfl | rfl
 ·exact f
 ·exact i
 ·exact j
 ·exact n
 ·exact o
 ·exact ⟨_,_,b⟩
 ·exact k
 ·exact l
 ·exact m
end
section
section
variable {base:List aj} {V:aB} {N0:Nat} {E:List aW}
def wG (V:aB) (N0:Nat) (E:List aW) (k:Nat):List Nat:=(List.range k).flatMap fun m=>List.replicate (aQ V.C m - (gZ m+dN V.C (aH N0 E) m)) m
def VR (n:Nat): ∀ k,(wG V N0 E k).count n=if n<k then aQ V.C n - (gZ n+dN V.C (aH N0 E) n) else 0
 | 0=>rfl
 | k+1=>by
  unfold wG;rw [aav,Td,Jj];have ih:=VR n k;unfold wG at ih;rw [ih,qx,Qi,sN,List.count_replicate]
  by_cases e:n<k
  ·rw [au e,ak (show ¬ ((k == n)=true) by simp;omega),au (show n<k+1 by omega)];omega
  ·rw [ak e]
   by_cases a:n=k
   ·subst a;rw [au (show (n == n)=true by simp),au (show n<n+1 by omega)];omega
   ·rw [ak (show ¬ ((k == n)=true) by simp;omega),ak (show ¬ n<k+1 by omega)]
def avY (k:Nat): ∀ u ∈ wG V N0 E k,u<k:=by
 intro u hu;obtain ⟨m,hm,hr⟩:=zT.1 hu;rw [(afz.1 hr).2];exact G9.1 hm
def ahb (M:List Nat) (n:Nat) (hn:n<256): ∀ k,k≤256→aI (wL M k) n=if n<k then M.getD n 0%256 else 0
 | 0,_=>by
  rw [ak om];show aI zk n=0;unfold aI zk;rw [aN,rG]
  split <;> rfl
 | k+1,hk=>by
  have ih:=ahb M n hn k om;rw [wL,Bz _ _ _ _ (by rw [Ub];omega),ih]
  by_cases e:k=n
  ·subst e;rw [au rfl,au om,NZ];omega
  ·rw [ak e]
   by_cases a:n<k
   ·rw [au a,au om]
   ·rw [ak a,ak om]
def apl {a b:List UInt8} (e:a.length=256) (f:b.length=256) (h: ∀ n,n<256→aI a n=aI b n):a=b:=by
 apply Wx om;intro i c d
 have:=h i om
 unfold aI at this;rw [aN,aN,bJ c,bJ d] at this;exact Qk.1 this
def aY.lets (h:aY base V N0 E):Lets V N0 E (wG V N0 E 256):=⟨avY 256,fun m hm=>by
 rw [VR,au hm]
 have:=h.sound.jI m hm
 omega⟩
def aY.wL (h:aY base V N0 E):wL (iw V) 256=minus (aJ V.C) (wG V N0 E 256):=by
 have hc:=h.ok.Gu rfl;refine apl (Ub _ _) (by rw [YP];exact hc.1) fun n hn=> ?_;have a:=h.lets.get h.ok rfl n hn;have b:=h.sound.jI n hn;have c:=h.sound.top n hn;rw [VR,au hn] at a;rw [ahb _ n hn 256 (aO _),au hn,h.Wp n hn];omega
def aY.Zp (h:aY base V N0 E):zN V=iq (iG V) (wG V N0 E 256)∧uV V=jQ (iG V) (wG V N0 E 256):=by
 have e:zN V=iq (iG V) (wG V N0 E 256):=by
  unfold zN iq;rw [h.wL,D8]
 refine ⟨e,?_⟩;unfold uV jQ;rw [e]
def aY.complete (h:aY base V N0 E):Ok (iG V).C V.C.length N0 E (bD V.C N0 E)∧(iG V).C.length=V.C.length∧Lets (iG V) N0 E (wG V N0 E 256):=by
 refine ⟨by rw [D8];exact h.ok,by rw [D8],?_⟩
 have:=h.lets
 exact ⟨this.lt,fun m hm=>by rw [D8];exact this.jI m hm⟩
structure aok (base:List aj) (V:aB) (N0:Nat) (E:List aW):Prop where
 bH:aY base (uV V) N0 E
 exact:wJ (uV V).C (aH N0 E)
 holds:bD (uV V).C N0 E=bD V.C N0 E
 len:(uV V).C.length=V.C.length
 yE: ∀ f ∈ bP (zN V),gU (zN V) f
def aY.YO (h:aY base V N0 E):aok base V N0 E:=by
 obtain ⟨j,c⟩:=h.Zp;obtain ⟨o1,o2,d⟩:=h.complete;obtain ⟨b,a,e,g⟩:=o1.Vg o2 d;obtain ⟨b1,b2,_,_⟩:=o1.Nl o2 d;rw [← c] at b a e g;rw [← j] at b1 b2;have k:uN base (uV V):=by rw [c];exact h.log.complete.jr (LD (iJ.refl _) _)
 refine ⟨b.bH a e k,g fun m hm=> ?_,?_,a,fun f i=> ?_⟩
 ·rw [D8,VR,au hm]
  have:=h.sound.jI m hm
  omega
 ·rw [← b.holds,sG a]
 ·rw [b1.yE] at i
  have:=b1.sound
  rw [sG b2] at this;exact this.BF i
end
structure MB (V V':aB) (D0 D1:dR):Prop where
 more: ∃ t,V'.L=V.L++t
 cut: ∀ base gn gs,uN base V→ ∀ n,V.L.length≤n→n≤V'.L.length→PC D0 D1 (replay base (qg V'.L (uG V'.L n) gn gs n))
def jo.Ul {V a:aB} {b D1:dR} (t:jo V a b D1) (c:V.loose=false):MB V a b D1:=by
 obtain ⟨es,rfl,hs⟩:=t;exact ⟨(aer es V c).2,fun base gn gs d n e f=>XI _ base gn gs es V d c hs n e f⟩
def aY.ap7 {base:List aj} {V:aB} {N0:Nat} {E:List aW} (h:aY base V N0 E):MB V (uV V) (bD V.C N0 E) (bD V.C N0 E):=by
 obtain ⟨_,D⟩:=h.Zp;obtain ⟨o1,o2,i⟩:=h.complete;rw [D]
 by_cases hs:V.short=true
 ·obtain ⟨u,v,_,_⟩:=o1.Nl o2 i;have e:jQ (iG V) (wG V N0 E 256)=eH (iq (iG V) (wG V N0 E 256)) (yH (aJ (iq (iG V) (wG V N0 E 256)).C) (iq (iG V) (wG V N0 E 256)).C (bP (iq (iG V) (wG V N0 E 256)))):=by
   unfold jQ eH;rw [u.Ph v]
  have q:=fun c d=>o1.adk o2 i c d;have m:=fun c d=>u.adz v c d;rw [e];rw [D8] at q;have z:(iG V).loose=true:=by unfold iG;rw [au hs];rfl
  obtain ⟨y,_,_,l⟩:=Zk (jv (minus (aJ V.C) (wG V N0 E 256))) (iG V) (ab1 V);have l:=l z;rw [D8,ahy] at y;have j:(iq (iG V) (wG V N0 E 256)).L=V.L++((FC V++sJ V.C (jv (minus (aJ V.C) (wG V N0 E 256)))).map vS++[zq]):=by
   rw [Rj,D8];unfold eH fF;rw [au l];show (jr (iG V) _).L++[zq]=_;rw [y]
   simp
  have r:(iq (iG V) (wG V N0 E 256)).loose=false:=by rw [Rj];exact OE _
  have A: ∀ {b:List aj},uN b V→uN b (iq (iG V) (wG V N0 E 256)):=fun f=>by
   rw [Rj];exact f.complete.jr (NH (iJ.refl (iG V)) _)
  generalize iq (iG V) (wG V N0 E 256)=a at*;generalize jv (minus (aJ V.C) (wG V N0 E 256))=k at*;obtain ⟨_,t,F⟩:=aer [yH (aJ a.C) a.C (bP a)] a r;have s:(eH a (yH (aJ a.C) a.C (bP a))).L=a.L++t:=F;refine ⟨⟨_,by rw [s,j,tV]⟩,fun o gn gs f n G H=> ?_⟩
  by_cases hn:n≤V.L.length+(FC V++sJ V.C k).length
  ·exact Um _ o gn gs (ws:=FC V++sJ V.C k) (R:=[zq]++t) f h.Jy (by rw [s,j];simp) (akQ f fun c d=>⟨_,_,_,_,aA rfl,q c fun x g=>(d.trans (aar k V.C)).subset g⟩) n G hn
  ·have hle:a.L.length≤n:=by rw [j];simp at hn ⊢;omega
   refine XI _ o gn gs [yH (aJ a.C) a.C (bP a)] a (A f) r ⟨fun c d=>⟨_,_,_,_,aA rfl,m c fun x g=>d.subset g⟩,?_⟩ n hle H;show PC _ _ (eH a _).C;rw [uz];exact ⟨_,_,_,_,aA rfl,m _ fun x g=>g⟩
 ·have B:V.short=false:=by simpa using hs
  rw [abZ B] at o1 o2 i ⊢;exact (Ok.Wh (jo.nil ⟨_,_,_,_,aA rfl,h.ok⟩) o1 (aA rfl) o2 i).Ul h.Jy
def wQ:List yV→Nat→Nat
 | [],_=>0
 | m :: r,n=>if m.log<n then wQ r n+1 else 0
def ajD: ∀ (l:List yV) (x:List yV) (n:Nat),(∀ m ∈ l,m.log<n)→wQ (l++x) n=l.length+wQ x n
 | [],x,n,_=>sm
 | m :: r,x,n,h=>by
  rw [rU,wQ,au (h m sm),ajD r x n (fun y a=>h y (by simp [a])),iO];omega
def adf: ∀ (l:List yV) (x:List yV) (n:Nat),(∃ m ∈ l,n≤m.log)→wQ (l++x) n=wQ l n∧wQ l n<l.length
 | [],x,n,h=>by obtain ⟨_,h,_⟩:=h;cases h
 | m :: r,x,n,h=>by
  rw [rU,wQ,wQ]
  by_cases hm:m.log<n
  ·rw [au hm,au hm];obtain ⟨y,a,b⟩:=h;rcases cO.1 a with rfl | a
   ·omega
   ·have:=adf r x n ⟨y,a,b⟩
    exact ⟨by rw [this.1],by rw [iO];omega⟩
  ·rw [ak hm,ak hm];exact ⟨rfl,sm⟩
def ajK (A X:List fZ): ∀ k,k≤A.length→uG (A++X) k=uG A k
 | 0,_=>rfl
 | k+1,hk=>by rw [uG,uG,aan X k om,ajK A X k om]
def ami (A X:List fZ) (last gn:Nat) (gs:Nat→Bool): ∀ k,k≤A.length→qg (A++X) last gn gs k=qg A last gn gs k
 | 0,_=>rfl
 | k+1,hk=>by rw [qg,qg,aan X k om,ami A X last gn gs k om]
structure Gl (P:eP):Prop where
 few: ∀ m ∈ P.ms,m.D.L.length≤4
 le: ∀ m ∈ P.ms,m.log≤P.V.L.length
 last: ∃ l m,P.ms=l++[m]∧m.log=P.V.L.length∧m.D=P.D
 cuts: ∀ n gn gs,(P.ms.head?.map (·.log)).getD 0≤n→n≤P.V.L.length→ ∃ i m,(i=wQ P.ms n∨i+1=wQ P.ms n)∧P.ms[i]? = some m∧ ∃ T N0 E,Ok (replay P.B (qg P.V.L (uG P.V.L n) gn gs n)) T N0 E m.D
def Gl.grow {P P':eP} {m:yV} (h:Gl P) (hc:MB P.V P'.V P.D P'.D) (k:uN P.B P.V) (hB:P'.B=P.B) (hm:P'.ms=P.ms++[m]) (o:m.log=P'.V.L.length) (e:m.D=P'.D) (q:P'.D.L.length≤4):Gl P':=by
 obtain ⟨t,f⟩:=hc.more;obtain ⟨l,g,c,z,r⟩:=h.last;have hlen:P.V.L.length≤P'.V.L.length:=by rw [f];simp
 refine ⟨fun y a=> ?_,fun y a=> ?_,⟨P.ms,m,hm,o,e⟩,fun n gn gs j s=> ?_⟩
 ·rw [hm] at a;rcases fK.1 a with b | b
  ·exact h.few y b
  ·rw [iP.1 b,e];exact q
 ·rw [hm] at a;rcases fK.1 a with b | b
  ·have:=h.le y b;omega
  ·rw [iP.1 b];omega
 ·have u:(P'.ms.head?.map (·.log)).getD 0=(P.ms.head?.map (·.log)).getD 0:=by
   rw [hm,c];cases l <;> rfl
  rw [u] at j;rw [hB,hm]
  by_cases hn:n≤P.V.L.length
  ·obtain ⟨i,y,hi,a,d⟩:=h.cuts n gn gs j hn;obtain ⟨v,A⟩:=adf P.ms [m] n ⟨g,by rw [c];simp,om⟩;refine ⟨i,y,by rw [v];exact hi,?_,?_⟩
   ·rw [nV om];exact a
   ·rw [f,ajK _ _ _ hn,ami _ _ _ _ _ _ hn];exact d
  ·have hk:wQ (P.ms++[m]) n=P.ms.length:=by
    rw [ajD P.ms [m] n (fun y a=>by have:=h.le y a;omega),wQ,ak om];rfl
   obtain ⟨T,N0,E,D,x,d⟩:=hc.cut P.B gn gs k n om s;rcases x with rfl | rfl
   ·refine ⟨P.ms.length - 1,g,?_,?_,T,N0,E,by rw [r];exact d⟩
    ·rw [hk,c];simp
    ·rw [nV (by rw [c];simp),c]
     simp
   ·exact ⟨P.ms.length,m,aA hk.symm,sm,T,N0,E,by rw [e];exact d⟩
def Gl.fresh {P:eP} {N0:Nat} {E:List aW} (a:nI P N0 E) (c:P.ms≠[]) (d: ∀ m ∈ P.ms,m.log=P.V.L.length) (f: ∀ m ∈ P.ms,m.D=P.D):Gl P:=by
 have h: ∃ l m,P.ms=l++[m]:=⟨P.ms.dropLast,P.ms.getLast c,(List.dropLast_concat_getLast c).symm⟩;obtain ⟨l,m,e⟩:=h;refine ⟨fun y b=>by rw [f y b,← a.jw];exact a.bH.file.iR.ig,fun y b=>by have:=d y b;omega,⟨l,m,e,d m (by rw [e];simp),f m (by rw [e];simp)⟩,fun n gn gs g k=> ?_⟩;obtain ⟨y,r,hr⟩:=List.exists_cons_of_ne_nil c;have b:=d y (by rw [hr];simp);have hn:n=P.V.L.length:=by
  rw [hr] at g
  have:y.log≤n:=g
  omega
 refine ⟨0,y,aA ?_,by rw [hr];rfl,P.V.C.length,N0,E,?_⟩
 ·rw [hr,wQ,ak om]
 ·have i:=a.bH.log
  have:=Um (fun C=>C=P.V.C) P.B gn gs (V:=P.V) (L:=P.V.L) (R:=[]) (ws:=[]) i a.bH.Jy sm (fun o j=>by rw [N8.1 j];rfl) n om (by simp;omega)
  rw [this,f y (by rw [hr];simp),← a.jw];exact a.bH.ok
end
end Go.Proofs.YtknjjjenklfeoaaGreatDoor
