import Derived.Test.YtknjjjenklfeoaaGreatDoorO50
import Derived.LaidEql
import Derived.RowKitTokens
set_option maxHeartbeats 8000000
set_option maxRecDepth 100000
set_option linter.all false
namespace Go.Proofs.YtknjjjenklfeoaaGreatDoor
open Go.RowKit
section
open Go.RowKit Go.Shelf
attribute [local go_sem ↓] dw fP fZ kS mP mV jJ kJ jY jU lD lH kQ ku kT mQ mW lZ ny jG
attribute [local go_sem] dK fO fV gK gy aV kX mG mM mJ mF gI jK kH jX kZ kW iJ jW lq lC lu kF jc jd lY l7 kG kY mO nI lT mD nH
attribute [local go_sem] Oper.semAt_some
attribute [local go_sem] pW pV
theorem ahl {file:List aj} (hl: ∀ c ∈ file,c.length=64):lQ file=true↔Ph file:=by
 constructor
 ·intro h;obtain ⟨h1,_,h3,h4,h5,h6,h7⟩:=Tz h;have hc:(cl file 0).length=64:=iM hl om;have hb:Tv (cl file 0)=true:=by rw [abn hc,h7,eH h3];rfl
  exact ⟨h1,Zo hb,h4,h5,h6⟩
 ·intro h;have h6:=h.qj;have h7:=h.seven;have h8:=h.most;have h9:=h.le;have hc:(cl file 0).length=64:=iM hl om;have hb:Tv (cl file 0)=true:=eH h.same;rw [abn hc,vU,CO] at hb;unfold lQ;simp only [vU,CO];exact ⟨h6,om,hb.1,h7,h8,h9,hb.2⟩
section
variable {file:List aj}
theorem aq9 (hh:lQ file=true) (h1:wW (cl (dJ file).C 5)=false):rO file=5:=by
 unfold rO;rw [ak (by rw [hh];decide),au h1]
theorem ara (hh:lQ file=true) (h1:wW (cl (dJ file).C 5)=true) (h2:(nC (bK (dJ file)) 0 (qE file)).1=false):rO file=(nC (bK (dJ file)) 0 (qE file)).2.bad:=by
 unfold rO;rw [ak (by rw [hh];decide),ak (by rw [h1];decide),au h2]
theorem arb (hh:lQ file=true) (h1:wW (cl (dJ file).C 5)=true) (h2:(nC (bK (dJ file)) 0 (qE file)).1=true) (h3:0≤Ak (iE (dJ file)) (aJ (dJ file).C) (dJ file).C.length 256 0):
  rO file=Ak (iE (dJ file)) (aJ (dJ file).C) (dJ file).C.length 256 0:=by
 unfold rO;rw [ak (by rw [hh];decide),ak (by rw [h1];decide),ak (by rw [h2];decide),au h3]
theorem ajd (hh:lQ file=true) (h1:wW (cl (dJ file).C 5)=true) (h2:(nC (bK (dJ file)) 0 (qE file)).1=true) (h3:Ak (iE (dJ file)) (aJ (dJ file).C) (dJ file).C.length 256 0= -1):
  rO file=FC (dJ file).C (aJ (dJ file).C) (bK (dJ file)):=by
 unfold rO;rw [ak (by rw [hh];decide),ak (by rw [h1];decide),ak (by rw [h2];decide),ak (by rw [h3];decide)]
theorem arf (hl: ∀ c ∈ file,c.length=64) (hh:lQ file=true) (h1:wW (cl (dJ file).C 5)=true) (h2:(nC (bK (dJ file)) 0 (qE file)).1=true): ∀ f ∈ bK (dJ file),gJ (dJ file) f:=by
 obtain ⟨E,hE⟩:=aaY hh hl h1;have h3:(iG file).1=true:=by rw [hE.nums,← hE.XH];exact h2
 have ht:=(hE.trees h3).1;rw [← hE.Uj] at ht;intro f hf;rw [hE.XH] at hf;exact ht.Di hf
end
structure RZ (file:List aj) (j:Nat):Prop where
 s1:1≤j→wW (cl (dJ file).C 5)=true
 s2:2≤j→(nC (bK (dJ file)) 0 (qE file)).1=true
 s3:3≤j→Ak (iE (dJ file)) (aJ (dJ file).C) (dJ file).C.length 256 0= -1
 s4:4≤j→FC (dJ file).C (aJ (dJ file).C) (bK (dJ file))= -1
def afC (v:Nat):Array Value:= #[.func (.func 93) #[.pointer (some ⟨v,0,none⟩)] #[],.func (.func 94) #[.pointer (some ⟨v,0,none⟩)] #[],.func (.func 95) #[.pointer (some ⟨v,0,none⟩)] #[],.func (.func 96) #[.pointer (some ⟨v,0,none⟩)] #[]]
def Po (file:List aj) (e:Ending):Prop:= ∃ (n:Nat) (x:Value),rO file=(n:Int)∧isIface x∧e= .returned (.tuple #[.pointer none,kD n x])
def ZW (w w':World) (file:List aj) (e:Ending):Prop:=rO file= -1∧ ∃ v Cv Lv,e= .returned (.tuple #[.pointer (some ⟨v,0,none⟩),.nilIface])∧aN w' v Cv Lv (dJ file)∧ ∀ k,eX v Cv Lv k→w.heap.size≤k
theorem auV (w:World) (fv:Value) (file:List aj) (hf:lK w fv file) (hG:oQ w) (hm:file.length≤1000000) (hbad: ¬ Ph file):
  Calls Tryz.prog 48 #[fv] w fun e w'=>(∃ x,isIface x∧e= .returned (.tuple #[.pointer none,kD 0 x]))∧aC w w':=by
 have Hh:=ah (ank w fv file hf hG hm hbad);clear hf hG
 go_enter Tryz.func48,Tryz.ntmps48
 go_wp2_with fail
 refine Hh.mono ?_;rintro e w1 ⟨⟨x,⟨t,y,rfl⟩,rfl⟩,hb1⟩;have HB:=ah hb1;clear Hh hb1;unfold kD;go_wp2;refine gV (MQ rfl _ _ _) rfl ?_;exact ⟨⟨_,⟨_,_,rfl⟩,rfl⟩,uh HB⟩
theorem auW (w:World) (fv:Value) (file:List aj) (hf:lK w fv file) (hG:oQ w) (hH:Ph file):
  Calls Tryz.prog 48 #[fv] w fun e w'=>(Po file e∨ZW w w' file e)∧aC w w':=by
 have hh:=(ahl hf.lens).2 hH;have Hh:=ah (anm w fv file hf hG hH);have h6:=hH.qj;have h7:=hH.seven;have h8:=hH.most;have h9:=hH.le;have hlen0:=iM hf.lens (k:=0) om;have Hho:=ah (fun W=>NM W (cl file 0) hlen0);have Vz:=ah (fun W (hb:aC w W)=>aq2 W fv file (hf.kept (S:=fun _=>False) (Kept.dS hb) (fun _ _=>id)) (num (cl file 0) 4) om h9 h8);obtain ⟨g,cap,rfl,hcap⟩:=gB hf.row om;have HL:=ah (fun W (hb:aC w W)=>(⟨oI (hf.kept (S:=fun _=>False) (Kept.dS hb) (fun _ _=>id)).row hf.lens 0 om,oH (hf.kept (S:=fun _=>False) (Kept.dS hb) (fun _ _=>id)).row hf.lens 0 om⟩:_∧_));simp only [yV] at HL;have Fv:(0:Int)<(file.length:Int):=om
 go_enter Tryz.func48,Tryz.ntmps48
 go_wp2_with fail
 refine Hh.mono ?_;rintro e w1 ⟨rfl,hb1⟩;have HB1:=ah hb1;clear Hh hb1;have l1:=(uh HL _ HB1).1;have l2:=(uh HL _ HB1).2
 go_wp2_with fail
 refine (uh Hho _).mono ?_;rintro e w2 ⟨rfl,hb2⟩;have HB2:=ah (HB1.trans (hb2.mono HB1.size));clear hb2 HB1 l1 l2 Hho HL;have Vz:=ah (uh Vz w2 HB2)
 go_wp2_with fail
 refine Vz.mono ?_;rintro e w3 ⟨gc,hgc,rfl,hrow,hb3⟩;have HB3:=ah (HB2.trans (hb3.mono HB2.size));have hgw:w.heap.size≤gc:=jZ HB2.size hgc;have hgl:gc<w3.heap.size:=(hrow.lt gc rfl).2;have HR:=ah hrow;have Hb3:=hb3.size;clear hb3 hrow Vz;have hv3:(w3.alloc (.cells #[.slice (some ⟨gc,0,none⟩) (num (cl file 0) 4) (num (cl file 0) 4),.slice none 0 0,.bool false,.bool (decide (file.length<num (cl file 0) 4))] 121)).heap[w3.heap.size]? = some (.cells (OB (.slice (some ⟨gc,0,none⟩) (num (cl file 0) 4) (num (cl file 0) 4)) (.slice none 0 0) (dJ file)).toArray 121 (0,0)):=aW _ _;have hk3:aC w3 (w3.alloc (.cells #[.slice (some ⟨gc,0,none⟩) (num (cl file 0) 4) (num (cl file 0) 4),.slice none 0 0,.bool false,.bool (decide (file.length<num (cl file 0) 4))] 121)):=fC
 have Tq:aN (w3.alloc (.cells #[.slice (some ⟨gc,0,none⟩) (num (cl file 0) 4) (num (cl file 0) 4),.slice none 0 0,.bool false,.bool (decide (file.length<num (cl file 0) 4))] 121)) w3.heap.size (.slice (some ⟨gc,0,none⟩) (num (cl file 0) 4) (num (cl file 0) 4)) (.slice none 0 0) (dJ file):=by
  refine ⟨hv3,?_,wF _ _ _ _,Oa hf.lens,fun x hx=>(by cases hx),fun _=>by rw [H9];omega⟩;rw [H9];exact bQ (S:=fun _=>False) (Kept.dS hk3) HR (fun _ _=>id)
 have WJ:=Tq.alloc (.cells #[.func (.func 93) #[.pointer (some ⟨w3.heap.size,0,none⟩)] #[],.func (.func 94) #[.pointer (some ⟨w3.heap.size,0,none⟩)] #[],.func (.func 95) #[.pointer (some ⟨w3.heap.size,0,none⟩)] #[],.func (.func 96) #[.pointer (some ⟨w3.heap.size,0,none⟩)] #[]] 154);have hBb:=(HB3.alloc HB3.size (.cells #[.slice (some ⟨gc,0,none⟩) (num (cl file 0) 4) (num (cl file 0) 4),.slice none 0 0,.bool false,.bool (decide (file.length<num (cl file 0) 4))] 121));have hBb:=hBb.alloc hBb.size (.cells #[.func (.func 93) #[.pointer (some ⟨w3.heap.size,0,none⟩)] #[],.func (.func 94) #[.pointer (some ⟨w3.heap.size,0,none⟩)] #[],.func (.func 95) #[.pointer (some ⟨w3.heap.size,0,none⟩)] #[],.func (.func 96) #[.pointer (some ⟨w3.heap.size,0,none⟩)] #[]] 154)
 have PZ:=aW (w3.alloc (.cells #[.slice (some ⟨gc,0,none⟩) (num (cl file 0) 4) (num (cl file 0) 4),.slice none 0 0,.bool false,.bool (decide (file.length<num (cl file 0) 4))] 121)) (.cells #[.func (.func 93) #[.pointer (some ⟨w3.heap.size,0,none⟩)] #[],.func (.func 94) #[.pointer (some ⟨w3.heap.size,0,none⟩)] #[],.func (.func 95) #[.pointer (some ⟨w3.heap.size,0,none⟩)] #[],.func (.func 96) #[.pointer (some ⟨w3.heap.size,0,none⟩)] #[]] 154);rw [jB] at PZ;have WJ:=ah WJ;have hBb:=ah hBb;have PZ:=ah PZ;have hw3:w.heap.size≤w3.heap.size:=HB3.size;have hT4:num (cl (dJ file).C 0) 4=(dJ file).C.length:=by rw [XI hh 0 om,H9]
 have WG:5<(dJ file).C.length:=by rw [H9];omega
 have PU:(dJ file).C.length≤256:=by rw [H9];exact h8
 have hFF:=arf hf.lens hh;have Vp:=ah hG;clear Tq hv3 hk3 HR HB3 hG hH;unfold OB
 go_wp2_with fail
 change Hid (_=some (Obj.cells (afC w3.heap.size) 154 (0,0))) at PZ;generalize World.alloc _ _=wb at*
 go_loopw [7,8,33] (fun _ _ i wr=> ∃ j:Nat,j≤4∧i= .int .i64 j∧aC w wr∧aN wr w3.heap.size (.slice (some ⟨gc,0,none⟩) (num (cl file 0) 4) (num (cl file 0) 4)) (.slice none 0 0) (dJ file)∧wr.heap[w3.heap.size+1]? = some (.cells (afC w3.heap.size) 154 (0,0))∧RZ file j) (fun _ _ i _=>4 - (intOf i).toNat)
 case atStart=>exact ⟨0,om,rfl,uh hBb,uh WJ,uh PZ,⟨fun h=>om,fun h=>om,fun h=>om,fun h=>om⟩⟩
 case round=>
  obtain ⟨j,hj,rfl,hB,hV,hX,hS⟩:=hrel;clear hBb WJ PZ
  by_cases j0:j=0
  ·subst j0;have cj:wr.cell? ⟨w3.heap.size+1,0,none⟩=some (.func (.func 93) #[.pointer (some ⟨w3.heap.size,0,none⟩)] #[]):=(aG hX 0).trans rfl;have Gh:=ah (anu wr w3.heap.size _ _ (dJ file) hV (Vp.below hB) WG);have HB:=ah hB;have HV:=ah hV;have HX:=ah hX;clear hB hV hX
   go_wp2_with fail
   refine Gh.mono ?_;rintro e wn ⟨hend,hbn⟩;have F9:=ah (HB.trans (hbn.mono HB.size));have MX:=ah (HV.below hbn);have MZ:=ah ((hbn.block _ (aO HX)).trans HX);clear HB HV HX Gh hbn cj;rcases hend with ⟨h1,rfl⟩ | ⟨h1,x,⟨t,y,rfl⟩,rfl⟩
   ·have hst:RZ file 1:=⟨fun _=>h1,fun h=>om,fun h=>om,fun h=>om⟩;have HS:=ah hst;go_wp2;go_roundw
    case rel=>exact ⟨1,om,gn,uh F9,uh MX,uh MZ,uh HS⟩
    case measure=>simp [intOf]
   ·have hx:Po file (.returned (.tuple #[.pointer none,kD 5 (.iface t y)])):=⟨5,_,aq9 hh h1,⟨_,_,rfl⟩,rfl⟩;unfold kD at hx ⊢;have HX:=ah hx;go_wp2;refine gV (MQ rfl _ _ _) rfl ?_;exact ⟨aA HX,uh F9⟩
  by_cases j1:j=1
  ·subst j1;have cj:wr.cell? ⟨w3.heap.size+1,1,none⟩=some (.func (.func 94) #[.pointer (some ⟨w3.heap.size,0,none⟩)] #[]):=(aG hX 1).trans rfl;have Gh:=ah (eY.1 (anw wr w3.heap.size _ _ (dJ file) hV (Vp.below hB) WG PU hT4 (qE file) rfl rfl));have HB:=ah hB;have HV:=ah hV;have HX:=ah hX;clear hB hV hX
   go_wp2_with fail
   refine Gh.mono ?_;rintro e wn ⟨hend,hbn⟩;have F9:=ah (HB.trans (hbn.mono HB.size));have MX:=ah (HV.below hbn);have MZ:=ah ((hbn.block _ (aO HX)).trans HX);clear HB HV HX Gh hbn cj;rcases hend with ⟨h1,rfl⟩ | ⟨h1,n,x,h2,⟨t,y,rfl⟩,rfl⟩
   ·have hst:RZ file 2:=⟨fun _=>hS.s1 om,fun _=>h1,fun h=>om,fun h=>om⟩;have HS:=ah hst;go_wp2;go_roundw
    case rel=>exact ⟨2,om,gn,uh F9,uh MX,uh MZ,uh HS⟩
    case measure=>simp [intOf]
   ·have hx:Po file (.returned (.tuple #[.pointer none,kD n (.iface t y)])):=⟨n,_,(ara hh (hS.s1 om) h1).trans h2,⟨_,_,rfl⟩,rfl⟩;unfold kD at hx ⊢;have HX:=ah hx;go_wp2;refine gV (MQ rfl _ _ _) rfl ?_;exact ⟨aA HX,uh F9⟩
  by_cases j2:j=2
  ·subst j2;have cj:wr.cell? ⟨w3.heap.size+1,2,none⟩=some (.func (.func 95) #[.pointer (some ⟨w3.heap.size,0,none⟩)] #[]):=(aG hX 2).trans rfl;have Gh:=ah (anj wr w3.heap.size _ _ (dJ file) hV (Vp.below hB) WG PU (hFF (hS.s1 om) (hS.s2 om)) hT4);have HB:=ah hB;have HV:=ah hV;have HX:=ah hX;clear hB hV hX
   go_wp2_with fail
   refine Gh.mono ?_;rintro e wn ⟨hend,hbn⟩;have F9:=ah (HB.trans (hbn.mono HB.size));have MX:=ah (HV.below hbn);have MZ:=ah ((hbn.block _ (aO HX)).trans HX);clear HB HV HX Gh hbn cj;rcases hend with ⟨h1,rfl⟩ | ⟨n,x,h2,⟨t,y,rfl⟩,rfl⟩
   ·have hst:RZ file 3:=⟨fun _=>hS.s1 om,fun _=>hS.s2 om,fun _=>h1,fun h=>om⟩;have HS:=ah hst;go_wp2;go_roundw
    case rel=>exact ⟨3,om,gn,uh F9,uh MX,uh MZ,uh HS⟩
    case measure=>simp [intOf]
   ·have hx:Po file (.returned (.tuple #[.pointer none,kD n (.iface t y)])):=⟨n,_,(arb hh (hS.s1 om) (hS.s2 om) (by rw [h2];omega)).trans h2,⟨_,_,rfl⟩,rfl⟩;unfold kD at hx ⊢;have HX:=ah hx;go_wp2;refine gV (MQ rfl _ _ _) rfl ?_;exact ⟨aA HX,uh F9⟩
  by_cases j3:j=3
  ·subst j3;have cj:wr.cell? ⟨w3.heap.size+1,3,none⟩=some (.func (.func 96) #[.pointer (some ⟨w3.heap.size,0,none⟩)] #[]):=(aG hX 3).trans rfl;have Gh:=ah (eY.1 (anv wr w3.heap.size _ _ (dJ file) hV (Vp.below hB) WG PU (hFF (hS.s1 om) (hS.s2 om))));have HB:=ah hB;have HV:=ah hV;have HX:=ah hX;clear hB hV hX
   go_wp2_with fail
   refine Gh.mono ?_;rintro e wn ⟨hend,hbn⟩;have F9:=ah (HB.trans (hbn.mono HB.size));have MX:=ah (HV.below hbn);have MZ:=ah ((hbn.block _ (aO HX)).trans HX);clear HB HV HX Gh hbn cj;rcases hend with ⟨h1,rfl⟩ | ⟨n,x,h2,⟨t,y,rfl⟩,rfl⟩
   ·have hst:RZ file 4:=⟨fun _=>hS.s1 om,fun _=>hS.s2 om,fun _=>hS.s3 om,fun _=>h1⟩;have HS:=ah hst;go_wp2;go_roundw
    case rel=>exact ⟨4,om,gn,uh F9,uh MX,uh MZ,uh HS⟩
    case measure=>simp [intOf]
   ·have hx:Po file (.returned (.tuple #[.pointer none,kD n (.iface t y)])):=⟨n,_,(ajd hh (hS.s1 om) (hS.s2 om) (hS.s3 om)).trans h2,⟨_,_,rfl⟩,rfl⟩;unfold kD at hx ⊢;have HX:=ah hx;go_wp2;refine gV (MQ rfl _ _ _) rfl ?_;exact ⟨aA HX,uh F9⟩
  have j4:j=4:=om;subst j4;have hx:ZW w wr file (.returned (.tuple #[.pointer (some ⟨w3.heap.size,0,none⟩),.nilIface])):=by
   refine ⟨(ajd hh (hS.s1 om) (hS.s2 om) (hS.s3 om)).trans (hS.s4 om),_,_,_,rfl,hV,?_⟩;rintro k (rfl | hk | hk)
   ·exact hw3
   ·injection hk with hk;rw [← hk];exact hgw
   ·cases hk
  have HB:=ah hB;have HX:=ah hx;clear hB hV hX hx hS;go_wp2;refine gV (MQ rfl _ _ _) rfl ?_;exact ⟨ay HX,uh HB⟩
end
section
open Go.RowKit Go.Shelf Go.Extern
attribute [local go_sem] Oper.semAt_some
theorem amJ (t:Addr) (w:World):(ReflectliteValue.unpack (.iface 159 (.pointer (some t)))).run Tryz.prog w
  = .ok (.agg #[.pointer (some ⟨10,159,none⟩),.pointer (some ⟨w.heap.size,0,none⟩),.int .u64 150]) (w.alloc (.cells #[.pointer (some t)] 159)):=kr
theorem amH (a : Addr) (w : World) : (ReflectliteValue.methodAny (ReflectliteValue.valueError "reflectlite.Value.Type" 0) (fun t _ _ _ => ReflectliteType.toType t) #[.agg #[.pointer (some ⟨10, 159, none⟩), .pointer (some a), .int .u64 150]]).run Tryz.prog w
  = .ok (.iface 246 (.agg #[.pointer (some ⟨10,159,none⟩)])) w:=kr
theorem amB (h : Value) (w : World) : (Go.method 398 246 (.agg #[h]) "Kind").run Tryz.prog w = .ok (204, h) w := kr
theorem amw (w:World):((ReflectliteType.abiMethod fun t=>(fun a:Nat=>Value.int IntKind.u8 (a:Int)) <$> Rtype.kind t) #[.pointer (some ⟨10,159,none⟩)]).run Tryz.prog w= .ok (.int .u8 22) w:=kr
theorem amv (w:World):((ReflectliteType.abiMethod fun t=>(fun a:Nat=>Value.int IntKind.u8 (a:Int)) <$> Rtype.kind t) #[.pointer (some ⟨10,157,none⟩)]).run Tryz.prog w= .ok (.int .u8 25) w:=kr
theorem ae7 (a:Addr) (w:World):(ReflectliteValue.parts (.agg #[.pointer (some ⟨10,159,none⟩),.pointer (some a),.int .u64 150])).run Tryz.prog w= .ok (some (159,a,150)) w:=kr
theorem amu (a p:Addr) (W:World) (ha:W.cell? a=some (.pointer (some p))):
  (ReflectliteValue.method (ReflectliteValue.valueError "reflectlite.Value.IsNil" 0) ReflectliteValue.isNil #[.agg #[.pointer (some ⟨10, 159, none⟩), .pointer (some a), .int .u64 150]]).run Tryz.prog W = .ok (.bool false) W := by
 show (ReflectliteValue.parts (.agg #[.pointer (some ⟨10,159,none⟩),.pointer (some a),.int .u64 150]) >>= _).run Tryz.prog W=_;rw [jh,ae7];simp only [Result.andThen];simp [ReflectliteValue.isNil,loadVar,isAgg,underlying,Tryz.underlying159,ha,Result.andThen]
theorem amy (h : Value) (w : World) : (Go.method 398 246 (.agg #[h]) "Elem").run Tryz.prog w = .ok (215, .agg #[h]) w := kr
theorem amA (h : Value) (w : World) : (Go.method 398 246 (.agg #[h]) "Implements").run Tryz.prog w = .ok (216, .agg #[h]) w := kr
theorem amx (h : Value) (w : World) : (Go.method 398 246 (.agg #[h]) "AssignableTo").run Tryz.prog w = .ok (213, .agg #[h]) w := kr
theorem amo (w:World):(ReflectliteType.method ReflectliteType.elem #[.agg #[.pointer (some ⟨10,159,none⟩)]]).run Tryz.prog w= .ok (.iface 246 (.agg #[.pointer (some ⟨10,157,none⟩)])) w:=kr
theorem ams (w : World) : (ReflectliteType.relation "Implements" ReflectliteType.implements_ #[.agg #[.pointer (some ⟨10, 157, none⟩)], .iface 246 (.agg #[.pointer (some ⟨10, 98, none⟩)])]).run Tryz.prog w = .ok (.bool true) w := kr
theorem amG (v:Value) (w:World):(ReflectliteType.typeOf #[.iface 157 v]).run Tryz.prog w= .ok (.iface 246 (.agg #[.pointer (some ⟨10,157,none⟩)])) w:=kr
theorem aml (w : World) : (ReflectliteType.relation "AssignableTo" ReflectliteType.assignableTo #[.agg #[.pointer (some ⟨10, 157, none⟩)], .iface 246 (.agg #[.pointer (some ⟨10, 157, none⟩)])]).run Tryz.prog w = .ok (.bool true) w := kr
theorem amI (a b:Value) (w:World):(ReflectliteValue.unpack (.iface 157 (.agg #[a,b]))).run Tryz.prog w
  = .ok (.agg #[.pointer (some ⟨10,157,none⟩),.pointer (some ⟨w.heap.size,0,none⟩),.int .u64 153]) (w.alloc (.cells #[a,b] 157)):=kr
theorem amn (w:World):(Rtype.elem? 159).run Tryz.prog w= .ok (some 157) w:=kr
theorem amC (p:Addr) (w:World):(ReflectliteValue.mk 157 p ReflectliteValue.flagAddr).run Tryz.prog w= .ok (.agg #[.pointer (some ⟨10,157,none⟩),.pointer (some p),.int .u64 409]) w:=kr
theorem amq (a p:Addr) (W:World) (ha:W.cell? a=some (.pointer (some p))):
  (ReflectliteValue.method (ReflectliteValue.valueError "reflectlite.Value.Elem" 0) ReflectliteValue.elem #[.agg #[.pointer (some ⟨10, 159, none⟩), .pointer (some a), .int .u64 150]]).run Tryz.prog W
   = .ok (.agg #[.pointer (some ⟨10,157,none⟩),.pointer (some p),.int .u64 409]) W:=by
 show (ReflectliteValue.parts (.agg #[.pointer (some ⟨10,159,none⟩),.pointer (some a),.int .u64 150]) >>= _).run Tryz.prog W=_;rw [jh,ae7];simp only [Result.andThen];simp [ReflectliteValue.elem,loadVar,isAgg,underlying,Tryz.underlying159,ha,Result.andThen,amn,amC]
theorem amD (a:Addr) (w:World):(ReflectliteValue.parts (.agg #[.pointer (some ⟨10,157,none⟩),.pointer (some a),.int .u64 409])).run Tryz.prog w= .ok (some (157,a,409)) w:=kr
theorem amE (a:Addr) (w:World):(ReflectliteValue.parts (.agg #[.pointer (some ⟨10,157,none⟩),.pointer (some a),.int .u64 153])).run Tryz.prog w= .ok (some (157,a,153)) w:=kr
theorem amm (w:World):(Rtype.directlyAssignable 157 157).run Tryz.prog w= .ok true w:=kr
theorem amF (t b:Nat) (c x:Value) (W:World) (hc:c.oneCell'=true) (hx:x.oneCell'=true) (hb:W.heap[b]? = some (.cells #[c,x] 157 (0,0))) (ht:W.there t 0 2):
  (ReflectliteValue.set #[.agg #[.pointer (some ⟨10,157,none⟩),.pointer (some ⟨t,0,none⟩),.int .u64 409],.agg #[.pointer (some ⟨10,157,none⟩),.pointer (some ⟨b,0,none⟩),.int .u64 153]]).run Tryz.prog W
   = .ok (.tuple #[]) (W.setCells t 0 [c,x]):=by
 have hb':W.heap[b]? = some (.cells [c,x].toArray 157 (0,0)):=hb;have hl:=AX (P:=Tryz.prog) (fD hb' (n:=2) rfl) 157 _ Tryz.underlying157 rfl kr;rw [fG hb' (n:=2) rfl] at hl;have hs:=FX (P:=Tryz.prog) W t 0 157 [c,x].toArray (by simpa using ht) (by simp only [iR];kernel_rfl) (vg (by
  intro v hv;simp only [dD,jM,jO] at hv;rcases hv with rfl | rfl
  ·exact hc
  ·exact hx))
 show (ReflectliteValue.parts (.agg #[.pointer (some ⟨10,157,none⟩),.pointer (some ⟨t,0,none⟩),.int .u64 409]) >>= _).run Tryz.prog W=_;rw [jh,amD];show (ReflectliteValue.parts (.agg #[.pointer (some ⟨10,157,none⟩),.pointer (some ⟨b,0,none⟩),.int .u64 153]) >>= _).run Tryz.prog W=_;rw [jh,amE];simp only [Result.andThen];simp [ReflectliteValue.flagAddr,hl,Result.andThen,amm];rw [hs]
theorem amr (t:Nat) (c x:Value) (hc:c.oneCell'=true) (hx:x.oneCell'=true) (w:World) (hG:oQ w) (ht:w.there t 0 2):
  Calls Tryz.prog 97 #[.iface 157 (.agg #[c,x]),.iface 159 (.pointer (some ⟨t,0,none⟩))] w fun ev w'=>ev= .returned (.bool true)∧ ∃ W,aC w W∧w'=W.setCells t 0 [c,x]:=by
 have h6:= @run_callFunc_extern Tryz.prog 154 _ (fun args=>ReflectliteValue.unpack (args.getD 0 (.tuple #[]))) Tryz.func154 kr kr kr kr;have h7 := @run_callFunc_extern Tryz.prog 155 _ (ReflectliteValue.methodAny (ReflectliteValue.valueError "reflectlite.Value.Type" 0) (fun t _ _ _ => ReflectliteType.toType t)) Tryz.func155 kr kr kr kr
 have h8 := @run_callFunc_extern Tryz.prog 156 _ (ReflectliteValue.method (ReflectliteValue.valueError "reflectlite.Value.IsNil" 0) ReflectliteValue.isNil) Tryz.func156 kr kr kr kr
 have h27:= @run_callFunc_extern Tryz.prog 204 _ (ReflectliteType.abiMethod fun t=>do pure (.int .u8 (← Rtype.kind t))) Tryz.func204 kr kr kr kr;have h37:= @run_callFunc_extern Tryz.prog 215 _ (ReflectliteType.method ReflectliteType.elem) Tryz.func215 kr kr kr kr;have h38 := @run_callFunc_extern Tryz.prog 216 _ (ReflectliteType.relation "Implements" ReflectliteType.implements_) Tryz.func216 kr kr kr kr
 have h10:= @run_callFunc_extern Tryz.prog 175 _ (ReflectliteType.typeOf) Tryz.func175 kr kr kr kr;have h35 := @run_callFunc_extern Tryz.prog 213 _ (ReflectliteType.relation "AssignableTo" ReflectliteType.assignableTo) Tryz.func213 kr kr kr kr
 have h11 := @run_callFunc_extern Tryz.prog 176 _ (ReflectliteValue.method (ReflectliteValue.valueError "reflectlite.Value.Elem" 0) ReflectliteValue.elem) Tryz.func176 kr kr kr kr
 have h12:= @run_callFunc_extern Tryz.prog 177 _ (ReflectliteValue.set) Tryz.func177 kr kr kr kr;have tO:=amG;have mA:=amx;have a25:=aml;have v25:=amI c x;have f6:=amJ;have f7:=amH;have mK:=amB;have mE:=amy;have mI:=amA;have k27:=amw;have k25:=amv;have e27:=amo;have i25:=ams;have h9:=hG.size;have htl:t<w.heap.size:=by
  have h0:=(ht 0 om).1;rcases Jw t w.heap.size with h | h
  ·exact h
  ·simp [World.cell?,OV h] at h0
 have b1:aC w (w.alloc (.cells #[.pointer (some ⟨t,0,none⟩)] 159)):=fC;have b2:aC w ((w.alloc (.cells #[.pointer (some ⟨t,0,none⟩)] 159)).alloc (.cells #[.pointer (some ⟨10,159,none⟩),.pointer (some ⟨w.heap.size,0,none⟩),.int .u64 150] 224)):=b1.alloc b1.size _;have b3:aC w (((w.alloc (.cells #[.pointer (some ⟨t,0,none⟩)] 159)).alloc (.cells #[.pointer (some ⟨10,159,none⟩),.pointer (some ⟨w.heap.size,0,none⟩),.int .u64 150] 224)).alloc (.cells #[.pointer (some ⟨10,159,none⟩),.pointer (some ⟨w.heap.size,0,none⟩),.int .u64 150] 224)):=b2.alloc b2.size _;have b4:aC w ((((w.alloc (.cells #[.pointer (some ⟨t,0,none⟩)] 159)).alloc (.cells #[.pointer (some ⟨10,159,none⟩),.pointer (some ⟨w.heap.size,0,none⟩),.int .u64 150] 224)).alloc (.cells #[.pointer (some ⟨10,159,none⟩),.pointer (some ⟨w.heap.size,0,none⟩),.int .u64 150] 224)).alloc (.cells #[c,x] 157)):=b3.alloc b3.size _
 have x1:(w.alloc (.cells #[.pointer (some ⟨t,0,none⟩)] 159)).heap[w.heap.size]? = some (.cells #[.pointer (some ⟨t,0,none⟩)] 159 (0,0)):=aW _ _;have x2:((w.alloc (.cells #[.pointer (some ⟨t,0,none⟩)] 159)).alloc (.cells #[.pointer (some ⟨10,159,none⟩),.pointer (some ⟨w.heap.size,0,none⟩),.int .u64 150] 224)).heap[w.heap.size]? = some (.cells #[.pointer (some ⟨t,0,none⟩)] 159 (0,0)):=(jE _ _ _ (aO x1)).trans x1;have x3:(((w.alloc (.cells #[.pointer (some ⟨t,0,none⟩)] 159)).alloc (.cells #[.pointer (some ⟨10,159,none⟩),.pointer (some ⟨w.heap.size,0,none⟩),.int .u64 150] 224)).alloc (.cells #[.pointer (some ⟨10,159,none⟩),.pointer (some ⟨w.heap.size,0,none⟩),.int .u64 150] 224)).heap[w.heap.size]? = some (.cells #[.pointer (some ⟨t,0,none⟩)] 159 (0,0)):=(jE _ _ _ (aO x2)).trans x2
 have n8:=amu ⟨w.heap.size,0,none⟩ ⟨t,0,none⟩ ((w.alloc (.cells #[.pointer (some ⟨t,0,none⟩)] 159)).alloc (.cells #[.pointer (some ⟨10,159,none⟩),.pointer (some ⟨w.heap.size,0,none⟩),.int .u64 150] 224)) ((aG x2 0).trans rfl);have hg2:=(hG.below b2).typ;have el:=amq ⟨w.heap.size,0,none⟩ ⟨t,0,none⟩ (((w.alloc (.cells #[.pointer (some ⟨t,0,none⟩)] 159)).alloc (.cells #[.pointer (some ⟨10,159,none⟩),.pointer (some ⟨w.heap.size,0,none⟩),.int .u64 150] 224)).alloc (.cells #[.pointer (some ⟨10,159,none⟩),.pointer (some ⟨w.heap.size,0,none⟩),.int .u64 150] 224)) ((aG x3 0).trans rfl)
 have x4:((((w.alloc (.cells #[.pointer (some ⟨t,0,none⟩)] 159)).alloc (.cells #[.pointer (some ⟨10,159,none⟩),.pointer (some ⟨w.heap.size,0,none⟩),.int .u64 150] 224)).alloc (.cells #[.pointer (some ⟨10,159,none⟩),.pointer (some ⟨w.heap.size,0,none⟩),.int .u64 150] 224)).alloc (.cells #[c,x] 157)).heap[w.heap.size+1+1+1]? = some (.cells #[c,x] 157 (0,0)):=by
  have:=aW (((w.alloc (.cells #[.pointer (some ⟨t,0,none⟩)] 159)).alloc (.cells #[.pointer (some ⟨10,159,none⟩),.pointer (some ⟨w.heap.size,0,none⟩),.int .u64 150] 224)).alloc (.cells #[.pointer (some ⟨10,159,none⟩),.pointer (some ⟨w.heap.size,0,none⟩),.int .u64 150] 224)) (.cells #[c,x] 157)
  rwa [jB,jB,jB] at this
 have ht4:((((w.alloc (.cells #[.pointer (some ⟨t,0,none⟩)] 159)).alloc (.cells #[.pointer (some ⟨10,159,none⟩),.pointer (some ⟨w.heap.size,0,none⟩),.int .u64 150] 224)).alloc (.cells #[.pointer (some ⟨10,159,none⟩),.pointer (some ⟨w.heap.size,0,none⟩),.int .u64 150] 224)).alloc (.cells #[c,x] 157)).there t 0 2:=fun j hj=>by
  have h1:=ht j hj;have hb:=b4.block t htl;unfold World.cell? World.frozen? at h1 ⊢;rw [show ((((w.alloc (.cells #[.pointer (some ⟨t,0,none⟩)] 159)).alloc (.cells #[.pointer (some ⟨10,159,none⟩),.pointer (some ⟨w.heap.size,0,none⟩),.int .u64 150] 224)).alloc (.cells #[.pointer (some ⟨10,159,none⟩),.pointer (some ⟨w.heap.size,0,none⟩),.int .u64 150] 224)).alloc (.cells #[c,x] 157)).heap[(⟨t,0+j,none⟩:Addr).block]? = w.heap[(⟨t,0+j,none⟩:Addr).block]? from hb];exact h1
 have st:=amF t (w.heap.size+1+1+1) c x ((((w.alloc (.cells #[.pointer (some ⟨t,0,none⟩)] 159)).alloc (.cells #[.pointer (some ⟨10,159,none⟩),.pointer (some ⟨w.heap.size,0,none⟩),.int .u64 150] 224)).alloc (.cells #[.pointer (some ⟨10,159,none⟩),.pointer (some ⟨w.heap.size,0,none⟩),.int .u64 150] 224)).alloc (.cells #[c,x] 157)) hc hx x4 ht4;have B4:=ah b4;clear b1 b2 b3 b4 x1 x2 x3 x4 ht4
 go_enter Tryz.func97,Tryz.ntmps97
 go_wp2;refine wp_loop_rounds 1 ?_;rw [rounds_succ];go_wp2;go_ret;exact ⟨rfl,_,uh B4,rfl⟩
end
section
open Go.RowKit Go.Shelf
attribute [local go_sem] Oper.semAt_some
theorem aov (n:Nat) (x:Value) (hx:isIface x) (w:World) (hG:oQ w):
  Calls Tryz.prog 49 #[kD n x] w fun e w'=>e= .returned (.int .i64 (n:Nat))∧aC w w':=by
 obtain ⟨tx,vx,rfl⟩:=hx;have b1:aC w (w.alloc (.cells #[.int .i64 0,.nilIface] 157)):=fC;have x1:(w.alloc (.cells #[.int .i64 0,.nilIface] 157)).heap[w.heap.size]? = some (.cells [Value.int .i64 0,.nilIface].toArray 157 (0,0)):=aW _ _;have Ha:=ah (amr w.heap.size (.int .i64 (n:Nat)) (.iface tx vx) rfl rfl _ (hG.below b1) (iI x1 0 2 sm));have B1:=ah b1;have X1:=ah x1;clear b1 x1 hG;unfold kD
 go_enter Tryz.func49,Tryz.ntmps49
 go_wp2_with fail
 refine Ha.mono ?_;rintro e w2 ⟨rfl,W,hW,rfl⟩;have qp:=(hW.block _ (aO X1)).trans X1;have hset:=Si (vs:=[Value.int .i64 (n:Nat),.iface tx vx]) qp rfl;have c0:(W.setCells w.heap.size 0 [.int .i64 (n:Nat),.iface tx vx]).cell? ⟨w.heap.size,0,none⟩=some (.int .i64 (n:Nat)):=(aG hset 0).trans rfl;have hB:aC w (W.setCells w.heap.size 0 [.int .i64 (n:Nat),.iface tx vx]):=by
  have hk:=Kept.AP W w.heap.size 0 [.int .i64 (n:Nat),.iface tx vx];have hw:=B1.trans (hW.mono B1.size);exact ⟨hk.os.trans hw.os,hk.tape.trans hw.tape,hk.output.trans hw.output,jZ hw.size hk.size,fun j hj=>by
   rw [hk.block j (iZ hj hw.size) om];exact hw.block j hj⟩
 have HB:=ah hB;clear hB hset qp hW Ha;generalize W.setCells w.heap.size 0 [.int .i64 (n:Nat),.iface tx vx]=W2 at*;go_wp2;go_ret;exact ⟨rfl,uh HB⟩
def alz (file:List aj) (e:Ending):Prop:= ∃ n:Nat,rO file=(n:Int)∧e= .returned (.tuple #[.pointer none,.int .i64 (n:Nat),.int .i64 6])
def aed (w w':World) (file:List aj) (e:Ending):Prop:=rO file= -1∧ ∃ d v Cv Lv,e= .returned (.tuple #[.pointer (some ⟨d,0,none⟩),.int .i64 0,.int .i64 0])∧pq w' d v Cv Lv (dJ file)∧ ∀ k,Lu d v Cv Lv k→w.heap.size≤k
theorem auU (w:World) (fv:Value) (file:List aj) (hf:lK w fv file) (hG:oQ w) (hm:file.length≤1000000):
  Calls Tryz.prog 48 #[fv] w fun e w'=>(Po file e∨ZW w w' file e)∧aC w w':=by
 by_cases hH:Ph file
 ·exact auW w fv file hf hG hH
 ·refine (auV w fv file hf hG hm hH).mono ?_;rintro e w' ⟨⟨x,hx,rfl⟩,hb⟩;refine ⟨aA ⟨0,x,?_,hx,rfl⟩,hb⟩;unfold rO;rw [au (by
   cases h:lQ file with
   | true=>exact absurd ((ahl hf.lens).1 h) hH
   | false=>rfl)]
  rfl
theorem agf (w:World) (fv:Value) (file:List aj) (hf:lK w fv file) (hG:oQ w) (hm:file.length≤1000000):
  Calls Tryz.prog 18 #[fv] w fun e w'=>(alz file e∨aed w w' file e)∧aC w w':=by
 have Ho:=ah (auU w fv file hf hG hm);have HG:=ah hG;clear hf hG
 go_enter Tryz.func18,Tryz.ntmps18
 go_wp2_with fail
 refine Ho.mono ?_;rintro e w1 ⟨(⟨n,x,hn,hx,rfl⟩ | ⟨hn,v,Cv,Lv,rfl,hV,hfo⟩),hb1⟩
 ·have Hf:=ah (aov n x hx w1 (HG.below hb1));have HB:=ah hb1;have Hn:=ah hn;clear hb1 hn Ho;unfold kD at Hf ⊢
  go_wp2_with fail
  refine Hf.mono ?_;rintro e w2 ⟨rfl,hb2⟩;have HB2:=ah (HB.trans (hb2.mono HB.size));clear hb2 HB Hf;go_wp2;refine gV (Ze rfl _ _ _) rfl ?_;exact ⟨aA ⟨n,uh Hn,rfl⟩,uh HB2⟩
 ·have hb2:aC w1 (w1.alloc (.cells #[.pointer (some ⟨v,0,none⟩)] 85)):=fC;have hD:pq (w1.alloc (.cells #[.pointer (some ⟨v,0,none⟩)] 85)) w1.heap.size v Cv Lv (dJ file):=⟨aW _ _,hV.below hb2⟩;have HB2:=ah (hb1.trans (hb2.mono hb1.size));have hsz:=hb1.size;have hgood:aed w (w1.alloc (.cells #[.pointer (some ⟨v,0,none⟩)] 85)) file (.returned (.tuple #[.pointer (some ⟨w1.heap.size,0,none⟩),.int .i64 0,.int .i64 0])):=by
   refine ⟨hn,_,_,_,_,rfl,hD,?_⟩;rintro k (rfl | hk)
   ·exact hsz
   ·exact hfo k hk
  have HX:=ah hgood;clear hb1 hb2 hD hV hfo hgood hn Ho;go_wp2;refine gV (Ze rfl _ _ _) rfl ?_;exact ⟨ay HX,uh HB2⟩
end
section
attribute [local go_sem ↓] dw fP fZ ku afp
attribute [local go_sem] dK fO fV aV kG aj6
structure CX (w:World) (g cap:Nat) (L:List aj):Prop where
 row:w.ownsRow 0 38 64 (.slice (some ⟨g,0,none⟩) (L.length+2) cap) (L.length+2) (aQ (L++[dR 1,dR 2]))
 lens: ∀ c ∈ L,c.length=64
theorem CX.kept {w w':World} {S:Nat→Prop} {g cap:Nat} {L:List aj} (h:CX w g cap L) (hk:Kept S w w') (hs: ¬ S g):CX w' g cap L:=⟨bQ hk h.row (fun k hk'=>by injection hk' with hk';rw [← hk'];exact hs),h.lens⟩
theorem CX.below {w w':World} {g cap:Nat} {L:List aj} (h:CX w g cap L) (hb:aC w w'):CX w' g cap L:=h.kept (S:=fun _=>False) (Kept.dS hb) id
theorem agJ (a b:aj):aQ [a,b]=cv a++cv b:=by simp [aQ]
theorem CX.file {w:World} {g cap:Nat} {L:List aj} (h:CX w g cap L):lK w (.slice (some ⟨g,0,none⟩) L.length cap) L:=
 ⟨Uu (m:=2) (news:=aQ [dR 1,dR 2]) (by rw [← Wx];exact h.row) (yC L h.lens),h.lens⟩
theorem acQ {w:World} {base g cap n:Nat} {e:TypeId} {size:Nat} {xs:List Value} (h:w.ownsRow base e size (.slice (some ⟨g,0,none⟩) n cap) n xs):n≤cap:=by
 rcases h.2 with ⟨hx,_⟩ | ⟨_,_,_,hx,_,_,hn,_⟩
 ·cases hx
 ·injection hx with _ _ hx;rw [hx];exact hn
theorem apS (w:World) (fv:Value) (file:List aj) (hf:lK w fv file) (h0:0<file.length) (hl:file.length≤1000):
  Calls Tryz.prog 39 #[fv] w fun e w'=> ∃ g cap,e= .returned (.slice (some ⟨g,0,none⟩) file.length cap)∧w.heap.size≤g∧CX w' g cap file∧aC w w':=by
 obtain ⟨i0,hi0,hz0,hz1,hz2⟩:=qy Tryz.J4;obtain ⟨ga,aas,rfl,hcap⟩:=gB hf.row h0;have Hm1:Hid (∀ W,Calls Tryz.prog 68 #[.int .u8 1] W fun e w'=>e= .returned (.agg (cv (dR 1)).toArray)∧aC W w'):=fun W=>J5 1 W;have Hm2:Hid (∀ W,Calls Tryz.prog 68 #[.int .u8 2] W fun e w'=>e= .returned (.agg (cv (dR 2)).toArray)∧aC W w'):=fun W=>J5 2 W;have hm1:=BX 1;have hm2:=BX 2;have Hr:=ah hf.row;have RP:=ah hf.lens;have hfl:=yC file hf.lens;clear hf
 go_enter Tryz.func39,Tryz.ntmps39
 go_wp2_with (at_builtin;refine xZ _ rfl _ _ _ rfl 0 38 i0 _ 64 64 Tryz.underlying28 hi0 hz0 hz1 hz2 (by simp [Value.cells,bg,aV]) om (.slice none 0 0) 0 [] rfl (wF _ _ _ _) ⟨ga,0,none⟩ file.length aas (aQ file) rfl hfl (Hr.cells (g:=ga) rfl) (Wy file) om (by unfold maxLen;omega) om om w.heap.size rfl ?_;intro g5 cap5 w5 hown5 hgrow hat uP)
 have hg5:w.heap.size≤g5:=by
  rcases hat with x | x
  ·cases x
  ·omega
 have hB5:aC w w5:=(bG _ w).grown hgrow (aP _) (fun k hk=>by cases hk);rw [qR,ql] at hown5;have HB5:=ah hB5;have HR5:=ah hown5;clear hgrow hat hown5 hB5;refine (uh Hm1 _).mono ?_;rintro e w6 ⟨rfl,hb6⟩
 go_wp2_with fail
 refine (uh Hm2 _).mono ?_;rintro e w7 ⟨rfl,hb7⟩;have hb67:=hb6.trans (hb7.mono hb6.size);have HB7:=ah (HB5.trans (hb67.mono HB5.size));have HR7:=ah (bQ (Kept.dS (S:=fun _=>False) hb67) HR5 (fun _ _=>id));clear hb6 hb7 hb67 HB5 HR5
 go_wp2_with (at_builtin;refine xZ _ rfl _ _ _ rfl 0 38 i0 _ 64 64 Tryz.underlying28 hi0 hz0 hz1 hz2 (by simp [Value.cells,bg,aV]) om (.slice (some ⟨g5,0,none⟩) file.length cap5) file.length (aQ file) rfl (HR7.alloc _) ⟨w7.heap.size,0,none⟩ 2 2 (cv (dR 1)++cv (dR 2)) rfl (by rw [oO,bg,bg,hm1,hm2]) (pU (cs:=(cv (dR 1)++cv (dR 2)).toArray) (t:=38) (fr:=(0,0)) (aW w7 _)) (by intro u hu;rcases gq.1 hu with x | x <;> exact zJ _ u x) om (by unfold maxLen;omega) om om (w7.heap.size+1) sm ?_;intro g8 kR w8 Ej Dk GR WS;have hc8:=acQ Ej;have hci:((file.length:Nat):Int)≤((kR:Nat):Int):=om;have hc0: ¬ kR=0:=om)
 have hB8:aC w w8:=(HB7.alloc HB7.size (.cells (cv (dR 1)++cv (dR 2)).toArray 38)).grown Dk (by have:=HB7.size;simp;omega) (fun k hk=>by
  simp only [Value.ownBlock,jv] at hk
  omega)
 have hg8:w.heap.size≤g8:=by
  rcases GR with x | x
  ·simp only [Value.ownBlock,jv] at x;omega
  ·have:=HB7.size;omega
 have HL:CX w8 g8 kR file:=⟨by rw [Wx,agJ];exact Ej,uh RP⟩;have HB8:=ah hB8;have HL:=ah HL;clear Dk GR Ej hB8;go_ret;exact ⟨g8,kR,rfl,hg8,uh HL,uh HB8⟩
theorem apR (w:World) (a:Option Addr) (aas:Nat):
  Calls Tryz.prog 39 #[.slice a 0 aas] w fun e w'=> ∃ g cap,e= .returned (.slice (some ⟨g,0,none⟩) 0 cap)∧w.heap.size≤g∧CX w' g cap []∧aC w w':=by
 obtain ⟨i0,hi0,hz0,hz1,hz2⟩:=qy Tryz.J4;have Hm1:Hid (∀ W,Calls Tryz.prog 68 #[.int .u8 1] W fun e w'=>e= .returned (.agg (cv (dR 1)).toArray)∧aC W w'):=fun W=>J5 1 W;have Hm2:Hid (∀ W,Calls Tryz.prog 68 #[.int .u8 2] W fun e w'=>e= .returned (.agg (cv (dR 2)).toArray)∧aC W w'):=fun W=>J5 2 W;have hm1:=BX 1;have hm2:=BX 2;rcases a with _ | a
 all_goals
  go_enter Tryz.func39,Tryz.ntmps39
  go_wp2_with fail
  try (simp only [yX,rQ];go_wp2_with fail)
  refine (uh Hm1 _).mono ?_;rintro e w6 ⟨rfl,hb6⟩
  go_wp2_with fail
  refine (uh Hm2 _).mono ?_;rintro e w7 ⟨rfl,hb7⟩;have HB7:=ah (hb6.trans (hb7.mono hb6.size));clear hb6 hb7
  go_wp2_with (at_builtin;refine xZ _ rfl _ _ _ rfl 0 38 i0 _ 64 64 Tryz.underlying28 hi0 hz0 hz1 hz2 (by simp [Value.cells,bg,aV]) om (.slice none 0 0) 0 [] rfl (wF _ _ _ _) ⟨w7.heap.size,0,none⟩ 2 2 (cv (dR 1)++cv (dR 2)) rfl (by rw [oO,bg,bg,hm1,hm2]) (pU (cs:=(cv (dR 1)++cv (dR 2)).toArray) (t:=38) (fr:=(0,0)) (aW w7 _)) (by intro u hu;rcases gq.1 hu with x | x <;> exact zJ _ u x) om (by unfold maxLen;omega) om om (w7.heap.size+1) sm ?_;intro g8 kR w8 Ej Dk GR WS;have hc8:=acQ Ej;have hci:(0:Int)≤((kR:Nat):Int):=om;have hc0: ¬ kR=0:=om)
  have hB8:aC w w8:=(HB7.alloc HB7.size (.cells (cv (dR 1)++cv (dR 2)).toArray 38)).grown Dk (by have:=HB7.size;simp;omega) (fun k hk=>by cases hk);have hg8:w.heap.size≤g8:=by
   rcases GR with x | x
   ·cases x
   ·have:=HB7.size;omega
  have HL:CX w8 g8 kR []:=⟨by rw [ql,agJ];exact Ej,fun c hc=>(by cases hc)⟩;have HB8:=ah hB8;have HL:=ah HL;clear Dk GR Ej hB8;go_ret;exact ⟨g8,kR,rfl,hg8,uh HL,uh HB8⟩
theorem ah3 (w:World) (fv:Value) (file:List aj) (hf:lK w fv file) (hl:file.length≤1000):
  Calls Tryz.prog 39 #[fv] w fun e w'=> ∃ g cap,e= .returned (.slice (some ⟨g,0,none⟩) file.length cap)∧w.heap.size≤g∧CX w' g cap file∧aC w w':=by
 by_cases h0:0<file.length
 ·exact apS w fv file hf h0 hl
 ·have hn:file=[]:=Y8 om;subst hn;obtain ⟨a,cap,rfl⟩:=iq hf.row;exact apR w a cap
end
end Go.Proofs.YtknjjjenklfeoaaGreatDoor
