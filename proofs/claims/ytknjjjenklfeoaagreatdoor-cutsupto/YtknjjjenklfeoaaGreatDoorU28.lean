import Derived.Test.YtknjjjenklfeoaaGreatDoorU27
import Derived.Deep.Cut
set_option maxHeartbeats 8000000
set_option maxRecDepth 100000
set_option linter.all false
namespace Go.Proofs.YtknjjjenklfeoaaGreatDoor
open Go.RowKit
section
open Go.RowKit Go.Shelf
attribute [local go_sem ↓] dw fP fV jR kP kJ kF lG lI kR
attribute [local go_sem] dM fO fU gW gB aV jT kN kH lq kX iM kG lu lD lC kM jc jd
attribute [local go_sem ↓] Vj ZV aat
attribute [local go_sem] VP Zx Zy Zz P8
attribute [local go_sem] pU pR Oper.semAt_some
def JV (s:Kv):(jG s).length=5:=rfl
def amq (s:Kv): ∀ v ∈ jG s,v.oneCell'=true:=by
 intro v hv;simp only [jG,cO,jM,jO] at hv;rcases hv with rfl | rfl | rfl | rfl | rfl <;> rfl
def aj8 (a:Addr):Sem Value:=loadVar 51 a
def O8 (a:Addr):loadVar 51 a=aj8 a:=rfl
def Sl {w:World} {b o:Nat} (h:dU w b o 5):(aj8 ⟨b,o,none⟩).run Tryz.prog w= .ok (.agg (dO w b o 5).toArray) w:=
 BQ h 51 _ Tryz.underlying51 rfl kr
def LJ (a:Addr) (v:Value):Sem Unit:=storeVar 51 a v
def VX (a:Addr) (v:Value):storeVar 51 a v=LJ a v:=rfl
def aex {w:World} {b o:Nat} (s:Kv) (a:w.there b o 5):(LJ ⟨b,o,none⟩ (.agg #[.int .i64 s.Gt,.int .i64 s.used,.int .i64 s.lost,.int .i64 s.over,.int .i64 s.SC])).run Tryz.prog w= .ok () (w.setCells b o (jG s)):=by
 have:=Ib (P:=Tryz.prog) w b o 51 (jG s).toArray (by simpa [JV] using a) (by simp only [jm,JV];kernel_rfl) (vU (amq s))
 exact this
def aey {w:World} {z:List Value} (s:Kv) (a:z.length=5):
  (LJ ⟨w.heap.size,0,none⟩ (.agg #[.int .i64 s.Gt,.int .i64 s.used,.int .i64 s.lost,.int .i64 s.over,.int .i64 s.SC])).run Tryz.prog (w.alloc (.cells z.toArray 51))= .ok () (w.alloc (.cells (jG s).toArray 51)):=
 Ic w 51 z.toArray (jG s).toArray (by simp only [jm,JV];kernel_rfl) (by simp [JV,a]) (vU (amq s))
def xY (M:List Nat) (n:Nat):Bool:=decide (0<M.getD n 0)
def uQ (M:List Nat) (k:List UInt8) (n:Nat):Bool:=M.getD n 0 == 0 && decide (0<aI k n)
def uT (M:List Nat) (k:List UInt8) (n:Nat):Bool:=decide (0<M.getD n 0) && decide (M.getD n 0<aI k n)
def yx (V:aB):Kv:=
 ⟨num (cl V.C 0) 4,bF (xY (iw V)) 256,bF (uQ (iw V) (aJ V.C)) 256,bF (uT (iw V) (aJ V.C)) 256,xJ V (iw V) (bP V)⟩
def agE (bu:Nat) (M:List Nat) (a:World):Prop:=dU a bu 0 256∧dO a bu 0 256=nv M
structure Bl (w W:World) (bu bs:Nat) (M:List Nat) (s:List Value):Prop where
 below:aC w W
 bz:W.heap[w.heap.size]? = some (.cells zs5.toArray 51 (0,0))
 QF:W.heap[bu]? = some (.cells (nv M).toArray 161 (0,0))
 Iu:W.heap[bs]? = some (.cells s.toArray 51 (0,0))
 lo:w.heap.size<bs
def Bl.ne {w W:World} {bu b:Nat} {M:List Nat} {s:List Value} (h:Bl w W bu b M s):bu≠b:=fun e=>by
 have a:=h.QF;rw [e] at a;rw [h.Iu] at a;injection a with a;injection a with _ c;exact absurd c dc
def Bl.later {w W b:World} {bu c:Nat} {M:List Nat} {s:List Value} (h:Bl w W bu c M s) (a:aC W b):Bl w b bu c M s:=
 ⟨h.below.trans (a.mono h.below.size),(a.block _ (aK h.bz)).trans h.bz,(a.block _ (aK h.QF)).trans h.QF,(a.block _ (aK h.Iu)).trans h.Iu,h.lo⟩
def Bl.set {w W:World} {bu a:Nat} {M:List Nat} {s:List Value} (h:Bl w W bu a M s) (i:Nat) (v:Value):Bl w (W.setCell ⟨a,i,none⟩ v) bu a M (s.set i v):=by
 have hk:=Kept.only W a i v
 have:=h.lo
 have:=h.ne
 refine ⟨?_,hk.aG om h.bz,hk.aG om h.QF,?_,h.lo⟩
 ·exact ⟨hk.os.trans h.below.os,hk.tape.trans h.below.tape,hk.output.trans h.below.output,jL h.below.size hk.size,fun i hi=>by
   rw [hk.block i (iL hi h.below.size) om];exact h.below.block i hi⟩
 ·rw [heap_setCell_same _ _ _ _ _ _ _ h.Iu,Bh]
def Bl.all {w W:World} {bu a:Nat} {M:List Nat} {s t:List Value} (h:Bl w W bu a M s) (b:s.length=t.length):Bl w (W.setCells a 0 t) bu a M t:=by
 have hk:=Kept.BL W a 0 t
 have:=h.lo
 have:=h.ne
 refine ⟨?_,hk.aG om h.bz,hk.aG om h.QF,TU h.Iu b,h.lo⟩;exact ⟨hk.os.trans h.below.os,hk.tape.trans h.below.tape,hk.output.trans h.below.output,jL h.below.size hk.size,fun i hi=>by
   rw [hk.block i (iL hi h.below.size) om];exact h.below.block i hi⟩
attribute [local go_sem ↓] O8 VX
attribute [local go_sem] Sl
def aw9 (w:World) (v:Nat) (Cv Lv:Value) (V:aB) (h:aP w v Cv Lv V) (h5:5<V.C.length) (hC:V.C.length≤256) (N: ∀ f ∈ bP V,gU V f):
  Calls Tryz.prog 52 #[.pointer (some ⟨v,0,none⟩)] w fun e w'=>e= .returned (.agg (jG (yx V)).toArray)∧aC w w':=by
 have Hu:=ah (fun (W:World) (hB:aC w W)=>fE.1 (afi W v Cv Lv V (h.below hB) h5 hC N));have aa:(iw V).length=256:=PX V _;have af:=aaj (V:=V) (bP V) N;have a6:(bP V).length≤5:=by
  unfold bP AZ
  have:=AQ (aZ (cl V.C 5))
  simp only [iO,tY,yg];omega
 have a7:=ajG (V:=V) (iw V) (bP V) N;have X:=ah (fun (W:World) (hB:aC w W)=>fE.1 (aw0 W v Cv Lv V (h.below hB) h5 hC N (iw V) aa));have Hh:=ah (fun (W:World) (hB:aC w W)=>JD W v Cv Lv V (h.below hB) om);have Hc:=ah (fun (W:World) (hB:aC w W)=>MS W v Cv Lv V (h.below hB) om);have ar:=CY V.C h.kT om;have HR:Hid (yx V=⟨num (cl V.C 0) 4,bF (xY (iw V)) 256,bF (uQ (iw V) (aJ V.C)) 256,bF (uT (iw V) (aJ V.C)) 256,xJ V (iw V) (bP V)⟩):=rfl;have UF: ∀ n,(iw V).getD n 0≤10000:=fun n=>by have:=af n;unfold iw;omega
 have n4:=iK (cl V.C 0) 4;have n6:=iK (cl V.C 0) 6;generalize xJ V (iw V) (bP V)=q at*;generalize iw V=M at*;generalize aJ V.C=k at*;generalize num (cl V.C 0) 4=cls at*;generalize num (cl V.C 0) 6=fst at*;clear h N af
 go_enter Tryz.func52,Tryz.ntmps52
 go_wp2_with fail
 have Y:=ah ((bG w.heap.size w).alloc (aO _) (.cells #[.int .i64 0,.int .i64 0,.int .i64 0,.int .i64 0,.int .i64 0] 51));have Z:=ah (aX w (.cells #[.int .i64 0,.int .i64 0,.int .i64 0,.int .i64 0,.int .i64 0] 51));generalize w.alloc (.cells #[.int .i64 0,.int .i64 0,.int .i64 0,.int .i64 0,.int .i64 0] 51)=w0 at*;refine (uh Hu w0 Y).mono ?_;rintro e F ⟨rfl,b1⟩;have ag:w.heap.size<F.heap.size:=iL (aK Z) b1.size;have y:=ah ((Y.trans (b1.mono Y.size)).alloc (SN ag) (.cells (nv M).toArray 161));have O:=ah ((jX F (.cells (nv M).toArray 161) w.heap.size ag).trans ((b1.block _ (aK Z)).trans Z));have d:=ah (aX F (.cells (nv M).toArray 161));clear Hu Y Z b1
 have ai: ∀ {w:World} {b:Nat},w.there b 0 5→(LJ ⟨b,0,none⟩ (.agg #[.int .i64 (cls:Nat),.int .i64 0,.int .i64 0,.int .i64 0,.int .i64 (q:Nat)])).run Tryz.prog w= .ok () (w.setCells b 0 (jG ⟨cls,0,0,0,q⟩)):=fun ht=>aex ⟨cls,0,0,0,q⟩ ht;have av: ∀ {w:World},(LJ ⟨w.heap.size,0,none⟩ (.agg #[.int .i64 (cls:Nat),.int .i64 0,.int .i64 0,.int .i64 0,.int .i64 (q:Nat)])).run Tryz.prog (w.alloc (.cells #[.int .i64 0,.int .i64 0,.int .i64 0,.int .i64 0,.int .i64 0] 51))= .ok () (w.alloc (.cells (jG ⟨cls,0,0,0,q⟩).toArray 51)):=fun {w}=>aey (w:=w) (z:=zs5) ⟨cls,0,0,0,q⟩ rfl;have al:Hid ((F.alloc (.cells (nv M).toArray 161)).heap.size=F.heap.size+1):=jV _ _
 go_wp2_with fail
 generalize F.alloc (.cells (nv M).toArray 161)=m at*;generalize F.heap.size=bu at*;have g:=ah (fun (W:World) (hB:aC m W)=>(show agE bu M W from ⟨fH ((hB.block _ (aK d)).trans d) (by rw [FH,aa]),fM ((hB.block _ (aK d)).trans d) (by rw [FH,aa])⟩));have U:=uh g _ (bG _ m).drew;have K:w.heap.size<m.heap.size:=aK O
 go_cut [4] from 9 (fun s4 wc=> ∃ A,s4= .pointer (some ⟨A,0,none⟩)∧Bl w wc bu A M (jG ⟨cls,0,0,0,q⟩))
 case first=>
  refine xZ (agE bu M) 8 kr ?_;refine tk 0 U ?_;refine tk 3 U ?_;refine tk 4 U ?_;have BB:=ah (bG m.heap.size m).drew;have y:=ah y.drew;refine NT (i:=1) (j:=7) kr rfl rfl (fun KA aw=> ?_) (fun KB ax=> ?_)
  ·go_simp;go_at_call 87;refine (uh Hh _ y).mono ?_;rintro e w2 ⟨rfl,b2⟩;have p:=ah (y.trans (b2.mono y.size));have l:=ah (BB.trans (b2.mono BB.size));have ab:=uh g _ l;clear b2;refine aw _ _ (ay ab) ?_;refine tk 2 ab ?_;refine NT (i:=5) (j:=7) kr rfl rfl (fun KC az=> ?_) (fun KD aD=> ?_)
   ·go_simp;go_at_call 100;refine (uh X _ p).mono ?_;rintro e w3 ⟨rfl,B⟩;have o:=ah (p.trans (B.mono p.size));have c:=ah (l.trans (B.mono l.size));have D:=uh g _ c;have E:=fun x=>uh g _ (c.alloc c.size x);clear B;refine az _ _ (ay D) ?_;refine tk 6 D ?_;refine wo 7 fun K7 aE=> ?_;go_simp;refine aE _ _ (ay (E _)) ?_;refine wo 8 fun K8 L=> ?_;go_simp;refine L _ _ (aA rfl) ?_;refine sH kr ?_ _;have an:w.heap.size<w3.heap.size:=iL K c.size;have P:Bl w (w3.alloc (.cells (jG ⟨cls,0,0,0,q⟩).toArray 51)) bu w3.heap.size M (jG ⟨cls,0,0,0,q⟩):=
     ⟨o.alloc o.size _,(jX _ _ _ an).trans ((c.block _ K).trans O),(jX _ _ _ (iL (aK d) c.size)).trans ((c.block _ (aK d)).trans d),aX _ _,an⟩
    go_wp2;go_meet;exact ⟨_,rfl,P⟩
   ·go_simp;have o:=ah (p.alloc p.size (.cells #[.int .i64 0,.int .i64 0,.int .i64 0,.int .i64 0,.int .i64 0] 51));have c:=ah (l.alloc l.size (.cells #[.int .i64 0,.int .i64 0,.int .i64 0,.int .i64 0,.int .i64 0] 51));have Q:=ah (aX w2 (.cells #[.int .i64 0,.int .i64 0,.int .i64 0,.int .i64 0,.int .i64 0] 51));have D:=uh g _ c;have aL:w.heap.size<w2.heap.size:=iL K l.size;refine aD _ _ (ay D) ?_;refine wo 5 fun K5 ad=> ?_;go_simp;go_at_call 100;refine (uh X _ o).mono ?_;rintro e w4 ⟨rfl,r⟩;have B4:=ah (o.trans (r.mono o.size));have G:=ah (c.trans (r.mono c.size));have R:=ah ((r.block _ (aK Q)).trans Q);have E:=uh g _ G;have S:Bl w w4 bu w2.heap.size M zs5:=⟨uh B4,(G.block _ K).trans O,(G.block _ (aK d)).trans d,uh R,aL⟩;have P:=ah (S.all (t:=jG ⟨cls,0,0,0,q⟩) rfl);have th:=iW R 0 5 sm;clear r S;refine ad _ _ (ay E) ?_
    refine tk 6 E ?_;refine wo 8 fun K8 L=> ?_;go_simp;refine L _ _ (aA rfl) ?_;refine sH kr ?_ _;go_wp2;go_meet;exact ⟨_,rfl,uh P⟩
  ·go_simp;have p:=ah (y.alloc y.size (.cells #[.int .i64 0,.int .i64 0,.int .i64 0,.int .i64 0,.int .i64 0] 51));have l:=ah (BB.alloc BB.size (.cells #[.int .i64 0,.int .i64 0,.int .i64 0,.int .i64 0,.int .i64 0] 51));have Z2:=ah (aX m.drew (.cells #[.int .i64 0,.int .i64 0,.int .i64 0,.int .i64 0,.int .i64 0] 51));have ab:=uh g _ l;have a5:=uh g _ ((bG m.heap.size m).alloc (aO _) (.cells #[.int .i64 0,.int .i64 0,.int .i64 0,.int .i64 0,.int .i64 0] 51)).drew;refine ax _ _ (ay (uh g _ l)) ?_;refine wo 1 fun K1 aM=> ?_;go_simp;go_at_call 87;refine (uh Hh _ p).mono ?_;rintro e w3 ⟨rfl,B⟩;have o:=ah (p.trans (B.mono p.size));have c:=ah (l.trans (B.mono l.size));have Q:=ah ((B.block _ (aK Z2)).trans Z2);have D:=uh g _ c;clear B;refine aM _ _ (ay D) ?_;refine tk 2 D ?_;refine wo 5 fun K5 ad=> ?_;go_simp;go_at_call 100;refine (uh X _ o).mono ?_
   rintro e w4 ⟨rfl,r⟩;have B4:=ah (o.trans (r.mono o.size));have G:=ah (c.trans (r.mono c.size));have R:=ah ((r.block _ (aK Q)).trans Q);have E:=uh g _ G;have S:Bl w w4 bu m.heap.size M zs5:=⟨uh B4,(G.block _ K).trans O,(G.block _ (aK d)).trans d,uh R,K⟩;have P:=ah (S.all (t:=jG ⟨cls,0,0,0,q⟩) rfl);have th:w4.there m.heap.size 0 5:=iW R 0 5 sm;clear r S;refine ad _ _ (ay E) ?_;refine tk 6 E ?_;refine wo 8 fun K8 L=> ?_;go_simp;refine L _ _ (aA rfl) ?_;refine sH kr ?_ _;go_wp2;go_meet;exact ⟨_,rfl,uh P⟩
 case rest=>
  obtain ⟨A,rfl,ae⟩:=hcut;have C1:=ah ae;have ao:=ah (uh Hc _ ae.below);clear ae X Hh g U ai av y O d al
  go_wp2_with fail
  refine ao.mono ?_;rintro e wd ⟨rfl,b5⟩;have C5:=ah (C1.later b5);clear b5 C1 ao Hc;go_wp2
  go_loopw [18] (fun i w'=> ∃ j:Nat,j≤256∧i= .int .i64 j∧Bl w w' bu A M (jG ⟨cls,bF (xY M) j,bF (uQ M k) j,bF (uT M k) j,q⟩)) (fun i _=>256 - (intOf i).toNat)
  case atStart=>exact ⟨0,om,rfl,uh C5⟩
  case round=>
   obtain ⟨j,hj,rfl,a⟩:=hrel;clear C5
   by_cases aR:j<256
   ·have a0:(j:Int)<256:=om;have a8:=aev wr k ar j aR;have a9:=uy k j;have hU:bF (xY M) (j+1)=bF (xY M) j+if 0<M.getD j 0 then 1 else 0:=by simp [bF,xY]
    have aq:bF (uQ M k) (j+1)=bF (uQ M k) j+if M.getD j 0=0∧0<aI k j then 1 else 0:=by simp [bF,uQ]
    have hO:bF (uT M k) (j+1)=bF (uT M k) j+if 0<M.getD j 0∧M.getD j 0<aI k j then 1 else 0:=by simp [bF,uT]
    have l1:=QI (xY M) j;have l2:=QI (uQ M k) j;have l3:=QI (uT M k) j;have hm:=UF j;have cu:wr.cell? ⟨bu,j,none⟩=some (.int .i64 ((M.getD j 0:Nat):Int)):=by rw [aF a.QF,bZ,Lm _ _ om]
    have s1:wr.cell? ⟨A,1,none⟩=some (.int .i64 (bF (xY M) j:Nat)):=by rw [aF a.Iu];rfl
    have s2:wr.cell? ⟨A,2,none⟩=some (.int .i64 (bF (uQ M k) j:Nat)):=by rw [aF a.Iu];rfl
    have s3:wr.cell? ⟨A,3,none⟩=some (.int .i64 (bF (uT M k) j:Nat)):=by rw [aF a.Iu];rfl
    have ba: ∀ i,wr.frozen? ⟨A,i,none⟩=false:=fun i=>eY a.Iu i;have bb:=a.ne;generalize aI k j=b at*;generalize M.getD j 0=u at*;generalize bF (xY M) j=u0 at*;generalize bF (uQ M k) j=T at*;generalize bF (uT M k) j=o0 at*;have HU:=ah hU;have HL:=ah aq;have HO:=ah hO;have HC:=ah a;clear hU aq hO a
    by_cases a1:u=0
    ·subst a1
     by_cases bd:0<b
     ·have dq:decide ((0:Int)<(b:Int))=true:=by simp;omega
      have dz:(((0:Nat):Int) == 0)=true:=rfl;have du:decide ((0:Int)<((0:Nat):Int))=false:=rfl;go_wp2;go_roundw
      case rel=>
       refine ⟨j+1,om,gn,?_⟩;have H:bF (xY M) (j+1)=u0:=by have e:=uh HU;split at e <;> omega
       have I:bF (uQ M k) (j+1)=T+1:=by have e:=uh HL;split at e <;> omega
       have J:bF (uT M k) (j+1)=o0:=by have e:=uh HO;split at e <;> omega
       rw [H,I,J];exact HC.set 2 (.int .i64 ((T:Int)+1))
      case measure=>exact bW
     ·have a2:b=0:=om;subst a2;have dq:decide ((0:Int)<((0:Nat):Int))=false:=rfl;have dz:(((0:Nat):Int) == 0)=true:=rfl;go_wp2;go_roundw
      case rel=>
       refine ⟨j+1,om,gn,?_⟩;have H:bF (xY M) (j+1)=u0:=by have e:=uh HU;split at e <;> omega
       have I:bF (uQ M k) (j+1)=T:=by have e:=uh HL;split at e <;> omega
       have J:bF (uT M k) (j+1)=o0:=by have e:=uh HO;split at e <;> omega
       rw [H,I,J];exact uh HC
      case measure=>exact bW
    ·have d1:((u:Int) == 0)=false:=by rw [lY];omega
     have d2:decide ((0:Int)<(u:Int))=true:=by simp;omega
     by_cases Yq:u<b
     ·have dq:decide ((u:Int)<(b:Int))=true:=by simp;omega
      go_wp2;go_roundw
      case rel=>
       refine ⟨j+1,om,gn,?_⟩;have H:bF (xY M) (j+1)=u0+1:=by have e:=uh HU;split at e <;> omega
       have I:bF (uQ M k) (j+1)=T:=by have e:=uh HL;split at e <;> omega
       have J:bF (uT M k) (j+1)=o0+1:=by have e:=uh HO;split at e <;> omega
       rw [H,I,J];exact (HC.set 3 (.int .i64 ((o0:Int)+1))).set 1 (.int .i64 ((u0:Int)+1))
      case measure=>exact bW
     ·have dq:decide ((u:Int)<(b:Int))=false:=by simp;omega
      go_wp2;go_roundw
      case rel=>
       refine ⟨j+1,om,gn,?_⟩;have H:bF (xY M) (j+1)=u0+1:=by have e:=uh HU;split at e <;> omega
       have I:bF (uQ M k) (j+1)=T:=by have e:=uh HL;split at e <;> omega
       have J:bF (uT M k) (j+1)=o0:=by have e:=uh HO;split at e <;> omega
       rw [H,I,J];exact HC.set 1 (.int .i64 ((u0:Int)+1))
      case measure=>exact bW
   ·have a3:j=256:=om;rw [a3] at a;have l1:=fH a.Iu (n:=5) (by rw [JV]);have l2:=fM a.Iu (n:=5) (by rw [JV]);have th:wr.there w.heap.size 0 5:=iW a.bz 0 5 (by simp [zs5]);have ai: ∀ {w:World} {b:Nat} (s:Kv),w.there b 0 5→(LJ ⟨b,0,none⟩ (.agg (jG s).toArray)).run Tryz.prog w= .ok () (w.setCells b 0 (jG s)):=fun s ht=>aex s ht;have B9:=ah (below_setCells a.below (aO _) 0 (jG ⟨cls,bF (xY M) 256,bF (uQ M k) 256,bF (uT M k) 256,q⟩));have X9:=TU a.bz (vs:=jG ⟨cls,bF (xY M) 256,bF (uQ M k) 256,bF (uT M k) 256,q⟩) rfl;have n3:=ah (fH X9 (n:=5) (by rw [JV]));have a4:=ah (fM X9 (n:=5) (by rw [JV]));have a0: ¬ (j:Int)<256:=om;clear a X9;generalize (⟨cls,bF (xY M) 256,bF (uQ M k) 256,bF (uT M k) 256,q⟩:Kv)=st at*;go_wp2;refine iy (qZ rfl ⟨w.heap.size,0,none⟩ rfl (v:= .agg (jG st).toArray) (by rw [O8,Sl (uh n3),uh a4])) rfl ?_;refine ⟨?_,uh B9⟩;rw [uh HR]
end
section
open Go.RowKit Go.Shelf
attribute [local go_sem ↓] O8 VX
attribute [local go_sem] Sl
def XL (w:World) (d v:Nat) (Cv Lv:Value) (V:aB) (h:pK w d v Cv Lv V) (r:5<V.C.length) (s:V.C.length≤256) (o: ∀ f ∈ bP V,gU V f):
  Calls Tryz.prog 22 #[.pointer (some ⟨d,0,none⟩)] w fun e t=>e= .returned (.agg (jG (yx V)).toArray)∧aC w t:=by
 have c:aC w (w.alloc (.cells #[.int .i64 0,.int .i64 0,.int .i64 0,.int .i64 0,.int .i64 0] 51)):=fC;have m:(w.alloc (.cells #[.int .i64 0,.int .i64 0,.int .i64 0,.int .i64 0,.int .i64 0] 51)).heap[w.heap.size]? = some (.cells #[.int .i64 0,.int .i64 0,.int .i64 0,.int .i64 0,.int .i64 0] 51 (0,0)):=aX _ _;have a:=h.below c;have p:=ah (I4 _ d v Cv Lv V a);have c0:=a.c0;have q:=ah (aw9 _ v Cv Lv V a.bH r s o);have i:=ah c;have j:=ah m;generalize yx V=st at*;have B: ∀ {w:World} {b:Nat},w.there b 0 5→(LJ ⟨b,0,none⟩ (.agg (jG st).toArray)).run Tryz.prog w= .ok () (w.setCells b 0 (jG st)):=fun u=>aex st u;clear h o a c m
 go_enter Tryz.func22,Tryz.ntmps22
 go_wp2_with fail
 generalize w.alloc (.cells #[.int .i64 0,.int .i64 0,.int .i64 0,.int .i64 0,.int .i64 0] 51)=D at*;refine p.mono ?_;rintro e E ⟨rfl,rfl⟩
 go_wp2_with fail
 refine q.mono ?_;rintro e x ⟨rfl,k⟩;have g:=(k.block _ (aK j)).trans j;have F:x.there w.heap.size 0 5:=iW g 0 5 sm;have y:=ah (below_setCells (i.trans (k.mono i.size)) (aO _) 0 (jG st));have l:=TU (cs:=zs5) g (vs:=jG st) rfl;have z:=ah (fH l (n:=5) (by rw [JV]));have A:=ah (fM l (n:=5) (by rw [JV]));clear k g l q p i j;go_wp2;refine iy (qZ rfl ⟨w.heap.size,0,none⟩ rfl (v:= .agg (jG st).toArray) (by rw [O8,Sl (uh z),uh A])) rfl ?_;exact ⟨rfl,uh y⟩
end
section
open Go.RowKit Go.Shelf
attribute [local go_sem ↓] dw fP fV kU mZ nC jR kP kJ kF lG lI kR kQ kV ng nD l9 nJ jE pW qM qO qA
attribute [local go_sem] dM fO fU gW gB aV kY mP mW mQ mO gX jT kN kH lq kX iM kG lu lD lC kM jc jd nH nK kW kZ mX nT mV mM nN qc qI qK qJ qH
attribute [local go_sem] pU pR
def avS (n:Nat) (hn:n<65536) (w:World):Calls Tryz.prog 147 #[.int .u16 (n:Nat)] w fun e a=>e= .returned (.int .u16 ((uX n:Nat):Int))∧a=w:=by
 go_enter Tryz.func147,Tryz.ntmps147
 go_wp2;go_ret;exact ⟨VJ (agI n hn),rfl⟩
def avR (M:Nat):aaR 147 #[] [] uX M:=fun W n _ hn _ _=>avS n hn W
def ahl (V:aB) (F:List Nat) (t:Nat) (b:t≠0) (h0:0<V.C.length):cl (dS V F).C t=cl V.C t:=by
 unfold dS;split
 ·rw [zX]
  by_cases a:t<V.C.length
  ·exact Ug _ _ _ _ a (fun e=>b e.symm)
  ·rw [D7 (by rw [zL];omega),D7 om]
 ·rfl
def rJ.same {A B:aB} (a:B.C.length=A.C.length) (hc: ∀ t,t≠0→cl B.C t=cl A.C t) {t:Nat} (h:rJ A t):rJ B t:=by
 have e:uq B=uq A:=by funext c;unfold uq;rw [a]
 unfold rJ Bo;rw [e,hc t (by have:=h.1.1;omega)];exact h
def gU.same {A B:aB} (a:B.C.length=A.C.length) (hc: ∀ t,t≠0→cl B.C t=cl A.C t) {t:Nat} (h:gU A t):gU B t:=by
 refine ⟨h.1.same a hc,fun i=> ?_⟩;rw [hc t (by have:=h.1.1.1;omega)];exact ⟨(h.2 i).1,fun h0=>((h.2 i).2 h0).same a hc⟩
def iH (V:aB) (f:Nat):aB × Nat × Nat:=
 if 0<(dD (aJ V.C) 1).length∧oH (aJ V.C) (jA V.C f)=true then (copyV V f ((dD (aJ V.C) 1).getD 0 0),(dD (aJ V.C) 1).getD 0 0,0) else (V,0,5)
def apX (w:World) (v:Nat) (Cv Lv:Value) (V:aB) (h:aP w v Cv Lv V) (s:5<V.C.length) (t:V.C.length≤256) (f:Nat) (u:gU V f)
  (p: ¬ (0<(dD (aJ V.C) 1).length∧oH (aJ V.C) (jA V.C f)=true)):
  Calls Tryz.prog 86 #[.pointer (some ⟨v,0,none⟩),.int .i64 (f:Nat)] w fun e y=>e= .returned (.tuple #[.int .i64 0,.int .i64 5])∧aC w y:=by
 have l:=ah (YG w v Cv Lv V h om 1 om);have c:Hid (∀ W,aP W v Cv Lv V→_):=fun W z=>fE.1 (amg W v Cv Lv V z s t f u);have H:=ah h;have A:=(Pg (aJ V.C) 1 256).1;change (dD (aJ V.C) 1).length≤1 at A;have q:(GZ V.C f).1.length=256:=by
  unfold GZ;split
  ·rw [RN];exact CY V.C h.kT om
  ·exact iM
 have g:(GZ V.C f).2=oH (aJ V.C) (jA V.C f):=by
  unfold GZ;split
  ·rename_i e;rw [e]
  ·rename_i e;simp at e;rw [e]
 clear h;generalize dD (aJ V.C) 1=F at*;generalize oH (aJ V.C) (jA V.C f)=b at*;generalize GZ V.C f=R at*;obtain ⟨k,m⟩:=R;dsimp only at q g c;subst g
 go_enter Tryz.func86,Tryz.ntmps86
 go_wp2_with fail
 refine l.mono ?_;rintro e E ⟨x,rfl,n,i⟩;obtain ⟨G,I,rfl⟩:=gQ n;have a:=ah i;clear n i l
 go_wp2_with fail
 refine (uh c _ (H.below a)).mono ?_;rintro e J ⟨rfl,j⟩;have d:=a.trans (j.mono a.size);have o:=ah (d.alloc d.size (.cells (cv k).toArray 123));clear d j c a
 by_cases B:0<F.length
 ·have D:m=false:=by
   cases m with
   | false=>rfl
   | true=>exact absurd ⟨B,rfl⟩ p
  subst D;have r:((F.length:Nat):Int)=1:=om;go_wp2;go_ret2;exact ⟨rfl,uh o⟩
 ·have r:((F.length:Nat):Int)=0:=om;go_wp2;go_ret2;exact ⟨rfl,uh o⟩
def avd {c:World} {base g cap k:Nat} {xs:List Value} (d:c.ownsRow base 3 1 (.slice (some ⟨g,0,none⟩) k cap) k xs):
  ∃ cur,base≤g∧c.heap[g]? = some (.cells cur 3 (0,0))∧ ∀ W:World,W.heap[g]? = some (.cells cur 3 (0,0))→W.ownsRow 0 3 1 (.slice (some ⟨g,0,none⟩) k cap) k xs:=by
 obtain ⟨f,b⟩:=d;rcases b with ⟨b,_⟩ | ⟨n,m,cur,e,h,i,r⟩
 ·cases b
 ·injection e with a o j;injection a with a;injection a with a;subst a j;exact ⟨cur,h,i,fun W l=>⟨f,ay ⟨_,_,cur,rfl,lX _,l,r⟩⟩⟩
def Env.with {w W:World} {v g:Nat} {o:Obj} {Cv Lv a b:Value} {V:aB} {d:List (Nat × Obj)} (h:Env w W v Cv Lv a b V d) (e:W.heap[g]? = some o) (hw:w.heap.size≤g) (f: ¬ eX v a b g):Env w W v Cv Lv a b V ((g,o) :: d):=
 ⟨h.step,fun x c=>by
  rcases cO.1 c with rfl | c
  ·exact ⟨e,hw,f⟩
  ·exact h.qo x c⟩
def ap1 (k:List UInt8) (n:Nat):(cv k).toArray.setIfInBounds n (.int .u8 1)=(cv (k.set n 1)).toArray:=by
 rw [Bh];exact H9 List.toArray (MV k n 1 om).symm
def apY (w:World) (v:Nat) (Cv Lv:Value) (V:aB) (h:aP w v Cv Lv V) (h5:5<V.C.length) (hC:V.C.length≤256) (hL:V.L.length≤400000000) (f:Nat) (s:gU V f) (n:Nat) (hn:n<256)
  (R:dD (aJ V.C) 1=[n]) (S:oH (aJ V.C) (jA V.C f)=true):
  Calls Tryz.prog 86 #[.pointer (some ⟨v,0,none⟩),.int .i64 (f:Nat)] w fun e w'=>e= .returned (.tuple #[.int .i64 (n:Nat),.int .i64 0])∧ ∃ a b,dF w w' v Cv Lv a b (copyV V f n):=by
 have K:=ah (YG w v Cv Lv V h om 1 om);rw [R] at K;have hR:GZ V.C f=(plus (aJ V.C) (jA V.C f),true):=by unfold GZ;rw [au S]
 have u:Hid (∀ W,aP W v Cv Lv V→_):=fun W c=>fE.1 (amg W v Cv Lv V c h5 hC f s);rw [hR] at u;dsimp only at u;have ai:(plus (aJ V.C) (jA V.C f)).length=256:=by rw [RN];exact CY V.C h.kT om
 have JF:=Vf V [n] om;have zB:=Yx V [n];have r:gU (dS V [n]) f:=s.same JF (fun t ht=>ahl V [n] t ht om);have HL:Hid (∀ W a b x,aP W v a b V→W.ownsRow 0 3 1 x [n].length (iv [n])→_):=fun W a b x c i=>ajR W v a b V c [n] sm sm (by rw [O6];exact hn) x i om om om;have H1:Hid (jP V f n=fF (rM uX (dS V [n]) (tH (dS V [n]) f))):=rfl;have H2:Hid (copyV V f n=fF (bQ (lT (jP V f n) (sS V.C f n) 4) n (cl (lT (jP V f n) (sS V.C f n) 4).C f))):=rfl;have M:Hid (sS V.C f n=(plus (aJ V.C) (jA V.C f)).set n 1):=rfl;generalize dS V [n]=j at*;have HR:Hid (∀ W a b,aP W v a b j→_):=fun W a b c=>fE.1 (alP W v a b j c f r.1 r.2 om om 147 #[] [] uX aeG (avR _) (enters_of Tryz.func147 kr rfl) (fun x i=>by cases i));have aD:=(RY aeG (tH j f) j (Z5 r)).len;have aE:=VI uX (tH j f) j;have aL:=aeV j f;generalize rM uX j (tH j f)=p at*;have al:=zn p
 have OV:(fF p).C.length=p.C.length:=by rw [zX]
 have E:Hid (∀ W a b,aP W v a b p→_):=fun W a b c=>Az W v a b p c om;rw [← uh H1] at al OV E;have T:=ap1 (plus (aJ V.C) (jA V.C f)) n;rw [← uh M] at T;have G:(sS V.C f n).length=256:=by rw [uh M,rV];exact ai
 generalize sS V.C f n=y at*;generalize plus (aJ V.C) (jA V.C f)=k at*;generalize jP V f n=q at*;have HP:Hid (∀ W a b,aP W v a b q→_):=fun W a b c=>VF W v a b q c y G om om;have U8:=Zg q y om;have aM:=Px q y 4;generalize lT q y 4=d at*;have X:f<d.C.length:=by have:=s.1.1.2;omega
 have HA:Hid (∀ W a b,aP W v a b d→_):=fun W a b c=>Oy W v a b d c f X;have an:Hid (∀ W a b,aP W v a b d→(cl d.C f).length=64→_):=fun W a b c hd=>GX W v a b d c n om (cl d.C f) hd om om;have Hd:Hid (∀ W a b,aP W v a b d→(cl d.C f).length=64):=fun W a b c=>c.kT _ (by
  unfold cl;rw [aN,bJ X];exact o9 _)
 have aR:=uH d n (cl d.C f);generalize cl d.C f=dd at*;generalize bQ d n dd=V5 at*;have Y:Hid (∀ W a b,aP W v a b V5→_):=fun W a b c=>Az W v a b V5 c om;rw [← uh H2] at Y;generalize copyV V f n=V6 at*;have H:=ah h;clear h H1 H2 M hR S R s r
 go_enter Tryz.func86,Tryz.ntmps86
 go_wp2_with fail
 refine K.mono ?_;rintro e w1 ⟨x,rfl,i,Z⟩;obtain ⟨g,cap,rfl,_⟩:=gy i sm;obtain ⟨cur,ao,aa,D⟩:=avd i;have z:=ah (((Env.start H).later Z).with aa ao (fun hf=>by have:=H.qV _ hf;omega));have A:Hid (∀ W:World,W.heap[g]? = some (.cells cur 3 (0,0))→W.cell? ⟨g,0,none⟩=some (.int .i64 (n:Nat))):=fun W c=>Yv (F:=[n]) (D W c) 0 sm;have fA:=ah D;clear i Z K D aa
 go_wp2_with fail
 refine (uh u _ z.at').mono ?_;rintro e N ⟨rfl,I⟩;have B:=ah ((z.later I).lay (.cells (cv k).toArray 123));have aq:g≠N.heap.size:=by have:=aK (z.later I).o0;omega
 clear z I u
 go_wp2_with fail
 refine (uh HL _ _ _ _ B.at' (uh fA _ B.o1)).mono ?_;rintro e w3 ⟨rfl,C3,L3,ab⟩;have O:=ah (B.gG ab);clear ab B HL fA
 go_wp2_with fail
 refine (uh HR _ _ _ O.at').mono ?_;rintro e w4 ⟨rfl,C4,L4,ad⟩;have P:=ah (O.gG ad);clear ad O HR
 go_wp2_with fail
 refine (uh E _ _ _ P.at').mono ?_;rintro e w5 ⟨rfl,C5,L5,ae⟩;have m:=P.gG ae;have c5:=uh A w5 m.o1;have a0:(n:Int)<256:=om;have k5:w5.cell? ⟨N.heap.size,n,none⟩=some (.int .u8 (aI k n:Nat)):=by
  rw [aF m.o0,bZ,vG _ _ om]
 have f5:=eY m.o0 n;have l:=m.put (by rintro x i;rw [iP.1 i];exact aq) (Kept.only _ N.heap.size n (.int .u8 1)) (heap_setCell_same _ _ _ _ _ _ _ m.o0);rw [T] at l;have l1:=fH l.o0 (n:=256) (by rw [bC,G]);have l2:=fM l.o0 (n:=256) (by rw [bC,G]);have l:=ah l;clear m ae P E;generalize aI k n=bb at*
 go_wp2_with fail
 refine (uh HP _ _ _ l.at').mono ?_;rintro e w7 ⟨rfl,C7,L7,af⟩;have o:=l.gG af;have c7:w7.drew.cell? ⟨g,0,none⟩=some (.int .i64 (n:Nat)):=uh A w7 o.o1;have ar:=uh Hd _ _ _ o.at';have Ha:=ah (uh HA _ _ _ o.drew.at');have o:=ah o;clear af l HP l1 l2 k5 f5 c5 HA;go_wp2
 go_region_law (first
  | (
   go_simp;go_at_call 142;refine Ha.mono ?_;rintro e w8 ⟨rfl,av⟩;have Q:=ah (o.drew.later av);have c8:w8.cell? ⟨g,0,none⟩=some (.int .i64 (n:Nat)):=uh A w8 Q.o1)
  | (
   go_simp;go_at_call 70;refine (uh an _ _ _ Q.at' ar).mono ?_;rintro e w9 ⟨rfl,C9,L9,ag⟩;have E9:=ah (Q.gG ag);clear ag))
 all_goals
  go_wp2_with fail
  refine (uh Y _ _ _ E9.at').mono ?_;rintro e aw ⟨rfl,ax,az,U⟩;have J:=E9.gG U;have a1:=uh A aw J.o1;have ES:=ah J.step;clear J U;go_wp2;go_ret2;exact ⟨rfl,ax,az,uh ES⟩
def ahF (w:World) (v:Nat) (Cv Lv:Value) (V:aB) (h:aP w v Cv Lv V) (b:5<V.C.length) (c:V.C.length≤256) (hL:V.L.length≤400000000) (f:Nat) (d:gU V f):
  Calls Tryz.prog 86 #[.pointer (some ⟨v,0,none⟩),.int .i64 (f:Nat)] w fun e g=>e= .returned (.tuple #[.int .i64 ((iH V f).2.1:Nat),.int .i64 ((iH V f).2.2:Nat)])∧ ∃ j k,dF w g v Cv Lv j k (iH V f).1:=by
 by_cases a:0<(dD (aJ V.C) 1).length∧oH (aJ V.C) (jA V.C f)=true
 ·obtain ⟨n,hn,i,_⟩:=Nq a.1;have e:iH V f=(copyV V f n,n,0):=by
   unfold iH;rw [au a,hn,EG]
  have hc:=apY w v Cv Lv V h b c hL f d n i hn a.2;rw [e];generalize copyV V f n=U at*;exact hc
 ·have e:iH V f=(V,0,5):=by
   unfold iH;rw [ak a]
  rw [e];refine (apX w v Cv Lv V h b c f d a).mono ?_;rintro e g ⟨rfl,l⟩;exact ⟨rfl,Cv,Lv,(dF.refl h).later l⟩
end
section
attribute [local go_sem ↓] dw fP fV kU mZ nC jR kP kJ kF lG lI kR kQ kV ng nD l9 nJ jE pW qM qO qA xM ED EF EC DW
attribute [local go_sem] dM fO fU gW gB aV kY mP mW mQ mO gX jT kN kH lq kX iM kG lu lD lC kM jc jd nH nK kW kZ mX nT mV mM nN qc qI qK qJ qH xU Et Ew Eu Es Dy
attribute [local go_sem] pU pR Oper.semAt_some
attribute [local go_sem ↓] IY Jh
attribute [local go_sem] Jc Jf Je
def yD (E:List aW) (s:ByteArray):Nat→Nat→Int
 | 0,_=> -1
 | m+1,k=>if bM (E.getD k ze).name=s then (k:Int) else yD E s m (k+1)
def rY (E:List aW) (s:ByteArray):Int:=yD E s (lenOf E) 0
def acC (w:World) (E:List aW) (d:E.length=4) (s:ByteArray):
  Calls Tryz.prog 84 #[.agg (lv E).toArray,.string s] w fun e x=>e= .returned (.int .i64 (rY E s))∧aC w x:=by
 have c:=ah (dW.one w (.cells (lv E).toArray 144));have j:=fH c.o0 (n:=8) (by rw [dX,d]);have l:=fM c.o0 (n:=8) (by rw [dX,d]);have m:=ah (O7 (w.alloc (.cells (lv E).toArray 144)) E d);have y:=AQ E;have B:zl.length=4:=rfl;have o:rY E s=yD E s (lenOf E) 0:=rfl;have r:=ah o;clear o
 go_enter Tryz.func84,Tryz.ntmps84
 go_wp2_with fail
 refine m.mono ?_;rintro e C ⟨rfl,g⟩;have t:=ah (c.later g);clear m c j l g;generalize lenOf E=n0 at*;have D:(n0:Int)≤4:=om;go_wp2
 go_loopw [11] (fun i wr=> ∃ k:Nat,k≤n0∧i= .int .i64 k∧dW w wr [.cells (lv E).toArray 144]∧rY E s=yD E s (n0 - k) k) (fun i _=>n0 - (intOf i).toNat)
 case atStart=>exact ⟨0,om,rfl,uh t,uh r⟩
 case round=>
  obtain ⟨k,hk,rfl,hL,a⟩:=hrel;clear t r
  by_cases z:k<n0
  ·have A:(k:Int)<(n0:Int):=om;have u:k<E.length:=om;have j:=sU (n:=2) (Gw hL.o0 k u) rfl;have l:=qU (n:=2) (Gw hL.o0 k u) rfl;have hs:yD E s (n0 - k) k=if bM (E.getD k ze).name=s then (k:Int) else yD E s (n0 - (k+1)) (k+1):=by
    rw [show n0 - k=(n0 - (k+1))+1 by omega,yD]
   rw [hs] at a;generalize E.getD k ze=p at*;have h:=ah (hL.alloc (.cells (ev p).toArray 142));have f:=ah h.below;have F:(wr.alloc (.cells (ev p).toArray 142)).cell? ⟨wr.heap.size,0,none⟩=some (.string (bM p.name)):=(wM wr _ _ _ 0).trans rfl;clear hL hs;generalize bM p.name=q at*
   by_cases h0:q=s
   ·rw [au h0] at a;have b:=ah a;subst h0;clear a;go_wp2;go_ret;exact ⟨by rw [uh b];rfl,uh f⟩
   ·rw [ak h0] at a;have b:=ah a;have G:(q.toList == s.toList)=false:=lY.2 (fun he=>h0 (afk (by rw [← aaJ,← aaJ];exact he)));clear a;go_wp2;go_roundw
    case rel=>exact ⟨k+1,om,gn,uh h,uh b⟩
    case measure=>exact bW
  ·have v:k=n0:=om;subst v;rw [Bg] at a;have f:=ah hL.below;have b:=ah a;clear a hL;go_wp2;go_ret;exact ⟨by rw [uh b];rfl,uh f⟩
end
def oz (V:aB) (s:ByteArray):Int × Nat:=
 if nZ s.data.toList=false then (0,2) else if rY (aZ (cl V.C 5)) s<0 then (0,4) else (rY (aZ (cl V.C 5)) s,0)
def XQ (w:World) (v:Nat) (Cv Lv:Value) (V:aB) (h:aP w v Cv Lv V) (q:5<V.C.length) (s:ByteArray) (hs:s.size≤maxLen):
  Calls Tryz.prog 109 #[.pointer (some ⟨v,0,none⟩),.string s] w fun e r=>e= .returned (.tuple #[.int .i64 (oz V s).1,.int .i64 ((oz V s).2:Nat)])∧aC w r:=by
 have c:=ah (adY s w hs);have t:=ah h;have a:Hid (oz V s=if nZ s.data.toList=false then (0,2) else if rY (aZ (cl V.C 5)) s<0 then (0,4) else (rY (aZ (cl V.C 5)) s,0)):=rfl;have p:=Ea (cl V.C 5);clear h;cases hb:nZ s.data.toList
 ·rw [hb] at c a;rw [au rfl] at a;clear hb
  go_enter Tryz.func109,Tryz.ntmps109
  go_wp2_with fail
  refine c.mono ?_;rintro e l ⟨rfl,b⟩;have d:=ah b;clear b c;go_wp2;go_ret2;exact ⟨by rw [uh a];rfl,uh d⟩
 ·rw [hb] at c a;rw [ak sm] at a;clear hb
  go_enter Tryz.func109,Tryz.ntmps109
  go_wp2_with fail
  refine c.mono ?_;rintro e l ⟨rfl,b⟩;have m:=ah (Lc l v Cv Lv V (t.below b) q);have d:=ah b;clear b c
  go_wp2_with fail
  refine m.mono ?_;rintro e u ⟨rfl,j⟩;have n:=ah (acC u (aZ (cl V.C 5)) p s);have i:=ah (d.trans (j.mono d.size));clear j m d;generalize aZ (cl V.C 5)=E at*
  go_wp2_with fail
  refine n.mono ?_;rintro e y ⟨rfl,k⟩;have o:=ah (i.trans (k.mono i.size));clear k n i;generalize rY E s=f at*
  by_cases g:f<0
  ·have x:decide (f<0)=true:=dZ g;rw [au g] at a;go_wp2;go_ret2;exact ⟨by rw [uh a];rfl,uh o⟩
  ·have x:decide (f<0)=false:=gK g;rw [ak g] at a;go_wp2;go_ret2;exact ⟨by rw [uh a];rfl,uh o⟩
section
attribute [local go_sem ↓] dw fP fV kU mZ nC jR kP kJ kF lG lI kR kQ kV ng nD l9 nJ jE pW qM qO qA xM ED EF EC DW
attribute [local go_sem] dM fO fU gW gB aV kY mP mW mQ mO gX jT kN kH lq kX iM kG lu lD lC kM jc jd nH nK kW kZ mX nT mV mM nN qc qI qK qJ qH xU Et Ew Eu Es Dy
attribute [local go_sem] pU pR Oper.semAt_some
attribute [local go_sem ↓] IY Jh
attribute [local go_sem] Jc Jf Je
def acA (E:List aW) (s:ByteArray): ∀ m k,0≤yD E s m k→ ∃ i,k≤i∧i<k+m∧yD E s m k=(i:Int)
 | 0,k,h=>by simp [yD] at h
 | m+1,k,h=>by
  unfold yD at h ⊢;split
  ·exact ⟨k,om,om,rfl⟩
  ·rename_i hn;rw [ak hn] at h;obtain ⟨i,b,c,a⟩:=acA E s m (k+1) h;exact ⟨i,om,om,a⟩
def XP (V:aB) (s:ByteArray):(oz V s=(0,2)∨oz V s=(0,4))∨ ∃ i,i<lenOf (aZ (cl V.C 5))∧oz V s=(((i:Nat):Int),0)∧rY (aZ (cl V.C 5)) s=(i:Int):=by
 unfold oz;split
 ·exact aA (aA rfl)
 ·split
  ·exact aA (ay rfl)
  ·rename_i h;obtain ⟨i,_,c,b⟩:=acA (aZ (cl V.C 5)) s (lenOf (aZ (cl V.C 5))) 0 (by unfold rY at h;omega);have a:rY (aZ (cl V.C 5)) s=(i:Int):=b;exact ay ⟨i,om,by rw [a],a⟩
def yK (V:aB) (s:ByteArray) (n:Int):aj × Nat:=
 if (oz V s).2=0 then xC V.C ((aZ (cl V.C 5)).getD (oz V s).1.toNat ze).first n else (zc,(oz V s).2)
def am5 (w:World) (v:Nat) (Cv Lv:Value) (V:aB) (h:aP w v Cv Lv V) (i:5<V.C.length) (s:ByteArray) (hs:s.size≤maxLen) (n:Int) (m:Nat) (hm:oz V s=(0,m)) (g:m≠0):
  Calls Tryz.prog 98 #[.pointer (some ⟨v,0,none⟩),.string s,.int .i64 n] w fun e j=>e= .returned (.tuple #[.agg (cv (yK V s n).1).toArray,.int .i64 ((yK V s n).2:Nat)])∧aC w j:=by
 have a:=dW.one w (.cells (cv zc).toArray 38);have c:=ah (XQ _ v Cv Lv V (h.below a.below) i s hs);have a:=ah a;clear h;have hR:yK V s n=(zc,m):=by unfold yK;rw [hm,ak g]
 rw [hR];rw [hm] at c;dsimp only at c ⊢;have p:(((m:Nat):Int) != 0)=true:=by rw [ou];omega
 clear hm hR
 go_enter Tryz.func98,Tryz.ntmps98
 go_wp2_with fail
 refine c.mono ?_;rintro e q ⟨rfl,f⟩;have d:=a.later f;have r:=iW d.o0 0 64 (by simp [bC,aV]);have b:=d.setCells 0 rfl 0 (cv zc);rw [jW,qL _ _ (by simp [bC,aV])] at b;have k:=iD b.o0 aV;have l:=iC b.o0 aV;have o:=ah b.below;clear b d f c a;go_wp2;refine iy (v:= .tuple #[.agg (cv zc).toArray,.int .i64 (m:Nat)]) (by rw [FZ Tryz.results98];simp only [dw];simp [asAddr,dM k,l]) rfl ⟨rfl,uh o⟩
end
end Go.Proofs.YtknjjjenklfeoaaGreatDoor
