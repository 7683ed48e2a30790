import Derived.Test.YtknjjjenklfeoaaGreatDoorO42
import Derived.Deep.Cut
set_option maxHeartbeats 8000000
set_option maxRecDepth 100000
set_option linter.all false
namespace Go.Proofs.YtknjjjenklfeoaaGreatDoor
section
open Go.RowKit Go.Shelf
attribute [local go_sem ↓] dw fP fZ jJ kJ jY jU lD lH kQ
attribute [local go_sem] dK fO fV gK gy aV jK kH jX kZ kW iJ jW lq lC lu kF jc jd
attribute [local go_sem ↓] TU YG Y0
attribute [local go_sem] Uz Yi Yj Yk OG
attribute [local go_sem] pW pV Oper.semAt_some
theorem Jf (s:JE):(oq s).length=5:=rfl
theorem akr (s:JE): ∀ v ∈ oq s,v.oneCell'=true:=by
 intro v hv;simp only [oq,dD,jM,jO] at hv;rcases hv with rfl | rfl | rfl | rfl | rfl <;> rfl
def ail (a:Addr):Sem Value:=loadVar 51 a
theorem Qg (a:Addr):loadVar 51 a=ail a:=rfl
theorem QM {w:World} {b o:Nat} (h:dN w b o 5):(ail ⟨b,o,none⟩).run Tryz.prog w= .ok (.agg (dI w b o 5).toArray) w:=
 AX h 51 _ Tryz.underlying51 rfl kr
def Ot (a:Addr) (v:Value):Sem Unit:=storeVar 51 a v
theorem YF (a:Addr) (v:Value):storeVar 51 a v=Ot a v:=rfl
theorem acW {w:World} {b o:Nat} (s:JE) (ht:w.there b o 5):(Ot ⟨b,o,none⟩ (.agg #[.int .i64 s.aax,.int .i64 s.used,.int .i64 s.lost,.int .i64 s.over,.int .i64 s.QT])).run Tryz.prog w= .ok () (w.setCells b o (oq s)):=by
 have:=FX (P:=Tryz.prog) w b o 51 (oq s).toArray (by simpa [Jf] using ht) (by simp only [iR,Jf];kernel_rfl) (vg (akr s))
 exact this
theorem as9 {w:World} {z:List Value} (s:JE) (hz:z.length=5):
  (Ot ⟨w.heap.size,0,none⟩ (.agg #[.int .i64 s.aax,.int .i64 s.used,.int .i64 s.lost,.int .i64 s.over,.int .i64 s.QT])).run Tryz.prog (w.alloc (.cells z.toArray 51))= .ok () (w.alloc (.cells (oq s).toArray 51)):=
 FY w 51 z.toArray (oq s).toArray (by simp only [iR,Jf];kernel_rfl) (by simp [Jf,hz]) (vg (akr s))
def yQ (M:List Nat) (n:Nat):Bool:=decide (0<M.getD n 0)
def vS (M:List Nat) (k:List UInt8) (n:Nat):Bool:=M.getD n 0 == 0 && decide (0<aI k n)
def vT (M:List Nat) (k:List UInt8) (n:Nat):Bool:=decide (0<M.getD n 0) && decide (M.getD n 0<aI k n)
def EY (V:aB):JE:=
 ⟨num (cl V.C 0) 4,bF (yQ (iE V)) 256,bF (vS (iE V) (aJ V.C)) 256,bF (vT (iE V) (aJ V.C)) 256,yI V (iE V) (bK V)⟩
def ae0 (bu:Nat) (M:List Nat) (w':World):Prop:=dN w' bu 0 256∧dI w' bu 0 256=nv M
structure Ah (w W:World) (bu bs:Nat) (M:List Nat) (s:List Value):Prop where
 below:aC w W
 bz:W.heap[w.heap.size]? = some (.cells zs5.toArray 51 (0,0))
 PE:W.heap[bu]? = some (.cells (nv M).toArray 161 (0,0))
 Gp:W.heap[bs]? = some (.cells s.toArray 51 (0,0))
 lo:w.heap.size<bs
theorem Ah.ne {w W:World} {bu bs:Nat} {M:List Nat} {s:List Value} (h:Ah w W bu bs M s):bu≠bs:=fun e=>by
 have h1:=h.PE;rw [e] at h1;rw [h.Gp] at h1;injection h1 with h1;injection h1 with _ h2;exact absurd h2 dc
theorem Ah.later {w W W':World} {bu bs:Nat} {M:List Nat} {s:List Value} (h:Ah w W bu bs M s) (hb:aC W W'):Ah w W' bu bs M s:=
 ⟨h.below.trans (hb.mono h.below.size),(hb.block _ (aO h.bz)).trans h.bz,(hb.block _ (aO h.PE)).trans h.PE,(hb.block _ (aO h.Gp)).trans h.Gp,h.lo⟩
theorem Ah.set {w W:World} {bu bs:Nat} {M:List Nat} {s:List Value} (h:Ah w W bu bs M s) (i:Nat) (v:Value):Ah w (W.setCell ⟨bs,i,none⟩ v) bu bs M (s.set i v):=by
 have hk:=Kept.only W bs i v
 have:=h.lo
 have:=h.ne
 refine ⟨?_,hk.aF om h.bz,hk.aF om h.PE,?_,h.lo⟩
 ·exact ⟨hk.os.trans h.below.os,hk.tape.trans h.below.tape,hk.output.trans h.below.output,jZ h.below.size hk.size,fun i hi=>by
   rw [hk.block i (iZ hi h.below.size) om];exact h.below.block i hi⟩
 ·rw [heap_setCell_same _ _ _ _ _ _ _ h.Gp,Af]
theorem Ah.all {w W:World} {bu bs:Nat} {M:List Nat} {s t:List Value} (h:Ah w W bu bs M s) (hl:s.length=t.length):Ah w (W.setCells bs 0 t) bu bs M t:=by
 have hk:=Kept.AP W bs 0 t
 have:=h.lo
 have:=h.ne
 refine ⟨?_,hk.aF om h.bz,hk.aF om h.PE,Si h.Gp hl,h.lo⟩;exact ⟨hk.os.trans h.below.os,hk.tape.trans h.below.tape,hk.output.trans h.below.output,jZ h.below.size hk.size,fun i hi=>by
   rw [hk.block i (iZ hi h.below.size) om];exact h.below.block i hi⟩
attribute [local go_sem ↓] Qg YF
attribute [local go_sem] QM
theorem auO (w:World) (v:Nat) (Cv Lv:Value) (V:aB) (h:aN w v Cv Lv V) (h5:5<V.C.length) (hC:V.C.length≤256) (hF: ∀ f ∈ bK V,gJ V f):
  Calls Tryz.prog 52 #[.pointer (some ⟨v,0,none⟩)] w fun e w'=>e= .returned (.agg (oq (EY V)).toArray)∧aC w w':=by
 have Hu:=ah (fun (W:World) (hB:aC w W)=>eY.1 (adK W v Cv Lv V (h.below hB) h5 hC hF));have hml:(iE V).length=256:=Oz V _;have hmm:=YU (V:=V) (bK V) hF;have hfl:(bK V).length≤5:=by
  unfold bK zZ
  have:=zU (aY (cl V.C 5))
  simp only [iQ,tH,xu];omega
 have hll:=ahS (V:=V) (iE V) (bK V) hF;have Hl:=ah (fun (W:World) (hB:aC w W)=>eY.1 (auF W v Cv Lv V (h.below hB) h5 hC hF (iE V) hml));have Hh:=ah (fun (W:World) (hB:aC w W)=>IJ W v Cv Lv V (h.below hB) om);have Hc:=ah (fun (W:World) (hB:aC w W)=>Lr W v Cv Lv V (h.below hB) om);have hcl:=BI V.C h.kE om;have HR:Hid (EY V=⟨num (cl V.C 0) 4,bF (yQ (iE V)) 256,bF (vS (iE V) (aJ V.C)) 256,bF (vT (iE V) (aJ V.C)) 256,yI V (iE V) (bK V)⟩):=rfl;have Ti: ∀ n,(iE V).getD n 0≤10000:=fun n=>by have:=hmm n;unfold iE;omega
 have n4:=iD (cl V.C 0) 4;have n6:=iD (cl V.C 0) 6;generalize yI V (iE V) (bK V)=q at*;generalize iE V=M at*;generalize aJ V.C=k at*;generalize num (cl V.C 0) 4=cls at*;generalize num (cl V.C 0) 6=fst at*;clear h hF hmm
 go_enter Tryz.func52,Tryz.ntmps52
 go_wp2_with fail
 have B0:=ah ((bG w.heap.size w).alloc (aP _) (.cells #[.int .i64 0,.int .i64 0,.int .i64 0,.int .i64 0,.int .i64 0] 51));have X0:=ah (aW w (.cells #[.int .i64 0,.int .i64 0,.int .i64 0,.int .i64 0,.int .i64 0] 51));generalize w.alloc (.cells #[.int .i64 0,.int .i64 0,.int .i64 0,.int .i64 0,.int .i64 0] 51)=w0 at*;refine (uh Hu w0 B0).mono ?_;rintro e w1 ⟨rfl,b1⟩;have hs1:w.heap.size<w1.heap.size:=iZ (aO X0) b1.size;have B1:=ah ((B0.trans (b1.mono B0.size)).alloc (Nat.le_of_lt hs1) (.cells (nv M).toArray 161));have X1:=ah ((jE w1 (.cells (nv M).toArray 161) w.heap.size hs1).trans ((b1.block _ (aO X0)).trans X0));have Y1:=ah (aW w1 (.cells (nv M).toArray 161));clear Hu B0 X0 b1
 have st1: ∀ {w:World} {b:Nat},w.there b 0 5→(Ot ⟨b,0,none⟩ (.agg #[.int .i64 (cls:Nat),.int .i64 0,.int .i64 0,.int .i64 0,.int .i64 (q:Nat)])).run Tryz.prog w= .ok () (w.setCells b 0 (oq ⟨cls,0,0,0,q⟩)):=fun ht=>acW ⟨cls,0,0,0,q⟩ ht;have st2: ∀ {w:World},(Ot ⟨w.heap.size,0,none⟩ (.agg #[.int .i64 (cls:Nat),.int .i64 0,.int .i64 0,.int .i64 0,.int .i64 (q:Nat)])).run Tryz.prog (w.alloc (.cells #[.int .i64 0,.int .i64 0,.int .i64 0,.int .i64 0,.int .i64 0] 51))= .ok () (w.alloc (.cells (oq ⟨cls,0,0,0,q⟩).toArray 51)):=fun {w}=>as9 (w:=w) (z:=zs5) ⟨cls,0,0,0,q⟩ rfl;have hsz1:Hid ((w1.alloc (.cells (nv M).toArray 161)).heap.size=w1.heap.size+1):=jB _ _
 go_wp2_with fail
 generalize w1.alloc (.cells (nv M).toArray 161)=wa at*;generalize w1.heap.size=bu at*;have HT:=ah (fun (W:World) (hB:aC wa W)=>(show ae0 bu M W from ⟨fD ((hB.block _ (aO Y1)).trans Y1) (by rw [En,hml]),fG ((hB.block _ (aO Y1)).trans Y1) (by rw [En,hml])⟩));have hTa:=uh HT _ (bG _ wa).drew;have hsa:w.heap.size<wa.heap.size:=aO X1
 go_cut [4] from 9 (fun s4 wc=> ∃ bs,s4= .pointer (some ⟨bs,0,none⟩)∧Ah w wc bu bs M (oq ⟨cls,0,0,0,q⟩))
 case first=>
  refine yT (ae0 bu M) 8 kr ?_;refine tk 0 hTa ?_;refine tk 3 hTa ?_;refine tk 4 hTa ?_;have BB:=ah (bG wa.heap.size wa).drew;have B1:=ah B1.drew;refine MJ (i:=1) (j:=7) kr rfl rfl (fun KA hKA=> ?_) (fun KB hKB=> ?_)
  ·go_simp;go_at_call 87;refine (uh Hh _ B1).mono ?_;rintro e w2 ⟨rfl,b2⟩;have B2:=ah (B1.trans (b2.mono B1.size));have C2:=ah (BB.trans (b2.mono BB.size));have hT2:=uh HT _ C2;clear b2;refine hKA _ _ (ay hT2) ?_;refine tk 2 hT2 ?_;refine MJ (i:=5) (j:=7) kr rfl rfl (fun KC hKC=> ?_) (fun KD hKD=> ?_)
   ·go_simp;go_at_call 100;refine (uh Hl _ B2).mono ?_;rintro e w3 ⟨rfl,b3⟩;have B3:=ah (B2.trans (b3.mono B2.size));have C3:=ah (C2.trans (b3.mono C2.size));have hT3:=uh HT _ C3;have hT4:=fun x=>uh HT _ (C3.alloc C3.size x);clear b3;refine hKC _ _ (ay hT3) ?_;refine tk 6 hT3 ?_;refine wo 7 fun K7 hK7=> ?_;go_simp;refine hK7 _ _ (ay (hT4 _)) ?_;refine wo 8 fun K8 hK8=> ?_;go_simp;refine hK8 _ _ (aA rfl) ?_;refine tu kr ?_ _;have hs3:w.heap.size<w3.heap.size:=iZ hsa C3.size;have CC:Ah w (w3.alloc (.cells (oq ⟨cls,0,0,0,q⟩).toArray 51)) bu w3.heap.size M (oq ⟨cls,0,0,0,q⟩):=
     ⟨B3.alloc B3.size _,(jE _ _ _ hs3).trans ((C3.block _ hsa).trans X1),(jE _ _ _ (iZ (aO Y1) C3.size)).trans ((C3.block _ (aO Y1)).trans Y1),aW _ _,hs3⟩
    go_wp2;go_meet;exact ⟨_,rfl,CC⟩
   ·go_simp;have B3:=ah (B2.alloc B2.size (.cells #[.int .i64 0,.int .i64 0,.int .i64 0,.int .i64 0,.int .i64 0] 51));have C3:=ah (C2.alloc C2.size (.cells #[.int .i64 0,.int .i64 0,.int .i64 0,.int .i64 0,.int .i64 0] 51));have Z3:=ah (aW w2 (.cells #[.int .i64 0,.int .i64 0,.int .i64 0,.int .i64 0,.int .i64 0] 51));have hT3:=uh HT _ C3;have hs2:w.heap.size<w2.heap.size:=iZ hsa C2.size;refine hKD _ _ (ay hT3) ?_;refine wo 5 fun K5 hK5=> ?_;go_simp;go_at_call 100;refine (uh Hl _ B3).mono ?_;rintro e w4 ⟨rfl,b4⟩;have B4:=ah (B3.trans (b4.mono B3.size));have C4:=ah (C3.trans (b4.mono C3.size));have Z4:=ah ((b4.block _ (aO Z3)).trans Z3);have hT4:=uh HT _ C4;have C0:Ah w w4 bu w2.heap.size M zs5:=⟨uh B4,(C4.block _ hsa).trans X1,(C4.block _ (aO Y1)).trans Y1,uh Z4,hs2⟩;have CC:=ah (C0.all (t:=oq ⟨cls,0,0,0,q⟩) rfl);have th:=iI Z4 0 5 sm;clear b4 C0;refine hK5 _ _ (ay hT4) ?_
    refine tk 6 hT4 ?_;refine wo 8 fun K8 hK8=> ?_;go_simp;refine hK8 _ _ (aA rfl) ?_;refine tu kr ?_ _;go_wp2;go_meet;exact ⟨_,rfl,uh CC⟩
  ·go_simp;have B2:=ah (B1.alloc B1.size (.cells #[.int .i64 0,.int .i64 0,.int .i64 0,.int .i64 0,.int .i64 0] 51));have C2:=ah (BB.alloc BB.size (.cells #[.int .i64 0,.int .i64 0,.int .i64 0,.int .i64 0,.int .i64 0] 51));have Z2:=ah (aW wa.drew (.cells #[.int .i64 0,.int .i64 0,.int .i64 0,.int .i64 0,.int .i64 0] 51));have hT2:=uh HT _ C2;have hT2':=uh HT _ ((bG wa.heap.size wa).alloc (aP _) (.cells #[.int .i64 0,.int .i64 0,.int .i64 0,.int .i64 0,.int .i64 0] 51)).drew;refine hKB _ _ (ay (uh HT _ C2)) ?_;refine wo 1 fun K1 hK1=> ?_;go_simp;go_at_call 87;refine (uh Hh _ B2).mono ?_;rintro e w3 ⟨rfl,b3⟩;have B3:=ah (B2.trans (b3.mono B2.size));have C3:=ah (C2.trans (b3.mono C2.size));have Z3:=ah ((b3.block _ (aO Z2)).trans Z2);have hT3:=uh HT _ C3;clear b3;refine hK1 _ _ (ay hT3) ?_;refine tk 2 hT3 ?_;refine wo 5 fun K5 hK5=> ?_;go_simp;go_at_call 100;refine (uh Hl _ B3).mono ?_
   rintro e w4 ⟨rfl,b4⟩;have B4:=ah (B3.trans (b4.mono B3.size));have C4:=ah (C3.trans (b4.mono C3.size));have Z4:=ah ((b4.block _ (aO Z3)).trans Z3);have hT4:=uh HT _ C4;have C0:Ah w w4 bu wa.heap.size M zs5:=⟨uh B4,(C4.block _ hsa).trans X1,(C4.block _ (aO Y1)).trans Y1,uh Z4,hsa⟩;have CC:=ah (C0.all (t:=oq ⟨cls,0,0,0,q⟩) rfl);have th:w4.there wa.heap.size 0 5:=iI Z4 0 5 sm;clear b4 C0;refine hK5 _ _ (ay hT4) ?_;refine tk 6 hT4 ?_;refine wo 8 fun K8 hK8=> ?_;go_simp;refine hK8 _ _ (aA rfl) ?_;refine tu kr ?_ _;go_wp2;go_meet;exact ⟨_,rfl,uh CC⟩
 case rest=>
  obtain ⟨bs,rfl,hcc⟩:=hcut;have C1:=ah hcc;have Hc':=ah (uh Hc _ hcc.below);clear hcc Hl Hh HT hTa st1 st2 B1 X1 Y1 hsz1
  go_wp2_with fail
  refine Hc'.mono ?_;rintro e wd ⟨rfl,b5⟩;have C5:=ah (C1.later b5);clear b5 C1 Hc' Hc;go_wp2
  go_loopw [18] (fun i w'=> ∃ j:Nat,j≤256∧i= .int .i64 j∧Ah w w' bu bs M (oq ⟨cls,bF (yQ M) j,bF (vS M k) j,bF (vT M k) j,q⟩)) (fun i _=>256 - (intOf i).toNat)
  case atStart=>exact ⟨0,om,rfl,uh C5⟩
  case round=>
   obtain ⟨j,hj,rfl,hC1⟩:=hrel;clear C5
   by_cases hlt:j<256
   ·have hji:(j:Int)<256:=om;have hix:=acU wr k hcl j hlt;have hbl:=tV k j;have hU:bF (yQ M) (j+1)=bF (yQ M) j+if 0<M.getD j 0 then 1 else 0:=by simp [bF,yQ]
    have hLo:bF (vS M k) (j+1)=bF (vS M k) j+if M.getD j 0=0∧0<aI k j then 1 else 0:=by simp [bF,vS]
    have hO:bF (vT M k) (j+1)=bF (vT M k) j+if 0<M.getD j 0∧M.getD j 0<aI k j then 1 else 0:=by simp [bF,vT]
    have l1:=PK (yQ M) j;have l2:=PK (vS M k) j;have l3:=PK (vT M k) j;have hm:=Ti j;have cu:wr.cell? ⟨bu,j,none⟩=some (.int .i64 ((M.getD j 0:Nat):Int)):=by rw [aG hC1.PE,bW,Kr _ _ om]
    have s1:wr.cell? ⟨bs,1,none⟩=some (.int .i64 (bF (yQ M) j:Nat)):=by rw [aG hC1.Gp];rfl
    have s2:wr.cell? ⟨bs,2,none⟩=some (.int .i64 (bF (vS M k) j:Nat)):=by rw [aG hC1.Gp];rfl
    have s3:wr.cell? ⟨bs,3,none⟩=some (.int .i64 (bF (vT M k) j:Nat)):=by rw [aG hC1.Gp];rfl
    have hfz: ∀ i,wr.frozen? ⟨bs,i,none⟩=false:=fun i=>eG hC1.Gp i;have hne:=hC1.ne;generalize aI k j=b at*;generalize M.getD j 0=u at*;generalize bF (yQ M) j=u0 at*;generalize bF (vS M k) j=l0 at*;generalize bF (vT M k) j=o0 at*;have HU:=ah hU;have HL:=ah hLo;have HO:=ah hO;have HC:=ah hC1;clear hU hLo hO hC1
    by_cases hu0:u=0
    ·subst hu0
     by_cases hq0:0<b
     ·have dq:decide ((0:Int)<(b:Int))=true:=by simp;omega
      have dz:(((0:Nat):Int) == 0)=true:=rfl;have du:decide ((0:Int)<((0:Nat):Int))=false:=rfl;go_wp2;go_roundw
      case rel=>
       refine ⟨j+1,om,gn,?_⟩;have eU:bF (yQ M) (j+1)=u0:=by have e:=uh HU;split at e <;> omega
       have eL:bF (vS M k) (j+1)=l0+1:=by have e:=uh HL;split at e <;> omega
       have eO:bF (vT M k) (j+1)=o0:=by have e:=uh HO;split at e <;> omega
       rw [eU,eL,eO];exact HC.set 2 (.int .i64 ((l0:Int)+1))
      case measure=>exact cO
     ·have hb0:b=0:=om;subst hb0;have dq:decide ((0:Int)<((0:Nat):Int))=false:=rfl;have dz:(((0:Nat):Int) == 0)=true:=rfl;go_wp2;go_roundw
      case rel=>
       refine ⟨j+1,om,gn,?_⟩;have eU:bF (yQ M) (j+1)=u0:=by have e:=uh HU;split at e <;> omega
       have eL:bF (vS M k) (j+1)=l0:=by have e:=uh HL;split at e <;> omega
       have eO:bF (vT M k) (j+1)=o0:=by have e:=uh HO;split at e <;> omega
       rw [eU,eL,eO];exact uh HC
      case measure=>exact cO
    ·have d1:((u:Int) == 0)=false:=by rw [lI];omega
     have d2:decide ((0:Int)<(u:Int))=true:=by simp;omega
     by_cases WX:u<b
     ·have dq:decide ((u:Int)<(b:Int))=true:=by simp;omega
      go_wp2;go_roundw
      case rel=>
       refine ⟨j+1,om,gn,?_⟩;have eU:bF (yQ M) (j+1)=u0+1:=by have e:=uh HU;split at e <;> omega
       have eL:bF (vS M k) (j+1)=l0:=by have e:=uh HL;split at e <;> omega
       have eO:bF (vT M k) (j+1)=o0+1:=by have e:=uh HO;split at e <;> omega
       rw [eU,eL,eO];exact (HC.set 3 (.int .i64 ((o0:Int)+1))).set 1 (.int .i64 ((u0:Int)+1))
      case measure=>exact cO
     ·have dq:decide ((u:Int)<(b:Int))=false:=by simp;omega
      go_wp2;go_roundw
      case rel=>
       refine ⟨j+1,om,gn,?_⟩;have eU:bF (yQ M) (j+1)=u0+1:=by have e:=uh HU;split at e <;> omega
       have eL:bF (vS M k) (j+1)=l0:=by have e:=uh HL;split at e <;> omega
       have eO:bF (vT M k) (j+1)=o0:=by have e:=uh HO;split at e <;> omega
       rw [eU,eL,eO];exact HC.set 1 (.int .i64 ((u0:Int)+1))
      case measure=>exact cO
   ·have hj2:j=256:=om;rw [hj2] at hC1;have l1:=fD hC1.Gp (n:=5) (by rw [Jf]);have l2:=fG hC1.Gp (n:=5) (by rw [Jf]);have th:wr.there w.heap.size 0 5:=iI hC1.bz 0 5 (by simp [zs5]);have st1: ∀ {w:World} {b:Nat} (s:JE),w.there b 0 5→(Ot ⟨b,0,none⟩ (.agg (oq s).toArray)).run Tryz.prog w= .ok () (w.setCells b 0 (oq s)):=fun s ht=>acW s ht;have B9:=ah (below_setCells hC1.below (aP _) 0 (oq ⟨cls,bF (yQ M) 256,bF (vS M k) 256,bF (vT M k) 256,q⟩));have X9:=Si hC1.bz (vs:=oq ⟨cls,bF (yQ M) 256,bF (vS M k) 256,bF (vT M k) 256,q⟩) rfl;have n3:=ah (fD X9 (n:=5) (by rw [Jf]));have n4':=ah (fG X9 (n:=5) (by rw [Jf]));have hji: ¬ (j:Int)<256:=om;clear hC1 X9;generalize (⟨cls,bF (yQ M) 256,bF (vS M k) 256,bF (vT M k) 256,q⟩:JE)=st at*;go_wp2;refine gV (qK rfl ⟨w.heap.size,0,none⟩ rfl (v:= .agg (oq st).toArray) (by rw [Qg,QM (uh n3),uh n4'])) rfl ?_;refine ⟨?_,uh B9⟩;rw [uh HR]
end
section
open Go.RowKit Go.Shelf
attribute [local go_sem ↓] Qg YF
attribute [local go_sem] QM
theorem agb (w:World) (d v:Nat) (Cv Lv:Value) (V:aB) (h:pq w d v Cv Lv V) (h5:5<V.C.length) (hC:V.C.length≤256) (hF: ∀ f ∈ bK V,gJ V f):
  Calls Tryz.prog 22 #[.pointer (some ⟨d,0,none⟩)] w fun e w'=>e= .returned (.agg (oq (EY V)).toArray)∧aC w w':=by
 have hb0:aC w (w.alloc (.cells #[.int .i64 0,.int .i64 0,.int .i64 0,.int .i64 0,.int .i64 0] 51)):=fC;have hx0:(w.alloc (.cells #[.int .i64 0,.int .i64 0,.int .i64 0,.int .i64 0,.int .i64 0] 51)).heap[w.heap.size]? = some (.cells #[.int .i64 0,.int .i64 0,.int .i64 0,.int .i64 0,.int .i64 0] 51 (0,0)):=aW _ _;have h':=h.below hb0;have Hm:=ah (G8 _ d v Cv Lv V h');have c0:=h'.c0;have Hw:=ah (auO _ v Cv Lv V h'.bP h5 hC hF);have B0:=ah hb0;have X0:=ah hx0;generalize EY V=st at*;have hst: ∀ {w:World} {b:Nat},w.there b 0 5→(Ot ⟨b,0,none⟩ (.agg (oq st).toArray)).run Tryz.prog w= .ok () (w.setCells b 0 (oq st)):=fun ht=>acW st ht;clear h hF h' hb0 hx0
 go_enter Tryz.func22,Tryz.ntmps22
 go_wp2_with fail
 generalize w.alloc (.cells #[.int .i64 0,.int .i64 0,.int .i64 0,.int .i64 0,.int .i64 0] 51)=w0 at*;refine Hm.mono ?_;rintro e w1 ⟨rfl,rfl⟩
 go_wp2_with fail
 refine Hw.mono ?_;rintro e w2 ⟨rfl,hb⟩;have hx2:=(hb.block _ (aO X0)).trans X0;have th:w2.there w.heap.size 0 5:=iI hx2 0 5 sm;have B2:=ah (below_setCells (B0.trans (hb.mono B0.size)) (aP _) 0 (oq st));have X9:=Si (cs:=zs5) hx2 (vs:=oq st) rfl;have n3:=ah (fD X9 (n:=5) (by rw [Jf]));have n4:=ah (fG X9 (n:=5) (by rw [Jf]));clear hb hx2 X9 Hw Hm B0 X0;go_wp2;refine gV (qK rfl ⟨w.heap.size,0,none⟩ rfl (v:= .agg (oq st).toArray) (by rw [Qg,QM (uh n3),uh n4])) rfl ?_;exact ⟨rfl,uh B2⟩
end
section
open Go.RowKit Go.Shelf
def vW (M:List Nat):Nat→List UInt8
 | 0=>zk
 | k+1=>(vW M k).set k (UInt8.ofNat (M.getD k 0%256))
theorem Sv (M:List Nat): ∀ k,(vW M k).length=256
 | 0=>iJ
 | k+1=>by rw [vW,rG,Sv M k]
def yO (V:aB):aB:=fJ (kU (l9 V) (vW (iE V) 256) 4)
def Aa (V:aB):aB:=fJ (sF (yO V))
theorem arL (M:List Nat) (i:Nat) (hi:i<M.length) (w:World):(part 3 (nv M).toArray (i*1)).run Tryz.prog w= .ok (.int .i64 ((M.getD i 0:Nat):Int)) w:=by
 have ha:(isAgg 3).run Tryz.prog w= .ok false w:=by unfold isAgg;rw [jh,xw Tryz.underlying3 w];rfl
 unfold part;rw [jh,ha];simp only [rQ,Bg,yc,Vj];rw [bW,Kr M i hi];rfl
theorem as5 (w:World) (M:List Nat) (hM:M.length=256) (k:Nat) (hk:k<256):(Instr.index 161 (.agg (nv M).toArray) (.int .i64 (k:Int))).run Tryz.prog w= .ok (.int .i64 ((M.getD k 0:Nat):Int)) w:=
 Yg w _ _ 256 1 Tryz.underlying161 kr _ k hk _ (arL M k om w)
attribute [local go_sem ↓] jJ kJ jY
attribute [local go_sem] jK kH jX
theorem au0 (w:World) (v:Nat) (Cv Lv:Value) (V:aB) (h:aN w v Cv Lv V) (h5:5<V.C.length) (hC:V.C.length≤256) (hL:V.L.length≤600000000) (hF: ∀ f ∈ bK V,gJ V f) (hF2: ∀ f ∈ bK (yO V),gJ (yO V) f):
  Calls Tryz.prog 57 #[.pointer (some ⟨v,0,none⟩)] w fun e w'=>e= .returned (.tuple #[])∧ ∃ C1 L1,bZ w w' v Cv Lv C1 L1 (Aa V):=by
 have Hu:=ah (fun (W:World) (hB:aC w W)=>eY.1 (adK W v Cv Lv V (h.below hB) h5 hC hF));have H:=ah h;have HF2:=ah hF2;have hml:(iE V).length=256:=Oz V _;have hmm:=YU (V:=V) (bK V) hF;clear h hF hF2
 go_enter Tryz.func57,Tryz.ntmps57
 go_wp2_with fail
 have E0:=ah ((Env.start H).lay (.cells (cv zk).toArray 123));have B0:=ah ((bG w.heap.size w).alloc (aP _) (.cells (cv zk).toArray 123));generalize w.alloc (.cells (cv zk).toArray 123)=w0 at*;refine (uh Hu w0 B0).mono ?_;rintro e w1 ⟨rfl,b1⟩;have Ti: ∀ n,(iE V).getD n 0≤10000:=fun n=>by
  have:=hmm n
  have hfl:(bK V).length≤5:=by
   unfold bK zZ
   have:=zU (aY (cl V.C 5))
   simp only [iQ,tH,xu];omega
  unfold iE;omega
 have HV:Hid (yO V=fJ (kU (l9 V) (vW (iE V) 256) 4)):=rfl;have E1:Hid (Env w w1 v Cv Lv Cv Lv V [(w.heap.size,.cells (cv (vW (iE V) 0)).toArray 123 (0,0))]):=E0.later b1;generalize iE V=M at*;clear hmm b1 Hu E0 B0;go_wp2
 go_loopw [3,4,7] (fun x y i w'=> ∃ k:Nat,k≤256∧i= .int .i64 k∧Env w w' v Cv Lv Cv Lv V [(w.heap.size,.cells (cv (vW M k)).toArray 123 (0,0))]) (fun _ _ i _=>256 - (intOf i).toNat)
 case atStart=>exact ⟨0,om,rfl,uh E1⟩
 case round=>
  obtain ⟨k,hk,rfl,hE⟩:=hrel;clear E1
  by_cases hlt:k<256
  ·have hki:(k:Int)<256:=om;have hix:=as5 wr M hml k hlt;have hMk:=Ti k;have hbl:=Sv M k;have f1:=eG hE.o0;have th:wr.there w.heap.size k 1:=iI hE.o0 k 1 (by rw [iR,bg,hbl];omega);have hwr:IntKind.u8.wrap ((M.getD k 0:Nat):Int)=((M.getD k 0%256:Nat):Int):=by rw [adT];omega
   have E3:=hE.put sm (Kept.only _ w.heap.size k (.int .u8 ((M.getD k 0%256:Nat):Int))) (heap_setCell_same _ _ _ _ _ _ _ hE.o0);have hset:(cv (vW M k)).toArray.setIfInBounds k (.int .u8 ((M.getD k 0%256:Nat):Int))=(cv (vW M (k+1))).toArray:=by
    rw [Af,vW,Ls _ k _ (Zg _ om)]
   rw [hset] at E3;have c1: ∃ x,wr.cell? ⟨w.heap.size,k,none⟩=some x:=⟨_,by rw [aG hE.o0,bW,uO _ _ om]⟩;obtain ⟨x0,c1⟩:=c1;have HE:=ah E3;clear E3 hE hset;generalize M.getD k 0=mk at*;generalize mk%256=m2 at*;go_wp2;go_roundw
   case rel=>exact ⟨k+1,om,gn,uh HE⟩
   case measure=>exact cO
  ·have hk256:k=256:=om;subst hk256;have hki: ¬ (256:Int)<256:=om;have hbl:=Sv M 256;have F1:=ah (hE.sub (cs:=[]) sm);have hle:=F1.at';have Hc:=ah (aaB wr v Cv Lv V F1.at' om om);have EE:=ah hE;clear hE hle
   go_wp2_with fail
   refine Hc.mono ?_;rintro e w3 ⟨rfl,C3,L3,hS3⟩;have E3:=ah (EE.fQ hS3);have l1:=fD E3.o0 (n:=256) (by rw [bg,hbl]);have l2:=fG E3.o0 (n:=256) (by rw [bg,hbl]);have F3:=ah (E3.sub (cs:=[]) sm);have hcC:(l9 V).C.length=V.C.length:=by rw [Iz]
   have hcL:(l9 V).L.length≤V.L.length+1:=VY V;have Hp:=ah (Uk w3 v C3 L3 (l9 V) F3.at' (vW M 256) hbl om om);have IL:=XU (l9 V) (vW M 256) om;have Aw:=Oc (l9 V) (vW M 256) 4;have abv:=yD (kU (l9 V) (vW M 256) 4);have hfc:(fJ (kU (l9 V) (vW M 256) 4)).C.length=V.C.length:=by rw [zK];omega
   rw [← uh HV] at abv hfc;clear hS3 Hc EE F1 E3;generalize kU (l9 V) (vW M 256) 4=V4 at*;generalize l9 V=V3 at*;generalize vW M 256=bs at*
   go_wp2_with fail
   refine Hp.mono ?_;rintro e w4 ⟨rfl,C4,L4,hS4⟩;have F4:=ah (F3.fQ hS4);clear hS4 F3 Hp l1 l2
   go_wp2_with fail
   refine (zL w4 v C4 L4 V4 F4.at' om).mono ?_;rintro e w5 ⟨rfl,C5,L5,hS5⟩;rw [← uh HV] at hS5;have F5:=ah (F4.fQ hS5);clear hS5 F4;have hlm:=Xi (aJ (yO V).C) (bK (yO V)) (yO V);have hfl:(bK (yO V)).length≤5:=by
    unfold bK zZ
    have:=zU (aY (cl (yO V).C 5))
    simp only [iQ,tH,xu];omega
   have apl:(sF (yO V)).L.length≤700000000:=by unfold sF;omega
   have HV2:Hid (Aa V=fJ (sF (yO V))):=rfl;generalize yO V=V5 at*
   go_wp2_with fail
   refine (eY.1 (aiv w5 v C5 L5 V5 F5.at' om om om HF2)).mono ?_;rintro e w6 ⟨rfl,C6,L6,hS6⟩;have F6:=ah (F5.fQ hS6);clear hS6 F5
   go_wp2_with fail
   refine (zL w6 v C6 L6 (sF V5) F6.at' om).mono ?_;rintro e w7 ⟨rfl,C7,L7,hS7⟩;have F7:=ah (F6.fQ hS7);clear hS7 F6;go_wp2
   go_end0
   exact ⟨rfl,C7,L7,by rw [uh HV2];exact F7.step⟩
theorem an9 (w:World) (d v:Nat) (Cv Lv:Value) (V:aB) (h:pq w d v Cv Lv V) (h5:5<V.C.length) (hC:V.C.length≤256) (hL:V.L.length≤600000000) (hF: ∀ f ∈ bK V,gJ V f) (hF2: ∀ f ∈ bK (yO V),gJ (yO V) f):
  Calls Tryz.prog 31 #[.pointer (some ⟨d,0,none⟩)] w fun e w'=>e= .returned (.tuple #[])∧ ∃ C1 L1,bZ w w' v Cv Lv C1 L1 (Aa V):=by
 have Hm:=ah (G8 _ d v Cv Lv V h);have c0:=h.c0;have Hw:=ah (au0 w v Cv Lv V h.bP h5 hC hL hF hF2);clear h hF hF2
 go_enter Tryz.func31,Tryz.ntmps31
 go_wp2_with fail
 refine Hm.mono ?_;rintro e w1 ⟨rfl,rfl⟩
 go_wp2_with fail
 refine Hw.mono ?_;rintro e w2 ⟨rfl,C1,L1,hS⟩;have HS:=ah hS;clear hS Hw Hm;go_wp2
 go_end0
 exact ⟨rfl,C1,L1,uh HS⟩
end
section
section
variable {base:List aj} {V:aB} {N0:Nat} {E:List aX}
theorem aao: ∀ (us M:List Nat) (n:Nat),n<M.length→(zH M us).getD n 0=M.getD n 0+us.count n
 | [],M,n,_=>by simp [zH]
 | u :: r,M,n,hn=>by
  have ih:=aao r (bump M u) n (by rw [PG];exact hn);show (zH (bump M u) r).getD n 0=_;rw [ih,DI];unfold bump;rw [aK,uf,aK]
  by_cases e:u=n
  ·subst e;rw [au rfl,au hn];simp [aK];omega
  ·rw [ak e];simp [e]
theorem ajb (n:Nat):(Eo 6).getD n 0=gX n:=by
 rw [vV];unfold Eo;rw [aK]
 by_cases h:n<6
 ·rw [oJ (by simpa using h),qU,au h,au h];rfl
 ·rw [nP (by simpa using h),qU,ak h]
  split <;> rfl
theorem bD.apb (h:bD base V N0 E) (n:Nat):((bK V).flatMap (mZ V.C)).count n=dM V.C (aH N0 E) n:=by
 rw [h.Au];have key: ∀ rs:List bC,(∀ r ∈ rs,r ∈ aH N0 E)→((rs.map (·.N)).flatMap (mZ V.C)).count n=dM V.C rs n:=by
  intro rs
  induction rs with
  | nil=>intro _;rfl
  | cons r t ih=>
   intro hr;have h1:=ih (fun x hx=>hr x (MP _ hx));have h2:=V8 (h.sound.zero r (hr r (Ro ..))) n;rw [jC,qA,Ik,h1,h2];simp [dM]
 exact key _ (fun _ hr=>hr)
theorem bD.adJ (h:bD base V N0 E) (n:Nat) (hn:n<256):(iE V).getD n 0=gX n+dM V.C (aH N0 E) n:=by
 unfold iE zq;rw [aao _ _ _ (by rw [XF 6 om];exact hn),ajb n,h.apb]
theorem anP {p q:Nat→Bool} (k:Nat) (h: ∀ n,n<k→p n=q n):bF p k=bF q k:=by
 induction k with
 | zero=>rfl
 | succ k ih=>rw [bF,bF,ih (fun n hn=>h n om),h k om]
end
section
variable {base:List aj} {V:aB} {N0:Nat} {E:List aX} {data:aj}
end
section
variable {V:aB} {N0:Nat} {E:List aX} {K:Nat} {data:aj} {base:List aj}
structure alT (V:aB) (N0:Nat) (E:List aX) (K:Nat) (base:List aj:=[]):Prop where
 bP:bD base V N0 E
 exact:wI V.C (aH N0 E)
 jy: ∀ m,m<256→aS V.C m≤K
 av2:base=[]→V.short=false
end
section
variable {base:List aj} {V:aB} {N0:Nat} {E:List aX}
def Jd (V:aB) (N0:Nat) (E:List aX) (k:Nat):List Nat:=(List.range k).flatMap fun m=>List.replicate (aS V.C m - (gX m+dM V.C (aH N0 E) m)) m
theorem Yu (n:Nat): ∀ k,(Jd V N0 E k).count n=if n<k then aS V.C n - (gX n+dM V.C (aH N0 E) n) else 0
 | 0=>rfl
 | k+1=>by
  unfold Jd;rw [Y7,Rl,Ik];have ih:=Yu n k;unfold Jd at ih;rw [ih,qA,OU,rU,List.count_replicate]
  by_cases e:n<k
  ·rw [au e,ak (show ¬ ((k == n)=true) by simp;omega),au (show n<k+1 by omega)];omega
  ·rw [ak e]
   by_cases e2:n=k
   ·subst e2;rw [au (show (n == n)=true by simp),au (show n<n+1 by omega)];omega
   ·rw [ak (show ¬ ((k == n)=true) by simp;omega),ak (show ¬ n<k+1 by omega)]
theorem atE (k:Nat): ∀ u ∈ Jd V N0 E k,u<k:=by
 intro u hu;obtain ⟨m,hm,hr⟩:=Ae.1 hu;rw [(ad2.1 hr).2];exact Jm.1 hm
theorem afx (M:List Nat) (n:Nat) (hn:n<256): ∀ k,k≤256→aI (vW M k) n=if n<k then M.getD n 0%256 else 0
 | 0,_=>by
  rw [ak om];show aI zk n=0;unfold aI zk;rw [aK,qU]
  split <;> rfl
 | k+1,hk=>by
  have ih:=afx M n hn k om;rw [vW,Aj _ _ _ _ (by rw [Sv];omega),ih]
  by_cases e:k=n
  ·subst e;rw [au rfl,au om,MN];omega
  ·rw [ak e]
   by_cases e2:n<k
   ·rw [au e2,au om]
   ·rw [ak e2,ak om]
theorem anc {a b:List UInt8} (ha:a.length=256) (hb:b.length=256) (h: ∀ n,n<256→aI a n=aI b n):a=b:=by
 apply UY om;intro i h1 h2
 have:=h i om
 unfold aI at this;rw [aK,aK,bI h1,bI h2] at this;exact OW.1 this
theorem bD.lets (h:bD base V N0 E):Lets V N0 E (Jd V N0 E 256):=⟨atE 256,fun m hm=>by
 rw [Yu,au hm]
 have:=h.sound.jy m hm
 omega⟩
theorem bD.vW (h:bD base V N0 E):vW (iE V) 256=minus (aJ V.C) (Jd V N0 E 256):=by
 have hc:=h.ok.Gu rfl;refine anc (Sv _ _) (by rw [Xv];exact hc.1) fun n hn=> ?_;have h1:=h.lets.get h.ok rfl n hn;have h2:=h.sound.jy n hn;have h3:=h.sound.top n hn;rw [Yu,au hn] at h1;rw [afx _ n hn 256 (aP _),au hn,h.adJ n hn];omega
theorem bD.ajS (h:bD base V N0 E):yO V=jI (l9 V) (Jd V N0 E 256)∧Aa V=oD (l9 V) (Jd V N0 E 256):=by
 have e:yO V=jI (l9 V) (Jd V N0 E 256):=by
  unfold yO jI;rw [h.vW,Iz]
 refine ⟨e,?_⟩;unfold Aa oD;rw [e]
theorem bD.complete (h:bD base V N0 E):Ok (l9 V).C V.C.length N0 E (bU V.C N0 E)∧(l9 V).C.length=V.C.length∧Lets (l9 V) N0 E (Jd V N0 E 256):=by
 refine ⟨by rw [Iz];exact h.ok,by rw [Iz],?_⟩
 have:=h.lets
 exact ⟨this.lt,fun m hm=>by rw [Iz];exact this.jy m hm⟩
structure al8 (base:List aj) (V:aB) (N0:Nat) (E:List aX):Prop where
 bP:bD base (Aa V) N0 E
 exact:wI (Aa V).C (aH N0 E)
 holds:bU (Aa V).C N0 E=bU V.C N0 E
 len:(Aa V).C.length=V.C.length
 Au: ∀ f ∈ bK (yO V),gJ (yO V) f
theorem bD.aiJ (h:bD base V N0 E):al8 base V N0 E:=by
 obtain ⟨e1,e2⟩:=h.ajS;obtain ⟨o1,o2,o3⟩:=h.complete;obtain ⟨a1,a2,a3,a4⟩:=o1.TR o2 o3;obtain ⟨b1,b2,_,_⟩:=o1.TS o2 o3;rw [← e2] at a1 a2 a3 a4;rw [← e1] at b1 b2;have hl:yY base (Aa V):=by rw [e2];exact h.log.complete.o7 (Ky (iF.refl _) _)
 refine ⟨a1.bP a2 a3 hl,a4 fun m hm=> ?_,?_,a2,fun f hf=> ?_⟩
 ·rw [Iz,Yu,au hm]
  have:=h.sound.jy m hm
  omega
 ·rw [← a1.holds,rP a2]
 ·rw [b1.Au] at hf
  have:=b1.sound
  rw [rP b2] at this;exact this.Di hf
end
end
end Go.Proofs.YtknjjjenklfeoaaGreatDoor
