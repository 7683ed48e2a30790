import Derived.Test.YtknjjjenklfeoaaGreatDoorO35
set_option maxHeartbeats 8000000
set_option maxRecDepth 100000
set_option linter.all false
namespace Go.Proofs.YtknjjjenklfeoaaGreatDoor
open Go.RowKit
section
attribute [local go_sem ↓] dw fP fZ kS mP mV jJ kJ jY jU lD lH kQ ku kT mQ mW lZ ny jG qc qP qQ qF xM EF EI ED DZ
attribute [local go_sem] dK fO fV gK gy aV kX mG mM mJ mF gI jK kH jX kZ kW iJ jW lq lC lu kF jc jd lY l7 kG kY mO nI lT mD nH qh qM qO qN qL xX Ey EC Ez Ew Dz
attribute [local go_sem] pW pV Oper.semAt_some
attribute [local go_sem ↓] IV Jl
attribute [local go_sem] I9 Jb Ja
attribute [local go_sem] Wu Wv
theorem ahp (v:Nat) (V:aB) (h5:5<V.C.length) (hC:V.C.length≤256) (hL:V.L.length≤600000000) (f:Nat) (hFk:gJ V f) (hF: ∀ g ∈ bK (jI V (mZ V.C f)),gJ (jI V (mZ V.C f)) g) (W:World) (C1 L1:Value) (bv bt:Nat)
  (hV:aN W v C1 L1 V) (hbv:W.heap[bv]? = some (.cells #[.pointer (some ⟨v,0,none⟩)] 82 (0,0))) (hbt:W.heap[bt]? = some (.cells #[.int .i64 (f:Nat)] 3 (0,0))) (hft: ¬ eX v C1 L1 bt) (hfv: ¬ eX v C1 L1 bv):
  Calls Tryz.prog 110 #[.pointer (some ⟨v,0,none⟩),.func (.func 166) #[] #[.pointer (some ⟨bt,0,none⟩),.pointer (some ⟨bv,0,none⟩)]] W fun e w'=>e= .returned (.tuple #[])∧ ∃ C2 L2,bZ W w' v C1 L1 C2 L2 (oD V (mZ V.C f)):=
 eY.1 (ah5 W v C1 L1 V hV h5 hC hL 166 #[.pointer (some ⟨bt,0,none⟩),.pointer (some ⟨bv,0,none⟩)] (mZ V.C f) 1057 (enters_of Tryz.func166 kr rfl)
  (fun X B hX=>ahq 99 om X v bv bt f B V C1 L1 W hV hC hbv hbt (fun hx=>by have:=(hX _ hx).1;have:=aO hbt;omega) (fun hx=>by have:=(hX _ hx).1;have:=aO hbv;omega) hft hfv (fun k hk=>(hX k hk).2) hFk) hF)
def Ar (V:aB) (i:Nat):aB:=fJ (bT V 5 (mg (jr (aY (cl V.C 5)) i) 4))
def iW (V:aB) (s:ByteArray):Nat:=((aY (cl V.C 5)).getD (nT V s).1.toNat ze).first
structure Jy (V:aB) (f:Nat):Prop where
 len:V.C.length≤256
 own:gJ V f
 all: ∀ g ∈ bK (jI V (mZ V.C f)),gJ (jI V (mZ V.C f)) g
def Aq (V:aB) (s:ByteArray):aB × Nat:=
 if (nT V s).2=0 then (oD (Ar V (nT V s).1.toNat) (mZ (Ar V (nT V s).1.toNat).C (iW V s)),0) else (V,(nT V s).2)
theorem auP (w:World) (v:Nat) (Cv Lv:Value) (V:aB) (h:aN w v Cv Lv V) (h5:5<V.C.length) (hC:V.C.length≤256) (hL:V.L.length≤400000000) (s:ByteArray) (hs:s.size≤maxLen)
  (hG:(nT V s).2=0→Jy (Ar V (nT V s).1.toNat) (iW V s)):
  Calls Tryz.prog 56 #[.pointer (some ⟨v,0,none⟩),.string s] w fun e w'=>e= .returned (.int .i64 ((Aq V s).2:Nat))∧ ∃ C1 L1,bZ w w' v Cv Lv C1 L1 (Aq V s).1:=by
 have He:=ah (Wn w v Cv Lv V h h5 s hs);have H:=ah h;clear h;rcases (show (∃ m,m≠0∧nT V s=(0,m))∨ ∃ i,i<lenOf (aY (cl V.C 5))∧nT V s=(((i:Nat):Int),0) by
  rcases Wj V s with (e | e) | ⟨i,hi,e,_⟩
  ·exact aA ⟨2,dc,e⟩
  ·exact aA ⟨4,dc,e⟩
  ·exact ay ⟨i,hi,e⟩) with ⟨m,hm,e⟩ | ⟨i,hi,e⟩
 ·have hR:Aq V s=(V,m):=by unfold Aq;rw [e,ak hm]
  rw [hR];rw [e] at He;dsimp only at He ⊢;have d0:(((m:Nat):Int) != 0)=true:=by rw [nR];omega
  clear hG hR e
  go_enter Tryz.func56,Tryz.ntmps56
  go_wp2_with fail
  refine He.mono ?_;rintro e w1 ⟨rfl,hb1⟩;have B1:=ah ((bZ.refl H).later hb1);clear hb1 He;go_wp2;go_ret;exact ⟨rfl,_,_,uh B1⟩
 ·have hG:=hG (by rw [e]);have hR:Aq V s=(oD (Ar V i) (mZ (Ar V i).C (iW V s)),0):=by unfold Aq;rw [e];rfl
  have hfe:iW V s=((aY (cl V.C 5)).getD i ze).first:=by unfold iW;rw [e];rfl
  rw [hR];rw [e] at He hG;dsimp only at He hG ⊢;have hG:Jy (Ar V i) (iW V s):=hG;have Hl:Hid (∀ W,aN W v Cv Lv V→_):=fun W hW=>J6 W v Cv Lv V hW h5;have hel:=Df (cl V.C 5);have hle:=zU (aY (cl V.C 5));have Hwo:Hid (∀ W,_):=fun W=>au6 W (aY (cl V.C 5)) hel i om;have hsh:=(akl (cl V.C 5)).less i;have hll:(jr (aY (cl V.C 5)) i).length=4:=by unfold jr;rw [oO,List.length_eraseIdx,hel,au om];rfl
  have xA:Hid (∀ W C1 L1,aN W v C1 L1 V→_):=fun W C1 L1 hW=>ajA W v C1 L1 V hW (jr (aY (cl V.C 5)) i) hll hsh om om;have HD:Hid (Ar V i=fJ (bT V 5 (mg (jr (aY (cl V.C 5)) i) 4))):=rfl;have hpL:=tZ V 5 (mg (jr (aY (cl V.C 5)) i) 4);have TK:=yN V 5 (mg (jr (aY (cl V.C 5)) i) 4);generalize mg (jr (aY (cl V.C 5)) i) 4=lb at*;generalize jr (aY (cl V.C 5)) i=E' at*;have Ir:Hid (∀ W C1 L1,aN W v C1 L1 (bT V 5 lb)→_):=fun W C1 L1 hW=>zL W v C1 L1 (bT V 5 lb) hW om;have hfL:=yD (bT V 5 lb);have hfC:(fJ (bT V 5 lb)).C.length=(bT V 5 lb).C.length:=by rw [zK]
  rw [← uh HD] at Ir hfL hfC;generalize bT V 5 lb=V1 at*;generalize Ar V i=V2 at*;have O8:Hid (∀ W C1 L1 bv bt,aN W v C1 L1 V2→_→_→_→_→_):=fun W C1 L1 bv bt hW=>ahp v V2 om hG.len om (iW V s) hG.own hG.all W C1 L1 bv bt hW;generalize oD V2 (mZ V2.C (iW V s))=V3 at*;rw [hfe] at O8;clear hG hfe hR e HD;generalize aY (cl V.C 5)=E at*
  go_enter Tryz.func56,Tryz.ntmps56
  go_wp2_with fail
  refine He.mono ?_;rintro e w1 ⟨rfl,hb1⟩;have E1:=ah ((Env.start H).later hb1);clear hb1 He
  go_wp2_with fail
  refine (uh Hl _ E1.at').mono ?_;rintro e w2 ⟨rfl,hb2⟩;have E2:=(E1.later hb2).lay (.cells (lv E).toArray 144);have l1:=fD E2.o0 (n:=8) (by rw [dW,hel]);have l2:=fG E2.o0 (n:=8) (by rw [dW,hel]);have E2:=ah E2;have QY:zl.length=4:=rfl;clear hb2 Hl E1
  go_wp2_with fail
  refine (uh Hwo _).mono ?_;rintro e w3 ⟨rfl,hb3⟩;have E3:=ah (E2.later hb3);clear hb3 Hwo E2 l1 l2
  go_wp2_with fail
  refine (uh xA _ _ _ E3.at').mono ?_;rintro e w4 ⟨rfl,C4,L4,hS4⟩;have E4:=ah (E3.fQ hS4);clear hS4 xA E3
  go_wp2_with fail
  refine (uh Ir _ _ _ E4.at').mono ?_;rintro e w5 ⟨rfl,C5,L5,hS5⟩;have E5:=E4.fQ hS5;have c5:=agn E5.o0 i om;have hii:(i:Int)<4:=om;have E6:=(E5.lay (.cells #[.pointer (some ⟨v,0,none⟩)] 82)).lay (.cells #[.int .i64 ((E.getD i ze).first:Nat)] 3);simp only [jB] at E6;have Hm:=ah (abp w5 v (E.getD i ze).first);have E6:=ah E6;clear hS5 Ir E4 E5;generalize (E.getD i ze).first=ff at*
  go_wp2_with fail
  refine Hm.mono ?_;rintro e w6 ⟨rfl,rfl⟩;have Hg:=ah (uh O8 _ _ _ _ _ E6.at' E6.o1 E6.o0 E6.n0 E6.n1);clear O8 Hm c5
  go_wp2_with fail
  refine Hg.mono ?_;rintro e w7 ⟨rfl,C7,L7,hS7⟩;have ES:=ah (E6.fQ hS7).step;clear hS7 E6 Hg;go_wp2;go_ret;exact ⟨rfl,_,_,uh ES⟩
def FN (V:aB) (n:Nat):aB:=fJ (bT V 0 (fE (num (cl V.C 0) 4) n))
def yP (V:aB) (s:ByteArray):aB × Nat:=
 if (nT V s).2=0 then
  if (iy V (iW V s)).2.2=0 then (oD (FN (iy V (iW V s)).1 (iy V (iW V s)).2.1) (mZ (FN (iy V (iW V s)).1 (iy V (iW V s)).2.1).C (num (cl (iy V (iW V s)).1.C 0) 6)),0)
  else ((iy V (iW V s)).1,(iy V (iW V s)).2.2)
 else (V,(nT V s).2)
theorem au1 (w:World) (v:Nat) (Cv Lv:Value) (V:aB) (h:aN w v Cv Lv V) (h5:5<V.C.length) (hC:V.C.length≤256) (hL:V.L.length≤400000000) (s:ByteArray) (hs:s.size≤maxLen)
  (hF:(nT V s).2=0→gJ V (iW V s))
  (hG:(nT V s).2=0→(iy V (iW V s)).2.2=0→Jy (FN (iy V (iW V s)).1 (iy V (iW V s)).2.1) (num (cl (iy V (iW V s)).1.C 0) 6)):
  Calls Tryz.prog 55 #[.pointer (some ⟨v,0,none⟩),.string s] w fun e w'=>e= .returned (.int .i64 ((yP V s).2:Nat))∧ ∃ C1 L1,bZ w w' v Cv Lv C1 L1 (yP V s).1:=by
 have He:=ah (Wn w v Cv Lv V h h5 s hs);have H:=ah h;clear h;rcases (show (∃ m,m≠0∧nT V s=(0,m))∨ ∃ i,i<lenOf (aY (cl V.C 5))∧nT V s=(((i:Nat):Int),0) by
  rcases Wj V s with (e | e) | ⟨i,hi,e,_⟩
  ·exact aA ⟨2,dc,e⟩
  ·exact aA ⟨4,dc,e⟩
  ·exact ay ⟨i,hi,e⟩) with ⟨m,hm,e⟩ | ⟨i,hi,e⟩
 ·have hR:yP V s=(V,m):=by unfold yP;rw [e,ak hm]
  rw [hR];rw [e] at He;dsimp only at He ⊢;have d0:(((m:Nat):Int) != 0)=true:=by rw [nR];omega
  clear hG hF hR e
  go_enter Tryz.func55,Tryz.ntmps55
  go_wp2_with fail
  refine He.mono ?_;rintro e w1 ⟨rfl,hb1⟩;have B1:=ah ((bZ.refl H).later hb1);clear hb1 He;go_wp2;go_ret;exact ⟨rfl,_,_,uh B1⟩
 ·have h0:(nT V s).2=0:=by rw [e]
  have hF:=hF h0;have hG:=hG h0;have HR:Hid (yP V s=if (iy V (iW V s)).2.2=0 then (oD (FN (iy V (iW V s)).1 (iy V (iW V s)).2.1) (mZ (FN (iy V (iW V s)).1 (iy V (iW V s)).2.1).C (num (cl (iy V (iW V s)).1.C 0) 6)),0) else ((iy V (iW V s)).1,(iy V (iW V s)).2.2)):=by
   show _=_;unfold yP;rw [au h0]
  have hfe:iW V s=((aY (cl V.C 5)).getD i ze).first:=by unfold iW;rw [e];rfl
  rw [e] at He;dsimp only at He;have Hl:Hid (∀ W,aN W v Cv Lv V→_):=fun W hW=>J6 W v Cv Lv V hW h5;have hel:=Df (cl V.C 5);have hle:=zU (aY (cl V.C 5));have Hx:Hid (∀ W,_):=fun W=>QL W (aY (cl V.C 5)) hel i om;have KX:Hid (∀ W,aN W v Cv Lv V→_):=fun W hW=>af0 W v Cv Lv V hW h5 hC hL (iW V s) hF;obtain ⟨q1,q2,q3,q4⟩:=af2 V (iW V s) hC h5 hF;generalize iy V (iW V s)=R at*;rw [hfe] at KX;obtain ⟨V1,n,er⟩:=R;dsimp only at q1 q2 q3 q4 HR KX hG;clear e h0 hF hfe;generalize (aY (cl V.C 5)).getD i ze=ent at*;generalize aY (cl V.C 5)=E at*
  go_enter Tryz.func55,Tryz.ntmps55
  go_wp2_with fail
  refine He.mono ?_;rintro e w1 ⟨rfl,hb1⟩;have E1:=ah ((Env.start H).later hb1);clear hb1 He
  go_wp2_with fail
  refine (uh Hl _ E1.at').mono ?_;rintro e w2 ⟨rfl,hb2⟩;have E2:=ah (E1.later hb2);have hx2:=uh Hx w2;clear hb2 Hl E1 Hx
  go_wp2_with fail
  refine (uh KX _ E2.at').mono ?_;rintro e w3 ⟨rfl,C3,L3,hS3⟩;have E3:=ah (E2.fQ hS3);clear hS3 KX E2 hx2
  by_cases her:er=0
  ·subst her;have hG:=hG rfl;have hR:Hid (yP V s=(oD (FN V1 n) (mZ (FN V1 n).C (num (cl V1.C 0) 6)),0)):=by show _=_;rw [uh HR,au rfl]
   have HD:Hid (FN V1 n=fJ (bT V1 0 (fE (num (cl V1.C 0) 4) n))):=rfl;have Hh:Hid (∀ W C1 L1,aN W v C1 L1 V1→_):=fun W C1 L1 hW=>IJ W v C1 L1 V1 hW om;have hnl:=iD (cl V1.C 0) 4;have HPh:Hid (∀ W C1 L1,aN W v C1 L1 V1→_):=fun W C1 L1 hW=>acC W v C1 L1 V1 hW (num (cl V1.C 0) 4) n om om om om;have hpL:=tZ V1 0 (fE (num (cl V1.C 0) 4) n);have TK:=yN V1 0 (fE (num (cl V1.C 0) 4) n);generalize fE (num (cl V1.C 0) 4) n=hb at*;have Ir:Hid (∀ W C1 L1,aN W v C1 L1 (bT V1 0 hb)→_):=fun W C1 L1 hW=>zL W v C1 L1 (bT V1 0 hb) hW om;have hfL:=yD (bT V1 0 hb);have hfC:(fJ (bT V1 0 hb)).C.length=(bT V1 0 hb).C.length:=by rw [zK]
   rw [← uh HD] at Ir hfL hfC;generalize bT V1 0 hb=V2 at*;generalize FN V1 n=V3 at*;generalize num (cl V1.C 0) 6=old at*;generalize num (cl V1.C 0) 4=cc at*;have O8:Hid (∀ W C1 L1 bv bt,aN W v C1 L1 V3→_→_→_→_→_):=fun W C1 L1 bv bt hW=>ahp v V3 om hG.len om old hG.own hG.all W C1 L1 bv bt hW;generalize oD V3 (mZ V3.C old)=V4 at*;clear hG HR HD
   go_wp2_with fail
   refine (uh Hh _ _ _ E3.at').mono ?_;rintro e w4 ⟨rfl,hb4⟩;have E4:=(E3.later hb4).lay (.cells (hv cc old).toArray 128);have c4:(w4.alloc (.cells (hv cc old).toArray 128)).cell? ⟨w4.heap.size,1,none⟩=some (.int .i64 (old:Nat)):=(aG E4.o0 1).trans rfl;have f4:=eG E4.o0;have E5:=(E3.later hb4).lay (.cells ((hv cc old).set 1 (.int .i64 (n:Nat))).toArray 128);have l1:=fD E5.o0 (n:=2) (by rw [rG];exact sD _ _);have l2:dI (w4.alloc (.cells ((hv cc old).set 1 (.int .i64 (n:Nat))).toArray 128)) w4.heap.size 0 2=hv cc n:=(fG E5.o0 (n:=2) (by rw [rG];exact sD _ _)).trans rfl;have E5:=ah E5;clear hb4 Hh E3 E4
   go_wp2_with fail
   refine (uh HPh _ _ _ E5.at').mono ?_;rintro e w6 ⟨rfl,C6,L6,hS6⟩;have E6:=ah (E5.fQ hS6);clear hS6 HPh E5 l1 l2 c4 f4
   go_wp2_with fail
   refine (uh Ir _ _ _ E6.at').mono ?_;rintro e w7 ⟨rfl,C7,L7,hS7⟩;have E7:=((E6.fQ hS7).lay (.cells #[.pointer (some ⟨v,0,none⟩)] 82)).lay (.cells #[.int .i64 (old:Nat)] 3);simp only [jB] at E7;have Hm:=ah (abp w7 v old);have E7:=ah E7;clear hS7 Ir E6
   go_wp2_with fail
   refine Hm.mono ?_;rintro e w8 ⟨rfl,rfl⟩;have Hg:=ah (uh O8 _ _ _ _ _ E7.at' E7.o1 E7.o0 E7.n0 E7.n1);clear O8 Hm
   go_wp2_with fail
   refine Hg.mono ?_;rintro e w9 ⟨rfl,C9,L9,hS9⟩;have ES:=ah (E7.fQ hS9).step;clear hS9 E7 Hg;go_wp2;go_ret;rw [uh hR];exact ⟨rfl,_,_,uh ES⟩
  ·have hR:Hid (yP V s=(V1,er)):=by show _=_;rw [uh HR,ak her]
   have de:(((er:Nat):Int) != 0)=true:=by rw [nR];omega
   have ES:=ah E3.step;clear E3 HR;go_wp2;go_ret;rw [uh hR];exact ⟨rfl,_,_,uh ES⟩
theorem aob (w:World) (d v:Nat) (Cv Lv:Value) (V:aB) (h:pq w d v Cv Lv V) (h5:5<V.C.length) (hC:V.C.length≤256) (hL:V.L.length≤400000000) (hF:gJ V (num (cl V.C 0) 6)) (s:ByteArray) (hs:s.size≤maxLen):
  Calls Tryz.prog 17 #[.pointer (some ⟨d,0,none⟩),.string s] w fun e w'=>e= .returned (.int .i64 ((xg V s).2:Nat))∧ ∃ C1 L1,bZ w w' v Cv Lv C1 L1 (xg V s).1:=by
 have Hm:=ah (G8 _ d v Cv Lv V h);have c0:=h.c0;have Hw:=ah (au2 w v Cv Lv V h.bP h5 hC hL hF s hs);clear h hF;generalize xg V s=R at*;obtain ⟨R1,R2⟩:=R;dsimp only at Hw ⊢
 go_enter Tryz.func17,Tryz.ntmps17
 go_wp2_with fail
 refine Hm.mono ?_;rintro e w1 ⟨rfl,rfl⟩
 go_wp2_with fail
 refine Hw.mono ?_;rintro e w2 ⟨rfl,C2,L2,hS2⟩;have ES:=ah hS2;clear hS2 Hw Hm;go_wp2;go_ret;exact ⟨rfl,C2,L2,uh ES⟩
theorem aoa (w:World) (d v:Nat) (Cv Lv:Value) (V:aB) (h:pq w d v Cv Lv V) (h5:5<V.C.length) (hC:V.C.length≤256) (hL:V.L.length≤400000000) (s:ByteArray) (hs:s.size≤maxLen)
  (hF:(nT V s).2=0→gJ V (iW V s))
  (hG:(nT V s).2=0→(iy V (iW V s)).2.2=0→Jy (FN (iy V (iW V s)).1 (iy V (iW V s)).2.1) (num (cl (iy V (iW V s)).1.C 0) 6)):
  Calls Tryz.prog 28 #[.pointer (some ⟨d,0,none⟩),.string s] w fun e w'=>e= .returned (.int .i64 ((yP V s).2:Nat))∧ ∃ C1 L1,bZ w w' v Cv Lv C1 L1 (yP V s).1:=by
 have Hm:=ah (G8 _ d v Cv Lv V h);have c0:=h.c0;have Hw:=ah (au1 w v Cv Lv V h.bP h5 hC hL s hs hF hG);clear h hF hG;generalize yP V s=R at*;obtain ⟨R1,R2⟩:=R;dsimp only at Hw ⊢
 go_enter Tryz.func28,Tryz.ntmps28
 go_wp2_with fail
 refine Hm.mono ?_;rintro e w1 ⟨rfl,rfl⟩
 go_wp2_with fail
 refine Hw.mono ?_;rintro e w2 ⟨rfl,C2,L2,hS2⟩;have ES:=ah hS2;clear hS2 Hw Hm;go_wp2;go_ret;exact ⟨rfl,C2,L2,uh ES⟩
theorem an5 (w:World) (d v:Nat) (Cv Lv:Value) (V:aB) (h:pq w d v Cv Lv V) (h5:5<V.C.length) (hC:V.C.length≤256) (hL:V.L.length≤400000000) (s:ByteArray) (hs:s.size≤maxLen)
  (hG:(nT V s).2=0→Jy (Ar V (nT V s).1.toNat) (iW V s)):
  Calls Tryz.prog 29 #[.pointer (some ⟨d,0,none⟩),.string s] w fun e w'=>e= .returned (.int .i64 ((Aq V s).2:Nat))∧ ∃ C1 L1,bZ w w' v Cv Lv C1 L1 (Aq V s).1:=by
 have Hm:=ah (G8 _ d v Cv Lv V h);have c0:=h.c0;have Hw:=ah (auP w v Cv Lv V h.bP h5 hC hL s hs hG);clear h hG;generalize Aq V s=R at*;obtain ⟨R1,R2⟩:=R;dsimp only at Hw ⊢
 go_enter Tryz.func29,Tryz.ntmps29
 go_wp2_with fail
 refine Hm.mono ?_;rintro e w1 ⟨rfl,rfl⟩
 go_wp2_with fail
 refine Hw.mono ?_;rintro e w2 ⟨rfl,C2,L2,hS2⟩;have ES:=ah hS2;clear hS2 Hw Hm;go_wp2;go_ret;exact ⟨rfl,C2,L2,uh ES⟩
end
section
attribute [local go_sem ↓] dw fP fZ LK Ou OH Ns SL Xe VN Wq VP
attribute [local go_sem] dK fO fV gK gy aV MF Oj Ol QJ Yh Ye QK
theorem eP.Yn {w:World} {d:Nat} {Pv:Value} {C:List aj} {L:List jQ} (h:eP w d Pv ⟨C,L⟩) {C':List aj} (hC:ug C'):eP (w.setCells d 0 (aQ C')) d Pv ⟨C',L⟩:=by
 have hk:Kept (fun x=>x=d) w (w.setCells d 0 (aQ C')):=Kept.AP _ _ _ _;refine ⟨?_,bQ hk h.row (fun g hg=>h.neP g hg),hC,h.yM⟩
 have:=JY (aQ C') 0 w d _ _ _ h.aF
 rw [this]
 congr 2
 show lU (aQ C++[Pv]).toArray 0 (aQ C')=(aQ C'++[Pv]).toArray;exact Oo _ _ _ (by have h1:=h.cont.flat;have h2:=hC.flat;simp only at h1;omega)
def MC (D:dY) (s:ByteArray):dY × Nat:=if (pK D s).2=0 then (⟨(iT D.L (pK D s).1.toNat).C,D.L⟩,0) else (D,(pK D s).2)
theorem asv (w:World) (d:Nat) (Pv:Value) (D:dY) (h:eP w d Pv D) (h4:D.L.length≤1000) (s:ByteArray) (hs:s.size≤maxLen):
  Calls Tryz.prog 121 #[.pointer (some ⟨d,0,none⟩),.string s] w fun e w'=>e= .returned (.int .i64 ((MC D s).2:Nat))∧eP w' d Pv (MC D s).1∧Kept (fun x=>x=d) w w':=by
 obtain ⟨C,L⟩:=D;have Ht:=ah (adt w d Pv ⟨C,L⟩ h h4 s hs);have H:=ah h;obtain ⟨a,cap,BL⟩:=iq h.row;subst BL;simp only at h4;have HR:Hid (MC ⟨C,L⟩ s=if (pK ⟨C,L⟩ s).2=0 then (⟨(iT L (pK ⟨C,L⟩ s).1.toNat).C,L⟩,0) else (⟨C,L⟩,(pK ⟨C,L⟩ s).2)):=rfl;clear h;rcases (show (∃ m,m≠0∧pK ⟨C,L⟩ s=(-1,m))∨ ∃ i,i<L.length∧pK ⟨C,L⟩ s=(((i:Nat):Int),0) by
  rcases ads ⟨C,L⟩ s with (e | e) | ⟨i,hi,e⟩
  ·exact aA ⟨2,dc,e⟩
  ·exact aA ⟨4,dc,e⟩
  ·exact ay ⟨i,hi,e⟩) with ⟨m,hm,e⟩ | ⟨i,hi,e⟩
 ·rw [e,ak hm] at HR;rw [e] at Ht;dsimp only at Ht HR;have d0:(((m:Nat):Int) == 0)=false:=by rw [lI];omega
  clear e
  go_enter Tryz.func121,Tryz.ntmps121
  go_wp2_with fail
  refine Ht.mono ?_;rintro e w1 ⟨rfl,hb1⟩;have H1:=ah (H.below hb1);have HK:Hid (Kept (fun x=>x=d) w w1):=⟨hb1.os,hb1.tape,hb1.output,hb1.size,fun k hk _=>hb1.block k hk⟩;clear hb1 Ht;go_wp2;go_ret;rw [uh HR];exact ⟨rfl,uh H1,uh HK⟩
 ·rw [e,au rfl] at HR;rw [e] at Ht;dsimp only at Ht HR;rw [vC] at HR;have hii:(i:Int)<(L.length:Int):=om;obtain ⟨g2,cap2,e2,_⟩:=gB H.row (show 0<L.length by omega);obtain ⟨rfl,rfl⟩:a=some ⟨g2,0,none⟩∧cap=cap2:=by injection e2 with x1 x2 x3;exact ⟨x1,x3⟩
  clear e e2
  go_enter Tryz.func121,Tryz.ntmps121
  go_wp2_with fail
  refine Ht.mono ?_;rintro e w1 ⟨rfl,hb1⟩;have H1:=H.below hb1;have hpc:=H1.yM _ (LY hi);have rg:=arR (LZ H1.row H1.yM i hi);have c1:w1.cell? ⟨d,4096,none⟩=some (.slice (some ⟨g2,0,none⟩) L.length cap):=H1.wQ;have r1:=sV (n:=4096) rg hpc.flat;have r2:=qX (n:=4096) rg hpc.flat;have th:=iI H1.aF 0 4096 (by have:=H1.cont.flat;simp only at this;simp [vZ,this]);have hA:=hpc.all;have hl:=hpc.len;generalize (iT L i).C=C' at*;have H2:=ah (H1.Yn hpc);have HK:Hid (Kept (fun x=>x=d) w (w1.setCells d 0 (aQ C'))):=(show Kept (fun x=>x=d) w w1 from ⟨hb1.os,hb1.tape,hb1.output,hb1.size,fun k hk _=>hb1.block k hk⟩).trans (Kept.AP w1 d 0 (aQ C'));clear hb1 Ht H1 rg;go_wp2;go_ret;rw [uh HR];exact ⟨rfl,uh H2,uh HK⟩
def Ku (Ps:List jQ) (k:Nat):List (List UInt8):=(Ps.take k).map (·.name)
theorem arP (Ps:List jQ) (k:Nat) (hk:k<Ps.length):Ku Ps (k+1)=Ku Ps k++[(iT Ps k).name]:=by
 unfold Ku iT;rw [yU hk,rE,aK,bI hk];rfl
theorem asq (w:World) (d:Nat) (Pv:Value) (D:dY) (h:eP w d Pv D) (h4:D.L.length≤1000):
  Calls Tryz.prog 128 #[.pointer (some ⟨d,0,none⟩)] w fun e w'=> ∃ x,e= .returned x∧w'.ownsRow w.heap.size 9 1 x D.L.length (sv (Ku D.L D.L.length))∧aC w w':=by
 obtain ⟨i0,hi0,hz0,hz1,hz2⟩:=qy Tryz.abC;obtain ⟨C,L⟩:=D;obtain ⟨a,cap,BL⟩:=iq h.row;subst BL;have hlt0:=h.lt;simp only at h4;have H:=ah h;clear h
 go_enter Tryz.func128,Tryz.ntmps128
 go_wp2
 go_loopw [3,4] (fun f i w'=> ∃ k:Nat,k≤L.length∧i= .int .i64 k∧w'.ownsRow w.heap.size 9 1 f k (sv (Ku L k))∧aC w w') (fun _ i _=>L.length - (intOf i).toNat)
 case atStart=>exact ⟨0,om,rfl,wF _ _ _ _,bG _ _⟩
 case round=>
  obtain ⟨k,hk,rfl,hrow,hb⟩:=hrel;obtain ⟨fa,yB,rfl⟩:=iq hrow;have hD:=H.below hb;have c0:wr.cell? ⟨d,4096,none⟩=some (.slice a L.length cap):=hD.wQ
  by_cases hlt:k<L.length
  ·obtain ⟨g2,cap2,e2,_⟩:=gB hD.row (show 0<L.length by omega);obtain ⟨rfl,rfl⟩:a=some ⟨g2,0,none⟩∧cap=cap2:=by injection e2 with x1 x2 x3;exact ⟨x1,x3⟩
   have c1:=ajp (LZ hD.row hD.yM k hlt);have hki:(k:Int)<(L.length:Int):=om;have hs:=arP L k hlt;generalize (iT L k).name=nm at*;have fA:=ah hrow;have Hb:=ah hb;clear hrow hb hD e2
   go_wp2_with (at_builtin;refine xZ _ rfl _ _ _ rfl w.heap.size 9 i0 _ 1 16 Tryz.underlying34 hi0 hz0 hz1 hz2 rfl om (.slice fa k yB) k (sv (Ku L k)) rfl (fA.alloc _) ⟨wr.heap.size,0,none⟩ 1 1 [.string (bJ nm)] rfl rfl (pU (cs:= #[.string (bJ nm)]) (t:=9) (fr:=(0,0)) (aW wr _)) (by simp [Value.oneCell']) om (by unfold maxLen;omega) om (by have:=Hb.size;simp;omega) (wr.heap.size+1) sm ?_;intro g5 cap5 w5 hown5 hgrow hat uP)
   have S5:=ah ((Hb.alloc Hb.size (.cells #[.string (bJ nm)] 9)).grown hgrow (by have:=Hb.size;simp;omega) (fun k hk=>(fA.lt k hk).1));go_roundw
   case rel=>exact ⟨k+1,om,gn,by rw [hs,akz];exact hown5,uh S5⟩
   case measure=>exact cO
  ·have hk4:k=L.length:=om;have fA:=ah hrow;have Hb:=ah hb;clear hrow hb hD;rw [hk4] at fA;go_wp2;go_ret;refine ⟨_,rfl,?_,uh Hb⟩
   have:=uh fA
   rw [← hk4] at this ⊢;exact this
def Kz (D:dY) (s:ByteArray):dY × Nat:=
 if oC s.data.toList=false then (D,2) else if 0≤xR D s then (D,3) else if 4≤D.L.length then (D,5) else (⟨D.C,D.L++[⟨s.data.toList,D.C⟩]⟩,0)
structure DStep (w w':World) (d:Nat) (Pv Qv:Value) (D':dY):Prop where
 at':eP w' d Qv D'
 kept:Kept (fun x=>x=d∨Pv.ownBlock=some x) w w'
 new: ∀ g,Qv.ownBlock=some g→Pv.ownBlock=some g∨w.heap.size≤g
theorem DStep.refl {w:World} {d:Nat} {Pv:Value} {D:dY} (h:eP w d Pv D):DStep w w d Pv Pv D:=⟨h,Kept.refl _ _,fun _ hg=>aA hg⟩
theorem asx (w:World) (d:Nat) (Pv:Value) (D:dY) (h:eP w d Pv D) (h4:D.L.length≤1000) (s:ByteArray) (hs:s.size≤maxLen):
  Calls Tryz.prog 119 #[.pointer (some ⟨d,0,none⟩),.string s] w fun e w'=>e= .returned (.int .i64 ((Kz D s).2:Nat))∧ ∃ Qv,DStep w w' d Pv Qv (Kz D s).1:=by
 have Hi:=ah (abD s w hs);have Hf:=ah (acL w d Pv D h h4 s);have HR:Hid (Kz D s=if oC s.data.toList=false then (D,2) else if 0≤xR D s then (D,3) else if 4≤D.L.length then (D,5) else (⟨D.C,D.L++[⟨s.data.toList,D.C⟩]⟩,0)):=rfl;generalize oC s.data.toList=b at*;generalize xR D s=f at*;have H:=ah h;cases b with
 | false=>
  rw [au rfl] at HR;clear h
  go_enter Tryz.func119,Tryz.ntmps119
  go_wp2_with fail
  refine Hi.mono ?_;rintro e w1 ⟨rfl,rfl⟩;go_wp2;go_ret;rw [uh HR];exact ⟨rfl,_,DStep.refl H⟩
 | true=>
  rw [ak dc] at HR
  by_cases hf:0≤f
  ·rw [au hf] at HR;have df:decide (f≥0)=true:=eH hf;clear h
   go_enter Tryz.func119,Tryz.ntmps119
   go_wp2_with fail
   refine Hi.mono ?_;rintro e w1 ⟨rfl,rfl⟩
   go_wp2_with fail
   refine Hf.mono ?_;rintro e w2 ⟨rfl,rfl⟩;go_wp2;go_ret;rw [uh HR];exact ⟨rfl,_,DStep.refl H⟩
  ·rw [ak hf] at HR;have df:decide (f≥0)=false:=gU hf;obtain ⟨C,L⟩:=D;obtain ⟨a,cap,BL⟩:=iq h.row;subst BL;simp only at h4 HR;have c0:w.cell? ⟨d,4096,none⟩=some (.slice a L.length cap):=h.wQ
   by_cases hl:4≤L.length
   ·rw [au hl] at HR;have dl:decide (((L.length:Nat):Int)≥4)=true:=eH om;clear h
    go_enter Tryz.func119,Tryz.ntmps119
    go_wp2_with fail
    refine Hi.mono ?_;rintro e w1 ⟨rfl,rfl⟩
    go_wp2_with fail
    refine Hf.mono ?_;rintro e w2 ⟨rfl,rfl⟩;go_wp2;go_ret;rw [uh HR];exact ⟨rfl,_,DStep.refl H⟩
   ·rw [ak hl] at HR;have dl:decide (((L.length:Nat):Int)≥4)=false:=gU om;obtain ⟨i0,hi0,hz0,hz1,hz2⟩:=qy Tryz.Xa;have l1:dN w.drew d 0 4096:=h.has;have l2:dI w.drew d 0 4096=aQ C:=h.cells;have hA:=h.cont.all;have IL:=h.cont.len;have hpc:ug (⟨s.data.toList,C⟩:jQ).C:=h.cont;have c1:w.drew.cell? ⟨d,4096,none⟩=some (.slice a L.length cap):=h.wQ;have c3: ∀ o,(w.alloc o).drew.cell? ⟨d,4096,none⟩=some (.slice a L.length cap):=fun o=>(MO w o _ h.lt).trans h.wQ;have hbp:=QK (w:=w.drew) (nm:=s.data.toList) hA IL;rw [adH] at hbp;have hrow:=h.row;simp only at hrow;have fA:=ah hrow;have uj:=ah h.neP;have hdl:=h.lt;clear hrow h
    go_enter Tryz.func119,Tryz.ntmps119
    go_wp2_with fail
    refine Hi.mono ?_;rintro e w1 ⟨rfl,rfl⟩
    go_wp2_with fail
    refine Hf.mono ?_;rintro e w2 ⟨rfl,rfl⟩;clear Hi Hf;go_wp2
    go_region_law (
     refine Jq _ (by rfl) _ _ _ (by rfl) 0 139 i0 _ 4097 4112 Tryz.underlying68 hi0 hz0 hz1 hz2 (by rw [show (Value.agg (fM ⟨[],zD⟩).toArray).cells.size=(fM ⟨[],zD⟩).length from by simp [Value.cells]];exact yL (p:=⟨[],zD⟩) ⟨MK,ML⟩) om (.slice a L.length cap) L.length (L.flatMap fM) (by rfl) ((bQ (S:=fun _=>False) ((Kept.refl _ w2).drew) fA (fun _ _=>id)).alloc _) ⟨w2.heap.size,0,none⟩ 1 1 (fM ⟨s.data.toList,C⟩) (by rfl) (by rw [yL hpc]) (pU (cs:=(fM ⟨s.data.toList,C⟩).toArray) (t:=139) (fr:=(0,0)) (aW w2.drew _)) (XP ⟨s.data.toList,C⟩) om (by unfold maxLen;omega) om om (w2.heap.size+1) sm ?_;intro g5 cap5 w5 hown5 hgrow hat uP;have b5:=ah (qH hgrow (H.below (((bG _ w2).drew).alloc (aP _) _)).aF uj);have c5:w5.cell? ⟨d,4096,none⟩=some (.slice a L.length cap):=(aG b5 4096).trans (by rw [← aG H.aF];exact H.wQ);have z5: ∀ i,w5.frozen? ⟨d,i,none⟩=false:=fun i=>eG b5 i)
    all_goals
     have hgn:g5≠d:=by
      rcases hat with x | x
      ·exact uh uj g5 x
      ·omega
     have hD5:eP (w5.setCell ⟨d,4096,none⟩ (.slice (some ⟨g5,0,none⟩) (L.length+1) cap5)) d (.slice (some ⟨g5,0,none⟩) (L.length+1) cap5) ⟨C,L++[⟨s.data.toList,C⟩]⟩:=
      (H.below (((bG _ w2).drew).alloc (aP _) (.cells (fM ⟨s.data.toList,C⟩).toArray 139))).abd (g5:=g5) (cap5:=cap5) hpc uj hgrow hown5 hgn
     have kA:Kept (fun x=>x=d∨(Value.slice a L.length cap).ownBlock=some x) w2 (w2.drew.alloc (.cells (fM ⟨s.data.toList,C⟩).toArray 139)):=((Kept.refl _ _).drew).alloc _;have kB:Kept (fun x=>x=d∨(Value.slice a L.length cap).ownBlock=some x) (w2.drew.alloc (.cells (fM ⟨s.data.toList,C⟩).toArray 139)) w5:=⟨hgrow.os,hgrow.tape,hgrow.output,hgrow.size,fun k hk hs=>hgrow.block k hk (fun e=>hs (ay e.symm))⟩;have kC:Kept (fun x=>x=d∨(Value.slice a L.length cap).ownBlock=some x) w5 (w5.setCell ⟨d,4096,none⟩ (.slice (some ⟨g5,0,none⟩) (L.length+1) cap5)):=(Kept.only w5 d 4096 _).mono (fun _ e=>aA e);have HS:Hid (DStep w2 (w5.setCell ⟨d,4096,none⟩ (.slice (some ⟨g5,0,none⟩) (L.length+1) cap5)) d (.slice a L.length cap) (.slice (some ⟨g5,0,none⟩) (L.length+1) cap5) ⟨C,L++[⟨s.data.toList,C⟩]⟩):=
      ⟨hD5,(kA.trans kB).trans kC,fun g hg=>by
       simp only [Value.ownBlock,jv] at hg;subst hg;rcases hat with x | x
       ·exact aA x
       ·exact ay om⟩
     clear hD5 hgrow hown5 kA kB kC;go_wp2;go_ret;rw [uh HR];exact ⟨rfl,_,uh HS⟩
theorem eP.aqz {w:World} {d:Nat} {Pv Qv:Value} {C:List aj} {L L':List jQ} (h:eP w d Pv ⟨C,L⟩) (hrow:w.ownsRow 0 139 4097 Qv L'.length (L'.flatMap fM)) (hp: ∀ p ∈ L',ug p.C) (hne: ∀ g,Qv.ownBlock=some g→g≠d):
  eP (w.setCell ⟨d,4096,none⟩ Qv) d Qv ⟨C,L'⟩:=by
 have hk:Kept (fun x=>x=d) w (w.setCell ⟨d,4096,none⟩ Qv):=Kept.only _ _ _ _;refine ⟨?_,bQ hk hrow hne,h.cont,hp⟩;rw [heap_setCell_same _ _ _ _ _ _ _ h.aF]
 congr 2
 have hf:=h.cont.flat;simp only at hf;show (aQ C++[Pv]).toArray.setIfInBounds 4096 Qv=(aQ C++[Qv]).toArray;rw [Af,Jv _ _ om,hf];rfl
def BJ (L:List jQ) (a k:Nat):List jQ:=(L.take k).eraseIdx a
theorem aor (L:List jQ) (a:Nat) (ha:a<L.length):BJ L a (a+1)=BJ L a a:=by
 unfold BJ;have hl:(L.take a).length=a:=by simp;omega
 have e1:(L.take a++[L[a]]).eraseIdx a=L.take a:=by
  rw [als om,show a - (L.take a).length=0 by omega]
  simp
 have e2:(L.take a).eraseIdx a=L.take a:=ad5 om;rw [yU ha,e1,e2]
theorem aop (L:List jQ) (a k:Nat) (hk:k<L.length) (hne:k≠a):BJ L a (k+1)=BJ L a k++[iT L k]:=by
 unfold BJ;have hl:(L.take k).length=k:=by simp;omega
 have hp:iT L k=L[k]:=by unfold iT;rw [aK,bI hk];rfl
 rw [yU hk,hp]
 by_cases h:a<k
 ·rw [alu om]
 ·rw [als om,ad5 (l:=L.take k) om,ad5 (by simp;omega)]
theorem aoq (L:List jQ) (a k:Nat):(BJ L a k).length≤k:=by
 have:=List.length_eraseIdx_le (L.take k) a
 unfold BJ;simp only [xu] at this;omega
structure Vl (w w':World) (d:Nat) (Pv Qv:Value) (D':dY):Prop where
 at':eP w' d Qv D'
 kept:Kept (fun x=>x=d) w w'
 new: ∀ g,Qv.ownBlock=some g→Pv.ownBlock=some g∨w.heap.size≤g
def FM (D:dY) (s:ByteArray):dY × Nat:=if (pK D s).2=0 then (⟨D.C,D.L.eraseIdx (pK D s).1.toNat⟩,0) else (D,(pK D s).2)
theorem asn (w:World) (d:Nat) (Pv:Value) (D:dY) (h:eP w d Pv D) (h4:D.L.length≤1000) (s:ByteArray) (hs:s.size≤maxLen):
  Calls Tryz.prog 65 #[.pointer (some ⟨d,0,none⟩),.string s] w fun e w'=>e= .returned (.int .i64 ((FM D s).2:Nat))∧ ∃ Qv,Vl w w' d Pv Qv (FM D s).1:=by
 obtain ⟨C,L⟩:=D;have Ht:=ah (adt w d Pv ⟨C,L⟩ h h4 s hs);have H:=ah h;obtain ⟨a,cap,BL⟩:=iq h.row;subst BL;simp only at h4;have hdl:=h.lt;have HR:Hid (FM ⟨C,L⟩ s=if (pK ⟨C,L⟩ s).2=0 then (⟨C,L.eraseIdx (pK ⟨C,L⟩ s).1.toNat⟩,0) else (⟨C,L⟩,(pK ⟨C,L⟩ s).2)):=rfl;clear h;rcases (show (∃ m,m≠0∧pK ⟨C,L⟩ s=(-1,m))∨ ∃ i,i<L.length∧pK ⟨C,L⟩ s=(((i:Nat):Int),0) by
  rcases ads ⟨C,L⟩ s with (e | e) | ⟨i,hi,e⟩
  ·exact aA ⟨2,dc,e⟩
  ·exact aA ⟨4,dc,e⟩
  ·exact ay ⟨i,hi,e⟩) with ⟨m,hm,e⟩ | ⟨i,hi,e⟩
 ·rw [e,ak hm] at HR;rw [e] at Ht;dsimp only at Ht HR;have d0:(((m:Nat):Int) != 0)=true:=by rw [nR];omega
  clear e
  go_enter Tryz.func65,Tryz.ntmps65
  go_wp2_with fail
  refine Ht.mono ?_;rintro e w1 ⟨rfl,hb1⟩;have HS:Hid (Vl w w1 d (.slice a L.length cap) (.slice a L.length cap) ⟨C,L⟩):=⟨H.below hb1,Kept.dS hb1,fun g hg=>aA hg⟩;clear hb1 Ht;go_wp2;go_ret;rw [uh HR];exact ⟨rfl,_,uh HS⟩
 ·rw [e,au rfl] at HR;rw [e] at Ht;dsimp only at Ht HR;rw [vC] at HR;obtain ⟨i0,hi0,hz0,hz1,hz2⟩:=qy Tryz.Xa;obtain ⟨g2,cap2,e2,_⟩:=gB H.row (show 0<L.length by omega);obtain ⟨rfl,rfl⟩:a=some ⟨g2,0,none⟩∧cap=cap2:=by injection e2 with x1 x2 x3;exact ⟨x1,x3⟩
  clear e e2
  go_enter Tryz.func65,Tryz.ntmps65
  go_wp2_with fail
  refine Ht.mono ?_;rintro e w1 ⟨rfl,hb1⟩;have B1:=ah hb1;clear hb1 Ht;go_wp2
  go_loopw [7,8] (fun f j w'=> ∃ k:Nat,k≤L.length∧j= .int .i64 k∧w'.ownsRow w.heap.size 139 4097 f (BJ L i k).length ((BJ L i k).flatMap fM)∧aC w w') (fun _ j _=>L.length - (intOf j).toNat)
  case atStart=>exact ⟨0,om,rfl,by rw [show BJ L i 0=[] by simp [BJ]];exact wF _ _ _ _,uh B1⟩
  case round=>
   obtain ⟨k,hk,rfl,hrow,hb⟩:=hrel;obtain ⟨fa,yB,rfl⟩:=iq hrow;have hD:=H.below hb;have c0:wr.cell? ⟨d,4096,none⟩=some (.slice (some ⟨g2,0,none⟩) L.length cap):=hD.wQ;have hel:=aoq L i k
   by_cases hlt:k<L.length
   ·have hki:(k:Int)<(L.length:Int):=om
    by_cases WQ:k=i
    ·subst WQ;have dn:(((k:Nat):Int) != ((k:Nat):Int))=false:=sm;have hs:=aor L k hlt;have fA:=ah hrow;have Hb:=ah hb;clear hrow hb hD;go_wp2;go_roundw
     case rel=>exact ⟨k+1,om,gn,by rw [hs];exact uh fA,uh Hb⟩
     case measure=>exact cO
    ·have dn:(((k:Nat):Int) != ((i:Nat):Int))=true:=by rw [nR];omega
     have rg:=LZ hD.row hD.yM k hlt;have hpc:=hD.yM _ (LY hlt);have m1:=sV (n:=4097) rg (yL hpc);have m2:=qX (n:=4097) rg (yL hpc);have hs:=aop L i k hlt WQ;generalize iT L k=pk at*;have fA:=ah hrow;have Hb:=ah hb;clear hrow hb hD rg;generalize BJ L i k=F at*
     go_wp2_with (at_builtin;refine xZ _ rfl _ _ _ rfl w.heap.size 139 i0 _ 4097 4112 Tryz.underlying68 hi0 hz0 hz1 hz2 (by rw [show (Value.agg (fM ⟨[],zD⟩).toArray).cells.size=(fM ⟨[],zD⟩).length from by simp [Value.cells]];exact yL (p:=⟨[],zD⟩) ⟨MK,ML⟩) om (.slice fa F.length yB) F.length (F.flatMap fM) rfl (fA.alloc _) ⟨wr.heap.size,0,none⟩ 1 1 (fM pk) rfl (by rw [yL hpc]) (pU (cs:=(fM pk).toArray) (t:=139) (fr:=(0,0)) (aW wr _)) (XP pk) om (by unfold maxLen;omega) om (by have:=Hb.size;simp;omega) (wr.heap.size+1) sm ?_;intro g5 cap5 w5 hown5 hgrow hat uP)
     have S5:=ah ((Hb.alloc Hb.size (.cells (fM pk).toArray 139)).grown hgrow (by have:=Hb.size;simp;omega) (fun k hk=>(fA.lt k hk).1));go_roundw
     case rel=>exact ⟨k+1,om,gn,by rw [hs,oO,Rl,qA,OU,rU];exact hown5,uh S5⟩
     case measure=>exact cO
   ·have hk4:k=L.length:=om;have hE:BJ L i k=L.eraseIdx i:=by unfold BJ;rw [hk4,Ij]
    rw [hE] at hrow ⊢;have hne: ∀ g,(Value.slice fa (L.eraseIdx i).length yB).ownBlock=some g→g≠d:=fun g hg=>by have:=(hrow.lt g hg).1;omega
    have f0:=fun j=>eG hD.aF j;have hD2:=hD.aqz (Ci hrow (nN _)) (fun p hp=>hD.yM p (Zm hp)) hne;have HS:Hid (Vl w (wr.setCell ⟨d,4096,none⟩ (.slice fa (L.eraseIdx i).length yB)) d (.slice (some ⟨g2,0,none⟩) L.length cap) (.slice fa (L.eraseIdx i).length yB) ⟨C,L.eraseIdx i⟩):=
     ⟨hD2,(Kept.dS hb).trans (Kept.only wr d 4096 _),fun g hg=>ay (hrow.lt g hg).1⟩
    clear hD2 hD hrow hb hE hel hne;generalize (L.eraseIdx i).length=nl at*;go_wp2;go_ret;rw [uh HR];exact ⟨rfl,_,uh HS⟩
end
end Go.Proofs.YtknjjjenklfeoaaGreatDoor
