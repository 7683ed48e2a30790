import Derived.Test.YtknjjjenklfeoaaGreatDoorO18
set_option maxHeartbeats 8000000
set_option maxRecDepth 100000
set_option linter.all false
namespace Go.Proofs.YtknjjjenklfeoaaGreatDoor
open Go.RowKit
section
attribute [local go_sem ↓] dw fP fZ kS mP mV jJ kJ jY jU lD lH kQ ku kT mQ mW lZ ny jG qc qP qQ qF
attribute [local go_sem] dK fO fV gK gy aV kX mG mM mJ mF gI jK kH jX kZ kW iJ jW lq lC lu kF jc jd lY l7 kG kY mO nI lT mD nH qh qM qO qN qL
attribute [local go_sem] pW pV
def placeOf (V:aB) (n:Int):rV:=dP V.C (num (cl V.C 0) 6) n.toNat
def Jk (V:aB) (n:Int) (data:aj) (Vt Vb:aB):aB × Nat:=
 if kP n=false then (V,1)
 else if (placeOf V n).second<32768 then (if 2≤(dG (aJ V.C) 2).length then (Vt,0) else (V,5))
 else if (placeOf V n).block<32768 then (if 0<(dG (aJ V.C) 1).length then (Vb,0) else (V,5))
 else (fJ (bT V ((placeOf V n).block%32768) data),0)
theorem agz (C:List aj) (first b:Nat):(dP C first b).second<65536∧(dP C first b).block<65536∧ ∀ i,(dP C first b).tab.getD i 0<65536:=by
 unfold dP;dsimp only;refine ⟨iD _ _,?_,?_⟩
 ·split
  ·omega
  ·exact iD _ _
 ·intro i;split
  ·rw [zt,aK,qU];split <;> decide
  ·exact N8 _ _
theorem au3 (w:World) (v:Nat) (Cv Lv:Value) (V Vt Vb:aB) (h:aN w v Cv Lv V) (h5:5<V.C.length) (hC:V.C.length≤256) (hL:V.L.length≤500000000) (n:Int) (data:aj) (hd:data.length=64) (hin:rH V.C (num (cl V.C 0) 6))
  (hT:kP n=true→(placeOf V n).second<32768→2≤(dG (aJ V.C) 2).length→Nh v (uD V (placeOf V n) data) Vt [(placeOf V n).second,(placeOf V n).block])
  (hB:kP n=true→32768≤(placeOf V n).second→(placeOf V n).block<32768→0<(dG (aJ V.C) 1).length→Nh v (uz V (placeOf V n) data) Vb [(placeOf V n).block]):
  Calls Tryz.prog 54 #[.pointer (some ⟨v,0,none⟩),.int .i64 n,.agg (cv data).toArray] w fun e w'=>e= .returned (.int .i64 ((Jk V n data Vt Vb).2:Nat))∧ ∃ C1 L1,bZ w w' v Cv Lv C1 L1 (Jk V n data Vt Vb).1:=by
 have E0:=(Env.start h).lay (.cells (cv data).toArray 38);have Hi:=ah (ak1 n (w.alloc (.cells (cv data).toArray 38)));have HW:Hid (Jk V n data Vt Vb=if kP n=false then (V,1) else if (placeOf V n).second<32768 then (if 2≤(dG (aJ V.C) 2).length then (Vt,0) else (V,5)) else if (placeOf V n).block<32768 then (if 0<(dG (aJ V.C) 1).length then (Vb,0) else (V,5)) else (fJ (bT V ((placeOf V n).block%32768) data),0)):=rfl;cases hb:kP n with
 | false=>
  rw [hb] at Hi HW;rw [au rfl] at HW;have HS:=ah E0.step;clear E0 hT hB
  go_enter Tryz.func54,Tryz.ntmps54
  go_wp2_with fail
  refine Hi.mono ?_;rintro e w1 ⟨rfl,rfl⟩;go_wp2;go_ret;rw [uh HW];exact ⟨rfl,Cv,Lv,uh HS⟩
 | true=>
  rw [hb] at Hi HW;rw [ak dc] at HW;have hn:0≤n∧n<64:=by simpa [kP] using hb
  obtain ⟨k,rfl⟩:=CP hn.1;have hk:k<64:=om;have hT:=hT hb;have hB:=hB hb;have hpo:placeOf V (k:Int)=dP V.C (num (cl V.C 0) 6) k:=by unfold placeOf;rw [vC]
  rw [hpo] at hT hB HW;have Hh:=ah (IJ _ v Cv Lv V E0.at' om);have hn6:=iD (cl V.C 0) 6;have HFi:Hid (∀ W,aN W v Cv Lv V→_):=fun W hW=>agD W v Cv Lv V hW (num (cl V.C 0) 6) k hin.at' hk (fun h0=>hin.second (k / 32) om h0);have htl:=aa0 V.C (num (cl V.C 0) 6) k;obtain ⟨hl1,hl2,hl3⟩:=agz V.C (num (cl V.C 0) 6) k;have hpf:(dP V.C (num (cl V.C 0) 6) k).first<V.C.length:=hin.at';have hpi:(dP V.C (num (cl V.C 0) 6) k).AA<32:=by unfold dP;dsimp only;omega
  have hpj:(dP V.C (num (cl V.C 0) 6) k).oM<32:=by unfold dP;dsimp only;omega
  have hpc:(dP V.C (num (cl V.C 0) 6) k).second≠0→(dP V.C (num (cl V.C 0) 6) k).second%32768<V.C.length:=fun h0=>hin.second (k / 32) om h0;have hpb:(dP V.C (num (cl V.C 0) 6) k).block≠0→(dP V.C (num (cl V.C 0) 6) k).block%32768<V.C.length:=by
   intro h0;unfold dP at h0 ⊢;dsimp only at h0 ⊢
   split at h0
   ·exact absurd rfl h0
   ·rename_i hx;rw [ak hx];exact hin.block (k / 32) om hx (k%32) om
  have zpl:zp.tab.length=32:=gI;have H:=ah h;have E0:=ah E0;clear hb hn h hpo hin;generalize dP V.C (num (cl V.C 0) 6) k=p at*;generalize num (cl V.C 0) 6=first at*;generalize num (cl V.C 0) 4=cc at*;have HM1:Hid (∀ W,_):=fun W=>Xr p.second hl1 W;have HM2:Hid (∀ W,_):=fun W=>Xr p.block hl2 W
  go_enter Tryz.func54,Tryz.ntmps54
  go_wp2_with fail
  refine Hi.mono ?_;rintro e w1 ⟨rfl,rfl⟩
  go_wp2_with fail
  refine Hh.mono ?_;rintro e w1 ⟨rfl,hb1⟩;have E1:=ah (E0.later hb1)
  go_wp2_with fail
  refine (uh HFi _ E1.at').mono ?_;rintro e w2 ⟨rfl,hb2⟩;have E2:=(E1.later hb2).lay (.cells (iP p).toArray 171);have c3:(w2.alloc (.cells (iP p).toArray 171)).cell? ⟨w2.heap.size,3,none⟩=some (.int .u16 (p.second:Nat)):=(vX w2 _ _ _ 3).trans rfl;have c4:(w2.alloc (.cells (iP p).toArray 171)).cell? ⟨w2.heap.size,4,none⟩=some (.int .u16 (p.block:Nat)):=(vX w2 _ _ _ 4).trans rfl;have l1:=fD E2.o0 (n:=37) (AQ p htl);have l2:=fG E2.o0 (n:=37) (AQ p htl);have l3:=gZ E2.o1 hd;have l4:=gY E2.o1 hd;have E2:=ah E2;clear hb1 hb2 E1 Hh Hi HFi E0
  go_wp2_with fail
  refine (uh HM1 _).mono ?_;rintro e w3 ⟨rfl,rfl⟩
  by_cases hs:p.second<32768
  ·rw [au hs] at HW;rw [show decide (32768≤p.second)=false by simp;omega];have Hw:=ah (ave _ v Cv Lv V Vt E2.at' h5 hC hL p htl hl3 hpf hpi hpj data hd (hT hs))
   by_cases hf:2≤(dG (aJ V.C) 2).length
   ·simp only [au hf] at Hw HW;clear hT hB HM1 HM2 c3 c4
    go_wp2_with fail
    refine Hw.mono ?_;rintro e w4 ⟨rfl,C4,L4,hS4⟩;have E4:=ah (E2.fQ hS4).step;go_wp2;go_ret;rw [uh HW];exact ⟨rfl,C4,L4,uh E4⟩
   ·simp only [ak hf] at Hw HW;clear hT hB HM1 HM2 c3 c4
    go_wp2_with fail
    refine Hw.mono ?_;rintro e w4 ⟨rfl,hb4⟩;have E4:=ah (E2.later hb4).step;go_wp2;go_ret;rw [uh HW];exact ⟨rfl,Cv,Lv,uh E4⟩
  ·rw [ak hs] at HW;rw [show decide (32768≤p.second)=true by simp;omega]
   go_wp2_with fail
   refine (uh HM2 _).mono ?_;rintro e w3 ⟨rfl,rfl⟩
   by_cases hbk:p.block<32768
   ·rw [au hbk] at HW;rw [show decide (32768≤p.block)=false by simp;omega];have Hw:=ah (avd _ v Cv Lv V Vb E2.at' h5 hC hL p hl1 (hpc om) hpj data hd (hB om hbk))
    by_cases hf:0<(dG (aJ V.C) 1).length
    ·simp only [au hf] at Hw HW;clear hT hB HM1 HM2 c3 c4
     go_wp2_with fail
     refine Hw.mono ?_;rintro e w4 ⟨rfl,C4,L4,hS4⟩;have E4:=ah (E2.fQ hS4).step;go_wp2;go_ret;rw [uh HW];exact ⟨rfl,C4,L4,uh E4⟩
    ·simp only [ak hf] at Hw HW;clear hT hB HM1 HM2 c3 c4
     go_wp2_with fail
     refine Hw.mono ?_;rintro e w4 ⟨rfl,hb4⟩;have E4:=ah (E2.later hb4).step;go_wp2;go_ret;rw [uh HW];exact ⟨rfl,Cv,Lv,uh E4⟩
   ·rw [ak hbk] at HW;rw [show decide (32768≤p.block)=true by simp;omega];have avT:=hpb om;have RG:Hid (∀ W,_):=fun W=>BH p.block hl2 W;generalize p.block%32768=bc at*;have hpL:=tZ V bc data;have HP:Hid (∀ W C1 L1,aN W v C1 L1 V→_):=fun W C1 L1 hW=>FK W v C1 L1 V hW bc om data hd om om;generalize bT V bc data=V2 at*;have HF:Hid (∀ W C1 L1,aN W v C1 L1 V2→_):=fun W C1 L1 hW=>zL W v C1 L1 V2 hW om;have c4':(w2.alloc (.cells (iP p).toArray 171)).drew.cell? ⟨w2.heap.size,4,none⟩=some (.int .u16 (p.block:Nat)):=c4;have m3:=gZ E2.drew.o1 hd;have m4:=gY E2.drew.o1 hd;clear hT hB HM1 HM2 l1 l2 l3 l4;go_wp2
    go_region_law (first
     | (
      go_simp;go_at_call 108;refine (uh RG _).mono ?_;rintro e w5 ⟨rfl,rfl⟩)
     | (
      go_simp;go_at_call 70;refine (uh HP _ _ _ E2.drew.at').mono ?_;rintro e w5 ⟨rfl,C5,L5,hS5⟩;have E5:=ah (E2.drew.fQ hS5);clear hS5))
    all_goals
     clear m3 m4 c3 c4 c4' HP RG
     go_wp2_with fail
     refine (uh HF _ _ _ E5.at').mono ?_;rintro e w6 ⟨rfl,C6,L6,hS6⟩;have E6:=ah (E5.fQ hS6).step;go_wp2;go_ret;rw [uh HW];exact ⟨rfl,C6,L6,uh E6⟩
end
section
attribute [local go_sem ↓] dw fP fZ kS mP mV jJ kJ jY jU lD lH kQ ku kT mQ mW lZ ny jG qc qP qQ qF
attribute [local go_sem] dK fO fV gK gy aV kX mG mM mJ mF gI jK kH jX kZ kW iJ jW lq lC lu kF jc jd lY l7 kG kY mO nI lT mD nH qh qM qO qN qL
theorem aod (w:World) (d v:Nat) (Cv Lv:Value) (V Vt Vb:aB) (h:pq w d v Cv Lv V) (h5:5<V.C.length) (hC:V.C.length≤256) (hL:V.L.length≤500000000) (n:Int) (data:aj) (hd:data.length=64) (hin:rH V.C (num (cl V.C 0) 6))
  (hT:kP n=true→(placeOf V n).second<32768→2≤(dG (aJ V.C) 2).length→Nh v (uD V (placeOf V n) data) Vt [(placeOf V n).second,(placeOf V n).block])
  (hB:kP n=true→32768≤(placeOf V n).second→(placeOf V n).block<32768→0<(dG (aJ V.C) 1).length→Nh v (uz V (placeOf V n) data) Vb [(placeOf V n).block]):
  Calls Tryz.prog 26 #[.pointer (some ⟨d,0,none⟩),.int .i64 n,.agg (cv data).toArray] w fun e w'=>e= .returned (.int .i64 ((Jk V n data Vt Vb).2:Nat))∧ ∃ C1 L1,bZ w w' v Cv Lv C1 L1 (Jk V n data Vt Vb).1:=by
 have E0:=(Env.start h.bP).lay (.cells (cv data).toArray 38);have h1:=h.below ((bG _ w).alloc (aP _) (.cells (cv data).toArray 38));have Hm:=ah (G8 _ d v Cv Lv V h1);have c0:(w.alloc (.cells (cv data).toArray 38)).drew.cell? ⟨d,0,none⟩=some (.pointer (some ⟨v,0,none⟩)):=h1.c0;have l1:=gZ E0.drew.o0 hd;have l2:=gY E0.drew.o0 hd;have Hw:=ah (au3 _ v Cv Lv V Vt Vb E0.drew.at' h5 hC hL n data hd hin hT hB);have E0:=ah E0;clear h h1 hT hB;generalize Jk V n data Vt Vb=R at*;obtain ⟨R1,R2⟩:=R;dsimp only at Hw ⊢
 go_enter Tryz.func26,Tryz.ntmps26
 go_wp2_with fail
 refine Hm.mono ?_;rintro e w1 ⟨rfl,rfl⟩;go_wp2
 go_region_law (
  go_simp;go_at_call 54;refine Hw.mono ?_;rintro e w2 ⟨rfl,C2,L2,hS2⟩;have E2:=ah (E0.drew.fQ hS2).step;clear hS2)
 all_goals
  go_wp2;refine gV (Zh rfl _ _ _) rfl ?_;exact ⟨rfl,C2,L2,uh E2⟩
end
section
def XV (V:aB):Option (Nat × aj)→aB
 | some x=>bT V x.1 x.2
 | none=>fJ V
def Um (V:aB) (l:List (Option (Nat × aj))):aB:=l.foldl XV V
def iF (V V':aB):Prop:= ∃ l,V'=Um V l
theorem iF.refl (V:aB):iF V V:=⟨[],rfl⟩
theorem iF.put {V V1:aB} (h:iF V V1) (n:Nat) (data:aj):iF V (bT V1 n data):=by
 obtain ⟨l,rfl⟩:=h;exact ⟨l++[some (n,data)],by simp [Um,XV]⟩
theorem iF.flush {V V1:aB} (h:iF V V1):iF V (fJ V1):=by
 obtain ⟨l,rfl⟩:=h;exact ⟨l++[none],by simp [Um,XV]⟩
theorem iF.keeps {V V':aB} (k:iF V V') (Ok:aB→Prop) (hp: ∀ V n d,Ok V→Ok (bT V n d)) (hf: ∀ V,Ok V→Ok (fJ V)) (h:Ok V):Ok V':=by
 obtain ⟨l,rfl⟩:=k;unfold Um
 induction l generalizing V with
 | nil=>exact h
 | cons x r ih=>
  refine ih ?_;cases x with
  | none=>exact hf _ h
  | some y=>exact hp _ _ _ h
structure yY (base:List aj) (V:aB):Prop where
 some:V.short=true→0<V.C.length
 rep:replay base V.L=V.C
 low: ∀ x ∈ V.L,x.cl<(V.C.length:Int)
 tail:V.loose=false→V.L=[]∨ ∃ l,V.L=l++[Gw]
theorem acM (base:List aj) (L:List iU) (x:iU):replay base (L++[x])=I7 (replay base L) x:=by simp [replay]
theorem atv (C:List aj) (n:Nat) (h:n<C.length):C.set n (cl C n)=C:=by
 apply uH;intro i;rw [uf]
 by_cases e:n=i
 ·subst e;rw [au rfl,au h,cl,aK,bI h];rfl
 ·rw [ak e]
theorem aoP (C:List aj) (n:Nat) (h:n≤C.length):oW C n=C:=by
 unfold oW;rw [show n - C.length=0 by omega]
 simp
theorem yY.complete {base:List aj} {V:aB} (h:yY base V):yY base (l9 V):=by
 unfold l9
 by_cases hs:V.short=true
 ·have hp:=h.some hs;rw [au hs];refine ⟨fun e=>(by cases e),?_,fun x hx=> ?_,fun e=>(by cases e)⟩
  ·show replay base (V.L++[⟨((V.C.length - 1:Nat):Int),cl V.C (V.C.length - 1)⟩])=V.C;rw [acM,h.rep,I7,ak sm];show (oW V.C (((V.C.length - 1:Nat):Int).toNat+1)).set ((V.C.length - 1:Nat):Int).toNat (cl V.C (V.C.length - 1))=V.C;rw [vC,aoP _ _ om,atv _ _ om]
  ·rcases gq.1 (show x ∈ V.L++[⟨((V.C.length - 1:Nat):Int),cl V.C (V.C.length - 1)⟩] from hx) with y | y
   ·exact h.low x y
   ·rw [jw.1 y];show ((V.C.length - 1:Nat):Int)<(V.C.length:Int);omega
 ·rw [ak hs];exact h
theorem yY.put {base:List aj} {V:aB} (h:yY base V) (n:Nat) (data:aj):yY base (bT V n data):=by
 unfold bT
 by_cases hc:n<V.C.length∧cl V.C n=data
 ·rw [au hc];exact h
 ·rw [ak hc];have hC:=h.complete;have el:(Ia V n data).C.length=max V.C.length (n+1):=by simp only [Ia,rG,Dj]
  refine ⟨fun e=>(by cases e),?_,fun x hx=> ?_,fun hl=>(by cases hl)⟩
  rotate_left
  ·have hx':x ∈ (l9 V).L++[⟨n,data⟩]:=hx;rw [el];rcases gq.1 hx' with y | y
   ·have:=hC.low x y
    rw [Iz] at this;omega
   ·rw [jw.1 y];show ((n:Nat):Int)<_;omega
  show replay base ((l9 V).L++[⟨n,data⟩])=_;rw [acM,hC.rep,Iz,I7,ak sm];rfl
theorem yY.flush {base:List aj} {V:aB} (h:yY base V):yY base (fJ V):=by
 unfold fJ
 by_cases hc:V.loose=true
 ·rw [au hc];refine ⟨h.some,?_,fun x hx=> ?_,fun _=>ay ⟨V.L,rfl⟩⟩
  rotate_left
  ·rcases gq.1 (show x ∈ V.L++[Gw] from hx) with y | y
   ·exact h.low x y
   ·rw [jw.1 y];show (-1:Int)<_;omega
  show replay base (V.L++[Gw])=_;rw [acM,h.rep,I7,au dc]
 ·rw [ak hc];exact h
theorem yY.o7 {base:List aj} {V V':aB} (h:yY base V) (k:iF V V'):yY base V':=
 k.keeps (yY base) (fun _ n d h=>h.put n d) (fun _ h=>h.flush) h
theorem SQ (V:aB):(fJ V).loose=false:=by
 unfold fJ
 by_cases hc:V.loose=true
 ·rw [au hc]
 ·rw [ak hc];simpa using hc
theorem XZ {V V1:aB} (h:iF V V1) (k:List UInt8) (p:Nat):iF V (kU V1 k p):=by
 induction p with
 | zero=>exact h
 | succ p ih=>exact ih.put _ _
theorem ajE {V V1:aB} (h:iF V V1) (t i n:Nat):iF V (Ce V1 t i n):=h.put _ _
theorem acH {V V1:aB} (h:iF V V1) (F:List Nat):iF V (dQ V1 F):=by
 unfold dQ;split
 ·exact (h.put _ _).flush
 ·exact h
theorem ajD {V V1:aB} (h:iF V V1) (F:List Nat):iF V (wR V1 F):=XZ (acH h F) _ _
theorem ajG {V V1:aB} (h:iF V V1) (p:rV) (data:aj):iF V (uz V1 p data):=(ajE ((ajD h _).put _ _).flush _ _ _).flush
theorem ajH {V V1:aB} (h:iF V V1) (p:rV) (data:aj):iF V (uD V1 p data):=(ajE (((ajD h _).put _ _).put _ _).flush _ _ _).flush
theorem ajF {V V1:aB} (h:iF V V1) (ch:Nat→Nat) (ts:List Nat):iF V (qY ch V1 ts):=by
 unfold qY
 induction ts generalizing V1 with
 | nil=>exact h
 | cons t r ih=>exact ih (h.put _ _)
theorem ar5 {V V1:aB} (h:iF V V1) (k:List UInt8) (fs:List Nat):iF V (wz k V1 fs):=by
 unfold wz
 induction fs generalizing V1 with
 | nil=>exact h
 | cons f r ih=>exact ih (ajF h _ _)
theorem Ky {V V1:aB} (h:iF V V1) (us:List Nat):iF V (oD V1 us):=(ar5 (XZ h _ 4).flush _ _).flush
theorem ar6:iF EG zf:=(((((XZ (iF.refl EG) _ 4).put _ _).put _ _).flush).put _ _).flush
theorem ap5:yY [] EG:=⟨fun e=>(by cases e),rfl,fun x hx=>(by cases hx),fun _=>aA rfl⟩
theorem ap4:yY [] zf:=ap5.o7 ar6
theorem aqJ:zf.loose=false:=SQ _
theorem atp (k:List UInt8) (p:Nat) (c:aj) (hk:k.length=256) (hc:c.length=64) (hp:p<4) (j:Nat):(Oq k p c)[j]? = if j<64*p then k[j]? else if j<64*p+64 then c[j - 64*p]? else k[j]? := by
 unfold Oq;have hl:(k.take (64*p)).length=64*p:=by rw [xu,hk];omega
 rw [uG,List.getElem?_append,hl]
 by_cases h1:j<64*p
 ·rw [au h1,au h1,Jp,au h1]
 ·rw [ak h1,ak h1,List.getElem?_append,hc]
  by_cases h2:j<64*p+64
  ·rw [au h2,au om]
  ·rw [ak h2,ak om,OI]
   congr 1
   omega
theorem afR (C:List aj) (hl: ∀ c ∈ C,c.length=64) (h5:5≤C.length): ∀ k,k≤4→ ∀ j,j<64*k→(JM C k)[j]? = (cl C (1+j / 64))[j%64]?
 | 0,_,j,hj=>om
 | k+1,hk,j,hj=>by
  rw [JM,atp _ _ _ (VX C hl h5 k om) (iM hl om) om]
  by_cases h1:j<64*k
  ·rw [au h1];exact afR C hl h5 k om j h1
  ·rw [ak h1,au om,show j / 64=k by omega,show j%64=j - 64*k by omega]
theorem Gq {C:List aj} (hl: ∀ c ∈ C,c.length=64) (h5:5≤C.length) (n:Nat) (hn:n<256):aI (aJ C) n=aS C n:=by
 unfold aI aS aJ aI;rw [aK,afR C hl h5 4 om n om,aK]
theorem anK {c d:aj} (hc:c.length=64) (hd:d.length=64) (h: ∀ i,i<32→num c (2*i)=num d (2*i)):c=d:=by
 have hb: ∀ i,i<32→aI c (2*i)=aI d (2*i)∧aI c (2*i+1)=aI d (2*i+1):=fun i hi=>by
  have h0:=h i hi;have h1:=tV c (2*i+1);have h2:=tV d (2*i+1);unfold num at h0;omega
 refine UY (by rw [hc,hd]) fun j h1 h2=> ?_;have hj:aI c j=aI d j:=by
  obtain ⟨x,y⟩:=hb (j / 2) om
  by_cases e:j%2=0
  ·rw [show j=2*(j / 2) by omega];exact x
  ·rw [show j=2*(j / 2)+1 by omega];exact y
 unfold aI at hj;rw [aK,aK,bI h1,bI h2] at hj;exact OW.1 hj
section
variable {L:List aj} {rs:List bC}
end
def bY (L:List aj) (t b:Nat):Nat:=if num (cl L t) (2*(b / 32))=0 then 0 else num (cl L (num (cl L t) (2*(b / 32))%32768)) (2*(b%32))
def Jc (L:List aj) (t i:Nat):wL:=if num (cl L t) (2*i)=0 then [] else (num (cl L t) (2*i)%32768,2) :: tY L (num (cl L t) (2*i)%32768) 32 0
theorem ars (L:List aj) (t:Nat):uq L t 32 0=Jc L t 0++(Jc L t 1++uq L t 30 2):=rfl
def zX (ts:wL) (n:Nat):Nat:=(ts.map (·.1)).count n
theorem acg (a b:wL) (n:Nat):zX (a++b) n=zX a n+zX b n:=by unfold zX;rw [rE,Ik]
theorem ace {L:List aj} {t b:Nat} (h:bY L t b≠0):num (cl L t) (2*(b / 32))≠0∧bY L t b=num (cl L (num (cl L t) (2*(b / 32))%32768)) (2*(b%32)):=by
 unfold bY at h ⊢
 by_cases e:num (cl L t) (2*(b / 32))=0
 ·rw [au e] at h;exact absurd rfl h
 ·rw [ak e];exact ⟨e,rfl⟩
theorem Lm (L:List aj) (t b:Nat):tN L t b=if bY L t b=0 then zc else cl L (bY L t b%32768):=by
 unfold tN bY
 by_cases h0:num (cl L t) (2*(b / 32))=0
 ·rw [au h0,au h0,au rfl]
 ·rw [ak h0,ak h0]
theorem VR (L:List aj) (n:Nat) (data:aj) (t:Nat) (hn:n<L.length):cl (L.set n data) t=if n=t then data else cl L t:=by
 unfold cl;rw [aK,uf]
 by_cases e:n=t
 ·subst e;rw [au rfl,au hn,au rfl];rfl
 ·rw [ak e,ak e,aK]
theorem D8 (L:List aj) (t b:Nat) (hb:b<64):(dZ L t)[b]? = some (tN L t b):=by
 unfold dZ;rw [jD,x9 hb];rfl
theorem Fb (L:List aj) (t:Nat):(dZ L t).length=64:=by unfold dZ;simp
def yZ (e:aX):aj:=UInt8.ofNat (e.first / 256) :: UInt8.ofNat (e.first%256) :: (e.name++List.replicate (14 - e.name.length) 0)
def jm (E:List aX):List aX:=E++List.replicate (4 - E.length) ze
def nG (E:List aX):aj:=(jm E).flatMap yZ
structure O6 (e:aX):Prop where
 name:oC e.name=true
 pos:e.first≠0
 lt:e.first<65536
structure iL (E:List aX):Prop where
 len:E.length≤4
 all: ∀ e ∈ E,O6 e
 nodup:(E.map (·.name)).Nodup
theorem ab6 {l:List UInt8} (h:oC l=true):1≤l.length∧l.length≤12:=by
 unfold oC at h;simp at h;omega
theorem aiT {l:List UInt8} (h:oC l=true): ∀ b ∈ l,b≠0:=by
 intro b hb e;unfold oC at h;rw [vU,Rw] at h
 have:=h.1 b hb
 rw [e] at this;revert this
 decide
theorem O6.le {e:aX} (h:O6 e):e.name.length≤12:=(ab6 h.name).2
theorem agl {e:aX} (h:e.name.length≤12):(yZ e).length=16:=by simp [yZ];omega
theorem XL {E:List aX} (h:E.length≤4):(jm E).length=4:=by simp [jm];omega
theorem arF {E:List aX} {e:aX} (h:e ∈ jm E):e ∈ E∨e=ze:=by
 rcases gq.1 h with x | x
 ·exact aA x
 ·exact ay (KT x)
theorem iL.short {E:List aX} (h:iL E): ∀ e ∈ jm E,e.name.length≤12:=by
 intro e he;rcases arF he with x | x
 ·exact (h.all e x).le
 ·rw [x];decide
theorem agH: ∀ E:List aX,(∀ e ∈ E,e.name.length≤12)→(E.flatMap yZ).length=16*E.length
 | [],_=>rfl
 | e :: r,h=>by
  rw [qA,oO,agl (h e sm),agH r (fun x hx=>h x (by simp [hx])),iQ];omega
theorem agG: ∀ (E:List aX),(∀ e ∈ E,e.name.length≤12)→ ∀ i,i<E.length→ ∀ j,j<16→(E.flatMap yZ).getD (16*i+j) 0=(yZ (E.getD i ze)).getD j 0
 | [],_,i,hi,_,_=>by simp at hi
 | e :: r,h,i,hi,j,hj=>by
  have hl:=agl (h e sm);rw [qA,aK];cases i with
  | zero=>rw [oJ om,aK];simp
  | succ i=>
   have ih:=agG r (fun x hx=>h x (by simp [hx])) i (by simpa using hi) j hj;rw [nP (by rw [hl];omega),hl,show 16*(i+1)+j - 16=16*i+j by omega,← aK,ih];rfl
section
variable {E:List aX}
theorem iL.length (h:iL E):(nG E).length=64:=by
 unfold nG;rw [agH _ h.short,XL h.len]
theorem iL.get (h:iL E) (i:Nat) (hi:i<4) (j:Nat) (hj:j<16):(nG E).getD (16*i+j) 0=(yZ ((jm E).getD i ze)).getD j 0:=
 agG _ h.short i (by rw [XL h.len];exact hi) j hj
theorem Dq (i:Nat) (hi:i<E.length):(jm E).getD i ze=E.getD i ze:=by
 unfold jm;rw [aK,oJ hi,aK]
theorem Qz (i:Nat) (hi:E.length≤i):(jm E).getD i ze=ze:=by
 unfold jm;rw [aK,nP hi,qU]
 split <;> rfl
theorem iL.at (h:iL E) (i:Nat):(jm E).getD i ze=ze∨(i<E.length∧O6 ((jm E).getD i ze)):=by
 by_cases hi:i<E.length
 ·right
  refine ⟨hi,?_⟩;rw [Dq i hi];apply h.all;rw [aK,bI hi];exact oP hi
 ·exact aA (Qz i om)
theorem iL.lt (h:iL E) (i:Nat):((jm E).getD i ze).first<65536:=by
 rcases h.at i with x | ⟨_,x⟩
 ·rw [x];decide
 ·exact x.lt
theorem iL.num (h:iL E) (i:Nat) (hi:i<4):num (nG E) (16*i)=((jm E).getD i ze).first:=by
 have hlt:=h.lt i;have h0:=h.get i hi 0 om;have h1:=h.get i hi 1 om;rw [jL] at h0;unfold Go.Proofs.YtknjjjenklfeoaaGreatDoor.num aI;rw [h0,h1];show 256*(UInt8.ofNat (((jm E).getD i ze).first / 256)).toNat+(UInt8.ofNat (((jm E).getD i ze).first%256)).toNat=_;rw [MN,MN];omega
theorem agm (e:aX) (j:Nat):(yZ e).getD (j+2) 0=e.name.getD j 0:=by
 show (e.name++List.replicate (14 - e.name.length) 0).getD j 0=_;rw [aK,aK]
 by_cases hj:j<e.name.length
 ·rw [oJ hj]
 ·rw [nP om,qU,eu (show e.name.length≤j by omega)]
  split <;> rfl
theorem iL.byte (h:iL E) (i:Nat) (hi:i<4) (j:Nat) (hj:j<14):(nG E).getD (16*i+2+j) 0=((jm E).getD i ze).name.getD j 0:=by
 rw [OL,Bh 2 j,h.get i hi (j+2) om,agm]
theorem aiQ (c:aj) (a:Nat) (acc:List UInt8): ∀ m i,(∀ j,i≤j→j<i+m→c.getD (a+j) 0=0)→y9 c a m i true acc=some acc
 | 0,_,_=>rfl
 | m+1,i,h=>by
  rw [y9,au (by unfold aI;rw [h i om om];rfl)];exact aiQ c a acc m (i+1) (fun j h1 h2=>h j om om)
theorem toNat_ne {b:UInt8} (h:b≠0):b.toNat≠0:=fun e=>h (OW.1 (by simpa using e))
theorem aiP (c:aj) (a:Nat) (s:List UInt8) (hs: ∀ b ∈ s,b≠0) (h: ∀ j,j<12→c.getD (a+j) 0=s.getD j 0): ∀ m i,i+m=12→i≤s.length→s.length≤12→y9 c a m i false (s.take i)=some s
 | 0,i,h1,h2,h3=>by rw [y9,Js om]
 | m+1,i,h1,h2,h3=>by
  rw [y9]
  by_cases hi:i<s.length
  ·have e:c.getD (a+i) 0=s[i]:=by rw [h i om,aK,bI hi];rfl
   have hne:=toNat_ne (hs _ (oP hi));rw [ak (by unfold aI;rw [e];exact hne),ak dc,e,← yU hi];exact aiP c a s hs h m (i+1) om om h3
  ·have hz: ∀ j,i≤j→j<12→c.getD (a+j) 0=0:=fun j k1 k2=>by rw [h j k2,aK,eu om];rfl
   rw [au (by unfold aI;rw [hz i om om];rfl),Js om];exact aiQ c a s m (i+1) (fun j k1 k2=>hz j om om)
theorem iL.nameOf (h:iL E) (i:Nat) (hi:i<E.length):nameOf (nG E) (16*i+2)=((E.getD i ze).name,true):=by
 have h4:=h.len;have ok:O6 (E.getD i ze):=by
  rcases h.at i with x | ⟨_,x⟩
  ·rw [Dq i hi] at x
   have:=h.all (E.getD i ze) (by rw [aK,bI hi];exact oP hi)
   exact this
  ·rw [Dq i hi] at x;exact x
 have e:=aiP (nG E) (16*i+2) (E.getD i ze).name (aiT ok.name) (fun j hj=>by rw [h.byte i om j om,Dq i hi]) 12 0 om om ok.le;unfold Go.Proofs.YtknjjjenklfeoaaGreatDoor.nameOf;rw [List.take_zero] at e;rw [e];simp only;rw [ok.name]
def kV (e:aX):bC:=⟨e.first,5,e.name⟩
theorem aiS (Q:List bC) (s:List UInt8): ∀ m k,(∀ j,k≤j→j<k+m→(Q.getD j ⟨0,0,[]⟩).name≠s)→Cb Q s m k=false
 | 0,_,_=>rfl
 | m+1,k,h=>by rw [Cb,ak (h k om om)];exact aiS Q s m (k+1) (fun j h1 h2=>h j om om)
theorem iL.zero (h:iL E) (i:Nat) (hi:i<4) (hE:E.length≤i):uX (nG E) 16 (16*i)=true:=by
 have hb: ∀ j,j<16→aI (nG E) (16*i+j)=0:=fun j hj=>by
  unfold aI;rw [h.get i hi j hj,Qz i hE]
  have: ∀ j:Fin 16,((yZ ze).getD j.val 0).toNat=0:=dc
  exact this ⟨j,hj⟩
 have key: ∀ m k,k+m=16→uX (nG E) m (16*i+k)=true:=by
  intro m
  induction m with
  | zero=>intro k _;rfl
  | succ m ih=>
   intro k hk;rw [uX,au (hb k om),OL];exact ih (k+1) om
 exact key 16 0 rfl
theorem iL.ah7 (h:iL E) (Q:List bC): ∀ m i over,i+m=4→E.length≤i→qJ (nG E) m i over Q=(true,Q)
 | 0,_,_,_,_=>rfl
 | m+1,i,over,h1,h2=>by
  rw [qJ,au (by rw [h.num i om,Qz i h2];rfl),au (h.zero i om h2)];exact h.ah7 Q m (i+1) true om om
theorem iL.qJ (h:iL E) (r0:bC): ∀ m i,i+m=4→i≤E.length→Go.Proofs.YtknjjjenklfeoaaGreatDoor.qJ (nG E) m i false (r0 :: (E.take i).map kV)=(true,r0 :: E.map kV)
 | 0,i,h1,h2=>by rw [Go.Proofs.YtknjjjenklfeoaaGreatDoor.qJ,Js (by have:=h.len;omega)]
 | m+1,i,h1,h2=>by
  by_cases hi:i<E.length
  ·have hE:E.getD i ze=E[i]:=by rw [aK,bI hi];rfl
   have ok:O6 E[i]:=h.all _ (oP hi);have hn:=h.nameOf i hi;have hnum:Go.Proofs.YtknjjjenklfeoaaGreatDoor.num (nG E) (16*i)=E[i].first:=by rw [h.num i om,Dq i hi,hE]
   have hbad:LD (nG E) i false=false:=by
    unfold LD;rw [hn];have e1:aI (nG E) (16*i+14)=0:=by
     unfold aI;rw [show 16*i+14=16*i+2+12 by omega,h.byte i om 12 om,Dq i hi,hE,aK,eu (by have:=ok.le;omega)];rfl
    have e2:aI (nG E) (16*i+15)=0:=by
     unfold aI;rw [show 16*i+15=16*i+2+13 by omega,h.byte i om 13 om,Dq i hi,hE,aK,eu (by have:=ok.le;omega)];rfl
    rw [e1,e2];rfl
   have hin:Cb (r0 :: (E.take i).map kV) E[i].name ((r0 :: (E.take i).map kV).length - 1) 1=false:=by
    refine aiS _ _ _ _ fun j k1 k2=> ?_;have hj:j - 1<i:=by simp at k2;omega
    obtain ⟨q,rfl⟩: ∃ q,j=q+1:=⟨j - 1,om⟩;rw [Jt,aK,jD,Rj om,bI om];show E[q].name≠E[i].name;intro e;have hnd:=h.nodup;rw [adU,adV,adW] at hnd;exact hnd q i om hi om e
   rw [Go.Proofs.YtknjjjenklfeoaaGreatDoor.qJ,ak (by rw [hnum];exact ok.pos),hbad,hn];simp only [hE,Bg,yc,hin];rw [hnum];have e:(r0 :: (E.take i).map kV)++[⟨E[i].first,5,E[i].name⟩]=r0 :: (E.take (i+1)).map kV:=by
    rw [yU hi,rE];rfl
   rw [e];exact h.qJ r0 m (i+1) om om
  ·rw [Js om];exact h.ah7 _ (m+1) i false h1 om
theorem an3 (s:List UInt8) (k:Nat) (hs: ∀ b ∈ s,b≠0):qo (s++List.replicate k 0)=s.length:=by
 have h1: ∀ k,Lib.indexByte (List.replicate k (0:UInt8)) 0=if k=0 then -1 else 0:=fun k=>by
  cases k with
  | zero=>rfl
  | succ k=>simp [UU,Lib.indexByte]
 have key: ∀ s:List UInt8,(∀ b ∈ s,b≠0)→Lib.indexByte (s++List.replicate k 0) 0=if k=0 then -1 else (s.length:Int):=by
  intro s
  induction s with
  | nil=>intro _;rw [ql,h1];split <;> rfl
  | cons b r ih=>
   intro hs
   have:=ih (fun x hx=>hs x (by simp [hx]))
   have hb:(b == (0:UInt8))=false:=by simpa using hs b sm
   rw [sO,Lib.indexByte,hb,this]
   by_cases hk:k=0
   ·simp [hk]
   ·have hne:(((r.length:Nat):Int) == -1)=false:=by rw [lI];omega
    simp only [hk,yc,hne,Bg,iQ];omega
 unfold qo zeroAt;rw [key s hs]
 by_cases hk:k=0
 ·rw [au hk,ak dc,hk];simp
 ·rw [ak hk,au om];simp
theorem iL.Ea (h:iL E) (i:Nat) (hi:i<4):Ea (nG E) i=(jm E).getD i ze:=by
 have hl:=h.length;have hshort:((jm E).getD i ze).name.length≤12:=by
  rcases h.at i with x | ⟨_,x⟩
  ·rw [x];decide
  ·exact x.le
 have hlet: ∀ b ∈ ((jm E).getD i ze).name,b≠0:=by
  rcases h.at i with x | ⟨_,x⟩
  ·rw [x];intro b hb;cases hb
  ·exact aiT x.name
 have e:nameBytes (nG E) i=((jm E).getD i ze).name++List.replicate (12 - ((jm E).getD i ze).name.length) 0:=by
  unfold nameBytes;apply uH;intro j
  by_cases hj:j<12
  ·have hb:=h.byte i hi j om;rw [Rj hj,OI,bI om];rw [aK,bI om,aK] at hb;simp only [KR] at hb;rw [hb]
   by_cases hn:j<((jm E).getD i ze).name.length
   ·rw [oJ hn,bI hn];rfl
   ·rw [nP om,qU,au om,eu om];rfl
  ·rw [eu (by rw [xu];omega),eu (by rw [oO,zy];omega)]
 unfold Go.Proofs.YtknjjjenklfeoaaGreatDoor.Ea;rw [e,an3 _ _ hlet,adQ,h.num i hi]
theorem iL.aY (h:iL E):aY (nG E)=jm E:=by
 apply uH;intro i;unfold Go.Proofs.YtknjjjenklfeoaaGreatDoor.aY;rw [jD]
 by_cases hi:i<4
 ·rw [x9 hi,EM,h.Ea i hi,aK,bI (by rw [XL h.len];exact hi)];rfl
 ·rw [eu (by simpa using hi),eu (by rw [XL h.len];omega)];rfl
theorem ahZ (h:iL E): ∀ m k,k+m=4→k≤E.length→BQ (jm E) m k=E.length
 | 0,k,h1,h2=>by rw [BQ];have:=h.len;omega
 | m+1,k,h1,h2=>by
  rw [BQ]
  by_cases hk:k<E.length
  ·rw [ak]
   ·exact ahZ h m (k+1) om om
   ·rcases h.at k with x | ⟨_,x⟩
    ·rw [Dq k hk] at x ⊢;exact (h.all (E.getD k ze) (by rw [aK,bI hk];exact oP hk)).pos
    ·exact x.pos
  ·rw [au (by rw [Qz k om];rfl)];omega
theorem iL.lenOf (h:iL E):lenOf (jm E)=E.length:=ahZ h 4 0 rfl (nN _)
theorem arH:(jm E).take E.length=E:=by unfold jm;rw [adQ]
theorem iL.zZ {C:List aj} (h:iL E) (hc:cl C 5=nG E):zZ C=E.map (·.first):=by
 unfold Go.Proofs.YtknjjjenklfeoaaGreatDoor.zZ;rw [hc,h.aY,h.lenOf,arH]
end
theorem aoQ {l:List aj} {n:Nat} (h:n≤l.length):oW l n=l:=by
 unfold oW;rw [show n - l.length=0 by omega]
 simp
theorem afF {l:List aj} (n t:Nat) (ht:t<l.length):cl (oW l n) t=cl l t:=by
 unfold cl oW;rw [aK,oJ ht,aK]
theorem atu {l:List aj} {n:Nat} (h:n<l.length):l.set n (cl l n)=l:=by
 apply uH;intro i;rw [uf]
 by_cases e:n=i
 ·subst e;rw [au rfl,au h,cl,aK,bI h];rfl
 ·rw [ak e]
theorem Ul (V:aB) (n:Nat) (d:aj):(bT V n d).C=(oW V.C (n+1)).set n d:=by
 unfold bT
 by_cases hc:n<V.C.length∧cl V.C n=d
 ·rw [au hc,aoQ om,← hc.2,atu hc.1]
 ·rw [ak hc];rfl
theorem aav (V:aB) (n:Nat) (d:aj):cl (bT V n d).C n=d:=by
 rw [Ul,VR _ _ _ _ (by rw [Dj];omega),au rfl]
theorem SE (V:aB) (n:Nat) (d:aj) (t:Nat) (ht:t<V.C.length) (hne:n≠t):cl (bT V n d).C t=cl V.C t:=by
 rw [Ul,VR _ _ _ _ (by rw [Dj];omega),ak hne,afF _ _ ht]
theorem ajx {V:aB} (k:List UInt8) (h5:5≤V.C.length): ∀ p,p≤4→(kU V k p).C.length=V.C.length
 | 0,_=>rfl
 | p+1,hp=>by
  rw [kU,yN,ajx k h5 p om];omega
theorem afH {V:aB} (k:List UInt8) (h5:5≤V.C.length) (t:Nat) (ht:t<V.C.length): ∀ p,p≤4→cl (kU V k p).C t=if 1≤t∧t≤p then partOf k (t - 1) else cl V.C t
 | 0,_=>by rw [ak om];rfl
 | p+1,hp=>by
  have ih:=afH k h5 t ht p om;rw [kU]
  by_cases e:1+p=t
  ·subst e;rw [aav,au om,show 1+p - 1=p by omega]
  ·rw [SE _ _ _ _ (by rw [ajx k h5 p om];exact ht) e,ih]
   by_cases h1:1≤t∧t≤p
   ·rw [au h1,au om]
   ·rw [ak h1,ak om]
theorem afz (k:List UInt8) (n:Nat):aI (partOf k (n / 64)) (n%64)=aI k n:=by
 unfold aI partOf;rw [aK,Rj om,OI,aK]
 congr 3
 omega
theorem aaq (m:Nat): ∀ (F:List Nat) (k:List UInt8),k.length=256→(∀ n ∈ F,n<256)→aI (fU k F) m=if m ∈ F then 1 else aI k m
 | [],k,_,_=>by simp [fU]
 | a :: r,k,hk,hF=>by
  have ih:=aaq m r (k.set a 1) (by simpa using hk) (fun n hn=>hF n (by simp [hn]));have e:fU k (a :: r)=fU (k.set a 1) r:=rfl;rw [e,ih]
  by_cases hm:m ∈ r
  ·rw [au hm,au (by simp [hm])]
  ·rw [ak hm,Aj _ _ _ _ (by have:=hF a sm;omega)]
   by_cases ha:a=m
   ·subst ha;rw [au rfl,au sm];rfl
   ·rw [ak ha,ak (by simp [hm];exact fun x=>ha x.symm)]
theorem Qh (c:List UInt8) (want:Nat): ∀ k,∀ n ∈ oG c want k,aI c n=0
 | 0,n,hn=>by simp [oG] at hn
 | k+1,n,hn=>by
  rw [oG] at hn
  split at hn
  ·exact Qh c want k n hn
  ·split at hn
   ·rename_i _ h0;rcases gq.1 hn with h | h
    ·exact Qh c want k n h
    ·rw [jw.1 h];exact h0
   ·exact Qh c want k n hn
theorem Xk (c:List UInt8) (want:Nat): ∀ k,(oG c want k).Pairwise (· < ·)
 | 0=>by simp [oG]
 | k+1=>by
  rw [oG];split
  ·exact Xk c want k
  ·split
   ·rw [List.pairwise_append];refine ⟨Xk c want k,sm,fun a ha b hb=> ?_⟩;rw [jw.1 hb];exact Ub c want k a ha
   ·exact Xk c want k
theorem NW {c:List UInt8} (h:0<(dG c 1).length): ∃ n,dG c 1=[n]∧n<256∧aI c n=0:=by
 have h1:(dG c 1).length≤1:=(NY c 1 256).1;obtain ⟨n,hn⟩:=List.length_eq_one_iff.1 (show (dG c 1).length=1 by omega);exact ⟨n,hn,Xj c 1 n (by rw [hn];simp),Qh c 1 256 n (by show n ∈ dG c 1;rw [hn];simp)⟩
theorem abR {c:List UInt8} (h:2≤(dG c 2).length): ∃ s n,dG c 2=[s,n]∧s<n∧n<256∧aI c s=0∧aI c n=0:=by
 have h1:(dG c 2).length≤2:=(NY c 2 256).1;obtain ⟨s,n,hn⟩: ∃ s n,dG c 2=[s,n]:=by
  match hl:dG c 2,(show (dG c 2).length=2 by omega) with
  | [s,n],_=>exact ⟨s,n,rfl⟩
 have hp:=Xk c 2 256;have hp':(dG c 2).Pairwise (· < ·):=hp;rw [hn] at hp';exact ⟨s,n,hn,by simpa using hp',Xj c 2 n (by rw [hn];simp),Qh c 2 256 s (by show s ∈ dG c 2;rw [hn];simp),Qh c 2 256 n (by show n ∈ dG c 2;rw [hn];simp)⟩
theorem ait (c:List UInt8) (want:Nat): ∀ k,(oG c want k).length<want→(oG c want k).length=bF (fun m=>aI c m == 0) k
 | 0,_=>rfl
 | k+1,h=>by
  rw [oG] at h ⊢;simp only [bF]
  split at h
  ·omega
  ·rename_i hw;rw [ak hw];have hk:=(NY c want k).1;have ih:=ait c want k om
   split at h
   ·rename_i h0;rw [au h0,au (by simpa using h0),oO,ih];rfl
   ·rename_i h0;rw [ak h0,ak (by simpa using h0),ih];rfl
end
end Go.Proofs.YtknjjjenklfeoaaGreatDoor
