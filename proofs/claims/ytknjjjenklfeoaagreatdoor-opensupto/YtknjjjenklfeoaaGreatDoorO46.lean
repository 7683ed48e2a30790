import Derived.Test.YtknjjjenklfeoaaGreatDoorO43
set_option maxHeartbeats 8000000
set_option maxRecDepth 100000
set_option linter.all false
namespace Go.Proofs.YtknjjjenklfeoaaGreatDoor
open Go.RowKit
theorem dO.atj {w:World} {p:Nat} {P:gW} {S:Nat→Prop} (h:dO w p P S) (x:Bool):dO (w.setCell ⟨p,3,none⟩ (.bool x)) p { P with ex:=x } S:=by
 have hk:=Kept.only w p 3 (.bool x);have key: ∀ {k:Nat} {cs:Array Value} {t:TypeId} {fr:Nat × Nat},w.heap[k]? = some (.cells cs t fr)→t≠107→k≠p:=by
  intro k cs t fr hb h1 e;subst e;exact h1 (Pz hb h.aF)
 have uQ: ∀ {base:Nat} {e:TypeId} {size:Nat} {v:Value} {n:Nat} {xs:List Value},w.ownsRow base e size v n xs→e≠107→ ∀ g,v.ownBlock=some g→g≠p:=by
  intro base e size v n xs hr' h1 g hg;obtain ⟨cs,fr,hb⟩:=KE hr' hg;exact key hb h1
 refine ⟨?_,h.iV.kept hk ?_,h.ref.kept hk (key h.ref.aF dc) (uQ h.ref.row dc),h.Dx.kept hk (uQ h.Dx.row dc),bQ hk h.Dy (uQ h.Dy dc),fun m hm=>(h.eM m hm).kept hk (key (h.eM m hm).aF dc) (uQ (h.eM m hm).row dc),h.LM,h.JG,h.zQ,h.BN,h.J3,h.iC,h.BO,fun k hk'=>iZ (h.lt k hk') hk.size⟩
 ·rw [heap_setCell_same _ _ _ _ _ _ _ h.aF];rfl
 ·rintro k (e | e | e | e)
  ·rw [e];exact key h.iV.aF dc
  ·rw [e];exact key h.iV.bP.aF dc
  ·exact uQ h.iV.bP.jA dc k e
  ·exact uQ h.iV.bP.fF dc k e
theorem bD.asE {base:List aj} {V:aB} {N0:Nat} {E:List aX} (h:bD base V N0 E):(Aa V).L.length≤V.L.length+100:=by
 obtain ⟨_,e2⟩:=h.ajS;obtain ⟨o1,o2,o3⟩:=h.complete;have h1:=o1.TT o2 o3;have h2:(l9 V).L.length≤V.L.length+1:=by
  unfold l9;split
  ·show (V.L++[_]).length≤_;simp
  ·omega
 rw [e2];omega
theorem asF {w w1:World} {p:Nat} {P:gW} {S:Nat→Prop} {N0:Nat} {E:List aX} {C1 L1:Value} (h:dO w p P S) (hst:pF P N0 E) (hs:bZ w w1 P.v P.Cv P.Lv C1 L1 (Aa P.V)):
  pF { P with Cv:=C1,Lv:=L1,V:=Aa P.V,ex:=true } N0 E∧MW w (w1.setCell ⟨p,3,none⟩ (.bool true)) p P S { P with Cv:=C1,Lv:=L1,V:=Aa P.V,ex:=true } (fun k=>S k∨eX P.v C1 L1 k):=by
 have hm:=hst.bP.aiJ;have apg:=hst.bP.asE;have hk:=(h.adb hs).trans ((Kept.only w1 p 3 (.bool true)).mono (T:=S) fun k e=>by rw [e];exact h.zQ);have hat:=(h.step hs).atj true;have hnew:=h.QS hs;have hv:=hm.bP;have hd:=hm.holds.trans hst.nS;have hx:=hm.exact;clear hm;generalize Aa P.V=V1 at*;exact ⟨⟨hv,hd,fun _=>hx⟩,hat,rfl,rfl,apg,hk,hnew⟩
theorem atN (w:World) (p b:Nat) (P:gW) (S U:Nat→Prop) (N0:Nat) (E:List aX) (V:ou) (B:lX) (h:dO w p P S) (hst:pF P N0 E) (hb:iK w b V B U) (pX: ∀ k,S k→ ¬ U k) (hL:P.V.L.length≤300000000) (hBl:P.B.length≤1000) (hms:P.ms.length≤1000000000) (o:nZ) (hk:o.kind=11):
  Calls Tryz.prog 34 (CB p b o) w fun e w'=>e= .returned (.tuple #[.pointer (some ⟨p,0,none⟩),.bool true])∧Ends w w' p b P S B U:=by
 unfold CB;have ck:=LW w o;have hj:=Qe hk;have hg:=hst.bP;have h7:=hg.file.seven;have h8:=hg.file.most;have Hf:Hid (∀ f ∈ bK P.V,gJ P.V f):=fun f hf=>by rw [hg.Au] at hf;exact hg.sound.Di hf
 have Hf2:=ah hg.aiJ.Au;have H:=ah (h.below (sW w o));have HB:=ah hb;have HS:=ah hst;have c0:=H.c0;clear h hst hk hb hg
 go_enter Tryz.func34,Tryz.ntmps34
 go_wp2_with fail
 refine (an9 _ _ _ _ _ P.V H.iV om h8 om Hf Hf2).mono ?_;rintro e w1 ⟨rfl,C1,L1,hs⟩;obtain ⟨hS1,hD1⟩:=asF H HS hs;have HS1:=ah hS1;have H1:=ah hD1.agZ;have c3:=(H.step hs).c3;have z3:=(H.step hs).fz 3;have hl1:(Aa P.V).L.length≤P.V.L.length+100:=hD1.log;clear hs hS1 hD1 ck c0;generalize hP1:({ P with Cv:=C1,Lv:=L1,V:=Aa P.V,ex:=true }:gW)=P1 at*;have hl2:P1.V.L.length≤P.V.L.length+100:=by rw [← hP1];exact hl1
 clear hP1;generalize (fun k=>S k∨eX P.v C1 L1 k)=S1 at*
 go_wp2_with fail
 generalize w1.setCell ⟨p,3,none⟩ (.bool true)=w2 at*;refine (UE w2 p P1 S1 N0 E H1.at' HS1 om (by rw [H1.base];exact hBl) (by rw [H1.marks];exact hms)).mono ?_;rintro e w3 ⟨rfl,Mv2,m2,hm2,hd2,S2,h2,k2,n2⟩;have Bv:=ah (H1.ends HS1 HB pX h2 k2 n2);clear h2 k2 n2;go_wp2;go_ret2;exact ⟨rfl,uh Bv⟩
section
attribute [local go_sem] Oper.semAt_some
structure oQ (w:World):Prop where
 err: ∀ g,g<9→ ∃ t v,w.cell? ⟨g,0,none⟩=some (.iface t v)
 typ:w.cell? ⟨5,0,none⟩=some (.iface 246 (.agg #[.pointer (some ⟨10,98,none⟩)]))
theorem oQ.size {w:World} (h:oQ w):9≤w.heap.size:=by
 obtain ⟨t,v,h8⟩:=h.err 8 om;unfold World.cell? at h8;rcases Jw 8 w.heap.size with x | x
 ·omega
 ·rw [OV (show w.heap.size≤(⟨8,0,none⟩:Addr).block from x)] at h8;cases h8
theorem oQ.kept {w w':World} {S:Nat→Prop} (h:oQ w) (hk:Kept S w w') (hs: ∀ k,k<9→ ¬ S k):oQ w':=by
 have h9:=h.size;have key: ∀ g,g<9→w'.cell? ⟨g,0,none⟩=w.cell? ⟨g,0,none⟩:=fun g hg=>by
  unfold World.cell?;rw [show w'.heap[(⟨g,0,none⟩:Addr).block]? = w.heap[(⟨g,0,none⟩:Addr).block]? from hk.block g om (hs g hg)]
 refine ⟨fun g hg=> ?_,?_⟩
 ·rw [key g hg];exact h.err g hg
 ·rw [key 5 om];exact h.typ
theorem oQ.below {w w':World} (h:oQ w) (hb:aC w w'):oQ w':=h.kept (S:=fun _=>False) (Kept.dS hb) (fun _ _=>id)
def kD (c:Nat) (x:Value):Value:= .iface 157 (.agg #[.int .i64 (c:Nat),x])
def isIface (x:Value):Prop:= ∃ t v,x= .iface t v
def rv (M:List Nat):List Value:=M.map fun k=> .int .u8 (k:Nat)
def wC (T:Nat) (M:List Nat):List Value:= .int .i64 (T:Nat) :: rv M
structure uM (w:World) (b T:Nat) (M:List Nat):Prop where
 aF:w.heap[b]? = some (.cells (wC T M).toArray 212 (0,0))
 len:M.length=256
theorem ate (M:List Nat) (i:Nat) (h:i<M.length):(rv M)[i]? = some (.int .u8 ((M.getD i 0:Nat):Int)):=by
 unfold rv;rw [jD,bI h,aK,bI h];rfl
theorem uM.c0 {w:World} {b T:Nat} {M:List Nat} (h:uM w b T M):w.cell? ⟨b,0,none⟩=some (.int .i64 (T:Nat)):=by rw [aG h.aF];rfl
theorem uM.cell {w:World} {b T:Nat} {M:List Nat} (h:uM w b T M) (n:Nat) (hn:n<256):w.cell? ⟨b,1+n,none⟩=some (.int .u8 ((M.getD n 0:Nat):Int)):=by
 rw [aG h.aF,bW,Bh];show (rv M)[n]? = _;exact ate M n (by rw [h.len];exact hn)
theorem uM.fz {w:World} {b T:Nat} {M:List Nat} (h:uM w b T M) (i:Nat):w.frozen? ⟨b,i,none⟩=false:=eG h.aF i
theorem uM.kept {w w':World} {b T:Nat} {M:List Nat} {S:Nat→Prop} (h:uM w b T M) (hk:Kept S w w') (hs: ¬ S b):uM w' b T M:=⟨hk.aF hs h.aF,h.len⟩
theorem uM.below {w w':World} {b T:Nat} {M:List Nat} (h:uM w b T M) (hb:aC w w'):uM w' b T M:=h.kept (S:=fun _=>False) (Kept.dS hb) id
theorem uM.put {w:World} {b T:Nat} {M:List Nat} (h:uM w b T M) (n kind:Nat):uM (w.setCell ⟨b,1+n,none⟩ (.int .u8 (kind:Nat))) b T (M.set n kind):=by
 refine ⟨?_,by simp [h.len]⟩;rw [heap_setCell_same _ _ _ _ _ _ _ h.aF,Af];simp only [wC,rv,MV,Bh 1 n,wG]
def IY (M:List Nat) (T n kind:Nat):Bool:=decide (n<6) || (decide (T≤n) || (M.getD n 0 != 0 && (M.getD n 0 != kind || kind == 1)))
theorem acO (w:World) (b T:Nat) (M:List Nat) (n kind:Nat) (h:uM w b T M) (hG:oQ w) (hT:T≤256) (hn:n<65536) (hk:kind<256) (hM: ∀ i,M.getD i 0<256) (hno:IY M T n kind=true):
  Calls Tryz.prog 151 #[.pointer (some ⟨b,0,none⟩),.int .i64 (n:Nat),.int .u8 (kind:Nat)] w fun e w'=>(∃ x,isIface x∧e= .returned x)∧w'=w:=by
 obtain ⟨t6,v6,g6⟩:=hG.err 6 om;obtain ⟨t7,v7,g7⟩:=hG.err 7 om;have c0:=h.c0;have f0:=h.fz
 by_cases h6:n<6
 ·have d6:((n:Nat):Int)<6:=om;clear hno
  go_enter Tryz.func151,Tryz.ntmps151
  go_wp2;go_ret;exact ⟨⟨_,⟨_,_,rfl⟩,rfl⟩,rfl⟩
 ·have d6: ¬ ((n:Nat):Int)<6:=om
  by_cases ND:T≤n
  ·have dT:((T:Nat):Int)≤((n:Nat):Int):=om;clear hno
   go_enter Tryz.func151,Tryz.ntmps151
   go_wp2;go_ret;exact ⟨⟨_,⟨_,_,rfl⟩,rfl⟩,rfl⟩
  ·have hn256:n<256:=om;have cn:=h.cell n hn256;have dT: ¬ ((T:Nat):Int)≤((n:Nat):Int):=om;unfold IY at hno;rw [gU h6,gU ND,EO,EO] at hno;have hm:=hM n;generalize M.getD n 0=m at*;have hm0:m≠0:=by rintro rfl;cases hno
   have dm:(((m:Nat):Int) != 0)=true:=by rw [nR];omega
   by_cases hmk:m=kind
   ·subst hmk;have h1:m=1:=by simpa [hm0] using hno
    subst h1;clear hno
    go_enter Tryz.func151,Tryz.ntmps151
    go_wp2;go_ret;exact ⟨⟨_,⟨_,_,rfl⟩,rfl⟩,rfl⟩
   ·have dk:(((m:Nat):Int) != ((kind:Nat):Int))=true:=by rw [nR];omega
    clear hno
    go_enter Tryz.func151,Tryz.ntmps151
    go_wp2;go_ret;exact ⟨⟨_,⟨_,_,rfl⟩,rfl⟩,rfl⟩
theorem acP (w:World) (b T:Nat) (M:List Nat) (n kind:Nat) (h:uM w b T M) (hT:T≤256) (hk:kind<256) (hM: ∀ i,M.getD i 0<256) (hno:IY M T n kind=false):
  Calls Tryz.prog 151 #[.pointer (some ⟨b,0,none⟩),.int .i64 (n:Nat),.int .u8 (kind:Nat)] w fun e w'=>e= .returned .nilIface∧w'=w.setCell ⟨b,1+n,none⟩ (.int .u8 (kind:Nat)):=by
 have c0:=h.c0;have f0:=h.fz;unfold IY at hno;rw [Bj,Bj] at hno;obtain ⟨h6,ND,hno⟩:=hno;have h6:=EL h6;have ND:=EL ND;have hn256:n<256:=om;have cn:=h.cell n hn256;have d6: ¬ ((n:Nat):Int)<6:=om;have dT: ¬ ((T:Nat):Int)≤((n:Nat):Int):=om;have dn:((n:Nat):Int)<256:=om;have hm:=hM n;generalize M.getD n 0=m at*
 by_cases hm0:m=0
 ·subst hm0;clear hno
  go_enter Tryz.func151,Tryz.ntmps151
  go_wp2;go_ret;exact ⟨rfl,rfl⟩
 ·have dm:(((m:Nat):Int) != 0)=true:=by rw [nR];omega
  have e0:(m != 0)=true:=by simpa using hm0
  rw [e0,tC,Bj] at hno;have hmk:m=kind:=by simpa using hno.1
  have h1: ¬ kind=1:=by simpa using hno.2
  subst hmk;have d1:(((m:Nat):Int) == 1)=false:=by rw [lI];omega
  clear hno
  go_enter Tryz.func151,Tryz.ntmps151
  go_wp2;go_ret;exact ⟨rfl,rfl⟩
def Je (M:List Nat) (T first t i x:Nat):Bool:=if t=first then (decide (2≤i) || IY M T (x%32768) 2) else IY M T (x%32768) 3
def QO (first t:Nat):Nat:=if t=first then 2 else 3
theorem atF (w:World) (b T:Nat) (M:List Nat) (first t i x:Nat) (h:uM w b T M) (hG:oQ w) (hT:T≤256) (hx:x<65536) (hM: ∀ i,M.getD i 0<256) (hno:Je M T first t i x=true):
  Calls Tryz.prog 153 #[.pointer (some ⟨b,0,none⟩),.agg #[.int .i64 (t:Nat),.int .i64 (i:Nat),.int .u16 (x:Nat)],.int .i64 (first:Nat)] w fun e w'=>(∃ x,isIface x∧e= .returned x)∧aC w w':=by
 have hb:aC w (w.alloc (.cells #[.int .i64 (t:Nat),.int .i64 (i:Nat),.int .u16 (x:Nat)] 219)):=fC;have HB:=ah hb;have h1:uM (w.alloc (.cells #[.int .i64 (t:Nat),.int .i64 (i:Nat),.int .u16 (x:Nat)] 219)) b T M:=h.below hb;have hG1:=hG.below hb;clear h hG;obtain ⟨t8,v8,g8⟩:=hG1.err 8 om;have Hc:=ah (fun W=>BH x hx W);have hlt:x%32768<65536:=om;unfold Je at hno
 by_cases hf:t=first
 ·rw [au hf] at hno;subst hf;have df:(((t:Nat):Int) != ((t:Nat):Int))=false:=by rw [adP]
  by_cases h2:2≤i
  ·have d2:(2:Int)≤((i:Nat):Int):=om;clear hno Hc h1 hG1 hb
   go_enter Tryz.func153,Tryz.ntmps153
   go_wp2;go_ret;exact ⟨⟨_,⟨_,_,rfl⟩,rfl⟩,uh HB⟩
  ·have d2: ¬ (2:Int)≤((i:Nat):Int):=om;rw [gU h2,EO] at hno;have Ht:=ah (acO _ b T M (x%32768) 2 h1 hG1 hT hlt om hM hno);clear hno h1 hG1 hb;generalize x%32768=c at*
   go_enter Tryz.func153,Tryz.ntmps153
   go_wp2_with fail
   refine (uh Hc _).mono ?_;rintro e w1 ⟨rfl,rfl⟩
   go_wp2_with fail
   refine Ht.mono ?_;rintro e w1 ⟨⟨y,hy,rfl⟩,rfl⟩;go_wp2;go_ret;exact ⟨⟨_,hy,rfl⟩,uh HB⟩
 ·rw [ak hf] at hno;have df:(((t:Nat):Int) != ((first:Nat):Int))=true:=by rw [nR];omega
  have Ht:=ah (acO _ b T M (x%32768) 3 h1 hG1 hT hlt om hM hno);clear hno h1 hG1 hb;generalize x%32768=c at*
  go_enter Tryz.func153,Tryz.ntmps153
  go_wp2_with fail
  refine (uh Hc _).mono ?_;rintro e w1 ⟨rfl,rfl⟩
  go_wp2_with fail
  refine Ht.mono ?_;rintro e w1 ⟨⟨y,hy,rfl⟩,rfl⟩;go_wp2;go_ret;exact ⟨⟨_,hy,rfl⟩,uh HB⟩
theorem atH (w:World) (b T:Nat) (M:List Nat) (first t i x:Nat) (h:uM w b T M) (hT:T≤256) (hx:x<65536) (hM: ∀ i,M.getD i 0<256) (hno:Je M T first t i x=false):
  Calls Tryz.prog 153 #[.pointer (some ⟨b,0,none⟩),.agg #[.int .i64 (t:Nat),.int .i64 (i:Nat),.int .u16 (x:Nat)],.int .i64 (first:Nat)] w fun e w'=>e= .returned .nilIface∧uM w' b T (M.set (x%32768) (QO first t))∧Kept (fun k=>k=b) w w':=by
 have hb:aC w (w.alloc (.cells #[.int .i64 (t:Nat),.int .i64 (i:Nat),.int .u16 (x:Nat)] 219)):=fC;have h1:uM (w.alloc (.cells #[.int .i64 (t:Nat),.int .i64 (i:Nat),.int .u16 (x:Nat)] 219)) b T M:=h.below hb;have HB:=ah hb;have H1:=ah h1;clear h;have Hc:=ah (fun W=>BH x hx W);unfold Je at hno;unfold QO
 by_cases hf:t=first
 ·rw [au hf] at hno ⊢;subst hf;have df:(((t:Nat):Int) != ((t:Nat):Int))=false:=by rw [adP]
  rw [Bj] at hno;have h2:=EL hno.1;have d2: ¬ (2:Int)≤((i:Nat):Int):=om;have Ht:=ah (acP _ b T M (x%32768) 2 h1 hT om hM hno.2);clear hno h1 hb;generalize x%32768=c at*
  go_enter Tryz.func153,Tryz.ntmps153
  go_wp2_with fail
  refine (uh Hc _).mono ?_;rintro e w1 ⟨rfl,rfl⟩
  go_wp2_with fail
  refine Ht.mono ?_;rintro e w1 ⟨rfl,rfl⟩;go_wp2;go_ret;exact ⟨rfl,H1.put _ _,(Kept.dS HB).trans (Kept.only _ _ _ _)⟩
 ·rw [ak hf] at hno ⊢;have df:(((t:Nat):Int) != ((first:Nat):Int))=true:=by rw [nR];omega
  have Ht:=ah (acP _ b T M (x%32768) 3 h1 hT om hM hno);clear hno h1 hb;generalize x%32768=c at*
  go_enter Tryz.func153,Tryz.ntmps153
  go_wp2_with fail
  refine (uh Hc _).mono ?_;rintro e w1 ⟨rfl,rfl⟩
  go_wp2_with fail
  refine Ht.mono ?_;rintro e w1 ⟨rfl,rfl⟩;go_wp2;go_ret;exact ⟨rfl,H1.put _ _,(Kept.dS HB).trans (Kept.only _ _ _ _)⟩
end
section
attribute [local go_sem ↓] dw fP fZ kS mP mV jJ kJ jY jU lD lH kQ ku kT mQ mW lZ ny jG
attribute [local go_sem] dK fO fV gK gy aV kX mG mM mJ mF gI jK kH jX kZ kW iJ jW lq lC lu kF jc jd lY l7 kG kY mO nI lT mD nH
attribute [local go_sem] Oper.semAt_some
structure Ph (file:List aj):Prop where
 qj:6≤file.length
 same:fE (num (cl file 0) 4) (num (cl file 0) 6)=cl file 0
 seven:7≤num (cl file 0) 4
 most:num (cl file 0) 4≤256
 le:file.length≤num (cl file 0) 4
theorem ant (w:World) (fv:Value) (file:List aj) (hf:lK w fv file) (hG:oQ w) (h6:file.length≤5):
  Calls Tryz.prog 90 #[fv] w fun e w'=>(∃ x,isIface x∧e= .returned (kD 0 x))∧aC w w':=by
 obtain ⟨t0,v0,g0⟩:=hG.err 0 om;obtain ⟨a,cap,rfl⟩:=iq hf.row;have d6:((file.length:Nat):Int)≤5:=om
 go_enter Tryz.func90,Tryz.ntmps90
 go_wp2;go_ret;exact ⟨⟨_,⟨_,_,rfl⟩,rfl⟩,bG _ _⟩
theorem anl (w:World) (fv:Value) (file:List aj) (hf:lK w fv file) (hG:oQ w) (h6:6≤file.length) (hm:file.length≤1000000)
  (hne:fE (num (cl file 0) 4) (num (cl file 0) 6)≠cl file 0):
  Calls Tryz.prog 90 #[fv] w fun e w'=>(∃ x,isIface x∧e= .returned (kD 0 x))∧aC w w':=by
 have d6: ¬ ((file.length:Nat):Int)≤5:=om;have hlen0:=iM hf.lens (k:=0) om;have Hh:Hid (∀ W,_):=fun W=>NM W (cl file 0) hlen0;have hx4:=iD (cl file 0) 4;have hx6:=iD (cl file 0) 6;obtain ⟨g,cap,rfl,hcap⟩:=gB hf.row om;have l1:=oI hf.row hf.lens 0 om;have l2:=oH hf.row hf.lens 0 om;simp only [yV] at l1 l2;have Fv:(0:Int)<(file.length:Int):=om;have HF:=ah hf;have HL:=ah (fun W (hb:aC w W)=>(⟨oI (hf.kept (S:=fun _=>False) (Kept.dS hb) (fun _ _=>id)).row hf.lens 0 om,oH (hf.kept (S:=fun _=>False) (Kept.dS hb) (fun _ _=>id)).row hf.lens 0 om⟩:_∧_));simp only [yV] at HL;have HG:=ah hG;clear hf hG;generalize cl file 0=c at*;generalize num c 4=T at*;generalize num c 6=N at*;have Hq:=ah hne;clear hne;have hbl:(fE T N).length=64:=II T N
 go_enter Tryz.func90,Tryz.ntmps90
 go_wp2_with fail
 refine (uh Hh _).mono ?_;rintro e w1 ⟨rfl,hb1⟩;have HB1:=ah (hb1.alloc hb1.size (.cells (hv T N).toArray 128));have HX:=ah (aW w1 (.cells (hv T N).toArray 128));clear hb1 l1 l2 Hh
 go_wp2_with fail
 generalize hW2:w1.alloc (.cells (hv T N).toArray 128)=w2 at*;clear hW2;have hx0: ∀ d os,(Go.Sort.grow (redrawn w2 d) os).heap[w1.heap.size]? = some (.cells (hv T N).toArray 128 (0,0)):=fun d os=>((kL w2 d os).block _ (aO HX)).trans HX;have k1: ∀ d os,dN (Go.Sort.grow (redrawn w2 d) os) w1.heap.size 0 2:=fun d os=>fD (hx0 d os) (sD _ _);have k2: ∀ d os,dI (Go.Sort.grow (redrawn w2 d) os) w1.heap.size 0 2=hv T N:=fun d os=>fG (hx0 d os) (sD _ _);have k3: ∀ d os,(Go.Sort.grow (redrawn w2 d) os).cell? ⟨w1.heap.size,0,none⟩=some (.int .i64 (T:Nat)):=fun d os=>by rw [aG (hx0 d os)];rfl
 have l1: ∀ d os,dN (Go.Sort.grow (redrawn w2 d) os) g 0 64:=fun d os=>(uh HL _ (HB1.trans ((kL w2 d os).mono HB1.size))).1;have l2: ∀ d os,dI (Go.Sort.grow (redrawn w2 d) os) g 0 64=cv c:=fun d os=>(uh HL _ (HB1.trans ((kL w2 d os).mono HB1.size))).2;have Hn:=ah (fun d os=>P7 (Go.Sort.grow (redrawn w2 d) os) T N hx4 hx6);have he: ∀ w,(xH (.agg (cv (fE T N)).toArray) (.agg (cv c).toArray)).run Tryz.prog w= .ok false w:=fun w=>by rw [wE hbl hlen0,gU (uh Hq)]
 clear hx0;generalize fE T N=hb at*;refine CQ kr kr ?_
 repeat (go_big_quiet_step (exact zA (uh Hn _ _)))
 refine CS ?_;intro _ hw';obtain ⟨⟨dq,osq⟩,hw''⟩:=hw';subst hw'';have tJ:=ah (HB1.trans ((kL w2 dq osq).mono HB1.size));have k4:=k3 dq osq;obtain ⟨t0,v0,g0⟩:=(HG.below tJ).err 0 om;obtain ⟨t1,v1,g1⟩:=(HG.below tJ).err 1 om;clear l1 l2 k1 k2 k3 Hn he;go_wp2;go_ret;exact ⟨⟨_,⟨_,_,rfl⟩,rfl⟩,uh tJ⟩
theorem anq (w:World) (fv:Value) (file:List aj) (hf:lK w fv file) (hG:oQ w) (h6:6≤file.length) (hm:file.length≤1000000)
  (hsame:fE (num (cl file 0) 4) (num (cl file 0) 6)=cl file 0) (hlow:num (cl file 0) 4≤6):
  Calls Tryz.prog 90 #[fv] w fun e w'=>(∃ x,isIface x∧e= .returned (kD 0 x))∧aC w w':=by
 have d6: ¬ ((file.length:Nat):Int)≤5:=om;have hlen0:=iM hf.lens (k:=0) om;have Hh:Hid (∀ W,_):=fun W=>NM W (cl file 0) hlen0;have hx4:=iD (cl file 0) 4;have hx6:=iD (cl file 0) 6;obtain ⟨g,cap,rfl,hcap⟩:=gB hf.row om;have l1:=oI hf.row hf.lens 0 om;have l2:=oH hf.row hf.lens 0 om;simp only [yV] at l1 l2;have Fv:(0:Int)<(file.length:Int):=om;have HF:=ah hf;have HL:=ah (fun W (hb:aC w W)=>(⟨oI (hf.kept (S:=fun _=>False) (Kept.dS hb) (fun _ _=>id)).row hf.lens 0 om,oH (hf.kept (S:=fun _=>False) (Kept.dS hb) (fun _ _=>id)).row hf.lens 0 om⟩:_∧_));simp only [yV] at HL;have HG:=ah hG;clear hf hG;generalize cl file 0=c at*;generalize num c 4=T at*;generalize num c 6=N at*;have dl:decide (((T:Nat):Int)≤6)=true:=eH om;have Hq:=ah hsame;clear hsame;have hbl:(fE T N).length=64:=II T N
 go_enter Tryz.func90,Tryz.ntmps90
 go_wp2_with fail
 refine (uh Hh _).mono ?_;rintro e w1 ⟨rfl,hb1⟩;have HB1:=ah (hb1.alloc hb1.size (.cells (hv T N).toArray 128));have HX:=ah (aW w1 (.cells (hv T N).toArray 128));clear hb1 l1 l2 Hh
 go_wp2_with fail
 generalize hW2:w1.alloc (.cells (hv T N).toArray 128)=w2 at*;clear hW2;have hx0: ∀ d os,(Go.Sort.grow (redrawn w2 d) os).heap[w1.heap.size]? = some (.cells (hv T N).toArray 128 (0,0)):=fun d os=>((kL w2 d os).block _ (aO HX)).trans HX;have k1: ∀ d os,dN (Go.Sort.grow (redrawn w2 d) os) w1.heap.size 0 2:=fun d os=>fD (hx0 d os) (sD _ _);have k2: ∀ d os,dI (Go.Sort.grow (redrawn w2 d) os) w1.heap.size 0 2=hv T N:=fun d os=>fG (hx0 d os) (sD _ _);have k3: ∀ d os,(Go.Sort.grow (redrawn w2 d) os).cell? ⟨w1.heap.size,0,none⟩=some (.int .i64 (T:Nat)):=fun d os=>by rw [aG (hx0 d os)];rfl
 have l1: ∀ d os,dN (Go.Sort.grow (redrawn w2 d) os) g 0 64:=fun d os=>(uh HL _ (HB1.trans ((kL w2 d os).mono HB1.size))).1;have l2: ∀ d os,dI (Go.Sort.grow (redrawn w2 d) os) g 0 64=cv c:=fun d os=>(uh HL _ (HB1.trans ((kL w2 d os).mono HB1.size))).2;have Hn:=ah (fun d os=>P7 (Go.Sort.grow (redrawn w2 d) os) T N hx4 hx6);have he: ∀ w,(xH (.agg (cv (fE T N)).toArray) (.agg (cv c).toArray)).run Tryz.prog w= .ok true w:=fun w=>by rw [wE hbl hlen0,eH (uh Hq)]
 clear hx0;generalize fE T N=hb at*;refine CQ kr kr ?_
 repeat (go_big_quiet_step (exact zA (uh Hn _ _)))
 refine CS ?_;intro _ hw';obtain ⟨⟨dq,osq⟩,hw''⟩:=hw';subst hw'';have tJ:=ah (HB1.trans ((kL w2 dq osq).mono HB1.size));have k4:=k3 dq osq;obtain ⟨t0,v0,g0⟩:=(HG.below tJ).err 0 om;obtain ⟨t1,v1,g1⟩:=(HG.below tJ).err 1 om;clear l1 l2 k1 k2 k3 Hn he;go_wp2;go_ret;exact ⟨⟨_,⟨_,_,rfl⟩,rfl⟩,uh tJ⟩
theorem ano (w:World) (fv:Value) (file:List aj) (hf:lK w fv file) (hG:oQ w) (h6:6≤file.length) (hm:file.length≤1000000)
  (hsame:fE (num (cl file 0) 4) (num (cl file 0) 6)=cl file 0) (hhi:256<num (cl file 0) 4):
  Calls Tryz.prog 90 #[fv] w fun e w'=>(∃ x,isIface x∧e= .returned (kD 0 x))∧aC w w':=by
 have d6: ¬ ((file.length:Nat):Int)≤5:=om;have hlen0:=iM hf.lens (k:=0) om;have Hh:Hid (∀ W,_):=fun W=>NM W (cl file 0) hlen0;have hx4:=iD (cl file 0) 4;have hx6:=iD (cl file 0) 6;obtain ⟨g,cap,rfl,hcap⟩:=gB hf.row om;have l1:=oI hf.row hf.lens 0 om;have l2:=oH hf.row hf.lens 0 om;simp only [yV] at l1 l2;have Fv:(0:Int)<(file.length:Int):=om;have HF:=ah hf;have HL:=ah (fun W (hb:aC w W)=>(⟨oI (hf.kept (S:=fun _=>False) (Kept.dS hb) (fun _ _=>id)).row hf.lens 0 om,oH (hf.kept (S:=fun _=>False) (Kept.dS hb) (fun _ _=>id)).row hf.lens 0 om⟩:_∧_));simp only [yV] at HL;have HG:=ah hG;clear hf hG;generalize cl file 0=c at*;generalize num c 4=T at*;generalize num c 6=N at*;have dl:decide (((T:Nat):Int)≤6)=false:=gU om;have dh:decide ((256:Int)<((T:Nat):Int))=true:=eH om;have Hq:=ah hsame;clear hsame;have hbl:(fE T N).length=64:=II T N
 go_enter Tryz.func90,Tryz.ntmps90
 go_wp2_with fail
 refine (uh Hh _).mono ?_;rintro e w1 ⟨rfl,hb1⟩;have HB1:=ah (hb1.alloc hb1.size (.cells (hv T N).toArray 128));have HX:=ah (aW w1 (.cells (hv T N).toArray 128));clear hb1 l1 l2 Hh
 go_wp2_with fail
 generalize hW2:w1.alloc (.cells (hv T N).toArray 128)=w2 at*;clear hW2;have hx0: ∀ d os,(Go.Sort.grow (redrawn w2 d) os).heap[w1.heap.size]? = some (.cells (hv T N).toArray 128 (0,0)):=fun d os=>((kL w2 d os).block _ (aO HX)).trans HX;have k1: ∀ d os,dN (Go.Sort.grow (redrawn w2 d) os) w1.heap.size 0 2:=fun d os=>fD (hx0 d os) (sD _ _);have k2: ∀ d os,dI (Go.Sort.grow (redrawn w2 d) os) w1.heap.size 0 2=hv T N:=fun d os=>fG (hx0 d os) (sD _ _);have k3: ∀ d os,(Go.Sort.grow (redrawn w2 d) os).cell? ⟨w1.heap.size,0,none⟩=some (.int .i64 (T:Nat)):=fun d os=>by rw [aG (hx0 d os)];rfl
 have l1: ∀ d os,dN (Go.Sort.grow (redrawn w2 d) os) g 0 64:=fun d os=>(uh HL _ (HB1.trans ((kL w2 d os).mono HB1.size))).1;have l2: ∀ d os,dI (Go.Sort.grow (redrawn w2 d) os) g 0 64=cv c:=fun d os=>(uh HL _ (HB1.trans ((kL w2 d os).mono HB1.size))).2;have Hn:=ah (fun d os=>P7 (Go.Sort.grow (redrawn w2 d) os) T N hx4 hx6);have he: ∀ w,(xH (.agg (cv (fE T N)).toArray) (.agg (cv c).toArray)).run Tryz.prog w= .ok true w:=fun w=>by rw [wE hbl hlen0,eH (uh Hq)]
 clear hx0;generalize fE T N=hb at*;refine CQ kr kr ?_
 repeat (go_big_quiet_step (exact zA (uh Hn _ _)))
 refine CS ?_;intro _ hw';obtain ⟨⟨dq,osq⟩,hw''⟩:=hw';subst hw'';have tJ:=ah (HB1.trans ((kL w2 dq osq).mono HB1.size));have k4:=k3 dq osq;obtain ⟨t0,v0,g0⟩:=(HG.below tJ).err 0 om;obtain ⟨t1,v1,g1⟩:=(HG.below tJ).err 1 om;clear l1 l2 k1 k2 k3 Hn he;go_wp2;go_ret;exact ⟨⟨_,⟨_,_,rfl⟩,rfl⟩,uh tJ⟩
theorem anp (w:World) (fv:Value) (file:List aj) (hf:lK w fv file) (hG:oQ w) (h6:6≤file.length) (hm:file.length≤1000000)
  (hsame:fE (num (cl file 0) 4) (num (cl file 0) 6)=cl file 0) (hlow:7≤num (cl file 0) 4) (hhi:num (cl file 0) 4≤256) (hle:num (cl file 0) 4<file.length):
  Calls Tryz.prog 90 #[fv] w fun e w'=>(∃ x,isIface x∧e= .returned (kD 0 x))∧aC w w':=by
 have d6: ¬ ((file.length:Nat):Int)≤5:=om;have hlen0:=iM hf.lens (k:=0) om;have Hh:Hid (∀ W,_):=fun W=>NM W (cl file 0) hlen0;have hx4:=iD (cl file 0) 4;have hx6:=iD (cl file 0) 6;obtain ⟨g,cap,rfl,hcap⟩:=gB hf.row om;have l1:=oI hf.row hf.lens 0 om;have l2:=oH hf.row hf.lens 0 om;simp only [yV] at l1 l2;have Fv:(0:Int)<(file.length:Int):=om;have HF:=ah hf;have HL:=ah (fun W (hb:aC w W)=>(⟨oI (hf.kept (S:=fun _=>False) (Kept.dS hb) (fun _ _=>id)).row hf.lens 0 om,oH (hf.kept (S:=fun _=>False) (Kept.dS hb) (fun _ _=>id)).row hf.lens 0 om⟩:_∧_));simp only [yV] at HL;have HG:=ah hG;clear hf hG;generalize cl file 0=c at*;generalize num c 4=T at*;generalize num c 6=N at*;have dl:decide (((T:Nat):Int)≤6)=false:=gU om;have dh:decide ((256:Int)<((T:Nat):Int))=false:=gU om;have dn:decide (((T:Nat):Int)<((file.length:Nat):Int))=true:=eH om;have Hq:=ah hsame;clear hsame
 have hbl:(fE T N).length=64:=II T N
 go_enter Tryz.func90,Tryz.ntmps90
 go_wp2_with fail
 refine (uh Hh _).mono ?_;rintro e w1 ⟨rfl,hb1⟩;have HB1:=ah (hb1.alloc hb1.size (.cells (hv T N).toArray 128));have HX:=ah (aW w1 (.cells (hv T N).toArray 128));clear hb1 l1 l2 Hh
 go_wp2_with fail
 generalize hW2:w1.alloc (.cells (hv T N).toArray 128)=w2 at*;clear hW2;have hx0: ∀ d os,(Go.Sort.grow (redrawn w2 d) os).heap[w1.heap.size]? = some (.cells (hv T N).toArray 128 (0,0)):=fun d os=>((kL w2 d os).block _ (aO HX)).trans HX;have k1: ∀ d os,dN (Go.Sort.grow (redrawn w2 d) os) w1.heap.size 0 2:=fun d os=>fD (hx0 d os) (sD _ _);have k2: ∀ d os,dI (Go.Sort.grow (redrawn w2 d) os) w1.heap.size 0 2=hv T N:=fun d os=>fG (hx0 d os) (sD _ _);have k3: ∀ d os,(Go.Sort.grow (redrawn w2 d) os).cell? ⟨w1.heap.size,0,none⟩=some (.int .i64 (T:Nat)):=fun d os=>by rw [aG (hx0 d os)];rfl
 have l1: ∀ d os,dN (Go.Sort.grow (redrawn w2 d) os) g 0 64:=fun d os=>(uh HL _ (HB1.trans ((kL w2 d os).mono HB1.size))).1;have l2: ∀ d os,dI (Go.Sort.grow (redrawn w2 d) os) g 0 64=cv c:=fun d os=>(uh HL _ (HB1.trans ((kL w2 d os).mono HB1.size))).2;have Hn:=ah (fun d os=>P7 (Go.Sort.grow (redrawn w2 d) os) T N hx4 hx6);have he: ∀ w,(xH (.agg (cv (fE T N)).toArray) (.agg (cv c).toArray)).run Tryz.prog w= .ok true w:=fun w=>by rw [wE hbl hlen0,eH (uh Hq)]
 clear hx0;generalize fE T N=hb at*;refine CQ kr kr ?_
 repeat (go_big_quiet_step (exact zA (uh Hn _ _)))
 refine CS ?_;intro _ hw';obtain ⟨⟨dq,osq⟩,hw''⟩:=hw';subst hw'';have tJ:=ah (HB1.trans ((kL w2 dq osq).mono HB1.size));have k4:=k3 dq osq;obtain ⟨t0,v0,g0⟩:=(HG.below tJ).err 0 om;obtain ⟨t1,v1,g1⟩:=(HG.below tJ).err 1 om;clear l1 l2 k1 k2 k3 Hn he;go_wp2;go_ret;exact ⟨⟨_,⟨_,_,rfl⟩,rfl⟩,uh tJ⟩
theorem anr (w:World) (fv:Value) (file:List aj) (hf:lK w fv file) (hG:oQ w) (h6:6≤file.length) (hm:file.length≤1000000)
  (hsame:fE (num (cl file 0) 4) (num (cl file 0) 6)=cl file 0) (hlow:7≤num (cl file 0) 4) (hhi:num (cl file 0) 4≤256) (hle:file.length≤num (cl file 0) 4):
  Calls Tryz.prog 90 #[fv] w fun e w'=>e= .returned .nilIface∧aC w w':=by
 have d6: ¬ ((file.length:Nat):Int)≤5:=om;have hlen0:=iM hf.lens (k:=0) om;have Hh:Hid (∀ W,_):=fun W=>NM W (cl file 0) hlen0;have hx4:=iD (cl file 0) 4;have hx6:=iD (cl file 0) 6;obtain ⟨g,cap,rfl,hcap⟩:=gB hf.row om;have l1:=oI hf.row hf.lens 0 om;have l2:=oH hf.row hf.lens 0 om;simp only [yV] at l1 l2;have Fv:(0:Int)<(file.length:Int):=om;have HF:=ah hf;have HL:=ah (fun W (hb:aC w W)=>(⟨oI (hf.kept (S:=fun _=>False) (Kept.dS hb) (fun _ _=>id)).row hf.lens 0 om,oH (hf.kept (S:=fun _=>False) (Kept.dS hb) (fun _ _=>id)).row hf.lens 0 om⟩:_∧_));simp only [yV] at HL;have HG:=ah hG;clear hf hG;generalize cl file 0=c at*;generalize num c 4=T at*;generalize num c 6=N at*;have dl:decide (((T:Nat):Int)≤6)=false:=gU om;have dh:decide ((256:Int)<((T:Nat):Int))=false:=gU om;have dn:decide (((T:Nat):Int)<((file.length:Nat):Int))=false:=gU om;have Hq:=ah hsame;clear hsame
 have hbl:(fE T N).length=64:=II T N
 go_enter Tryz.func90,Tryz.ntmps90
 go_wp2_with fail
 refine (uh Hh _).mono ?_;rintro e w1 ⟨rfl,hb1⟩;have HB1:=ah (hb1.alloc hb1.size (.cells (hv T N).toArray 128));have HX:=ah (aW w1 (.cells (hv T N).toArray 128));clear hb1 l1 l2 Hh
 go_wp2_with fail
 generalize hW2:w1.alloc (.cells (hv T N).toArray 128)=w2 at*;clear hW2;have hx0: ∀ d os,(Go.Sort.grow (redrawn w2 d) os).heap[w1.heap.size]? = some (.cells (hv T N).toArray 128 (0,0)):=fun d os=>((kL w2 d os).block _ (aO HX)).trans HX;have k1: ∀ d os,dN (Go.Sort.grow (redrawn w2 d) os) w1.heap.size 0 2:=fun d os=>fD (hx0 d os) (sD _ _);have k2: ∀ d os,dI (Go.Sort.grow (redrawn w2 d) os) w1.heap.size 0 2=hv T N:=fun d os=>fG (hx0 d os) (sD _ _);have k3: ∀ d os,(Go.Sort.grow (redrawn w2 d) os).cell? ⟨w1.heap.size,0,none⟩=some (.int .i64 (T:Nat)):=fun d os=>by rw [aG (hx0 d os)];rfl
 have l1: ∀ d os,dN (Go.Sort.grow (redrawn w2 d) os) g 0 64:=fun d os=>(uh HL _ (HB1.trans ((kL w2 d os).mono HB1.size))).1;have l2: ∀ d os,dI (Go.Sort.grow (redrawn w2 d) os) g 0 64=cv c:=fun d os=>(uh HL _ (HB1.trans ((kL w2 d os).mono HB1.size))).2;have Hn:=ah (fun d os=>P7 (Go.Sort.grow (redrawn w2 d) os) T N hx4 hx6);have he: ∀ w,(xH (.agg (cv (fE T N)).toArray) (.agg (cv c).toArray)).run Tryz.prog w= .ok true w:=fun w=>by rw [wE hbl hlen0,eH (uh Hq)]
 clear hx0;generalize fE T N=hb at*;refine CQ kr kr ?_
 repeat (go_big_quiet_step (exact zA (uh Hn _ _)))
 refine CS ?_;intro _ hw';obtain ⟨⟨dq,osq⟩,hw''⟩:=hw';subst hw'';have tJ:=ah (HB1.trans ((kL w2 dq osq).mono HB1.size));have k4:=k3 dq osq;obtain ⟨t0,v0,g0⟩:=(HG.below tJ).err 0 om;obtain ⟨t1,v1,g1⟩:=(HG.below tJ).err 1 om;clear l1 l2 k1 k2 k3 Hn he;go_wp2;go_ret;exact ⟨rfl,uh tJ⟩
theorem ank (w:World) (fv:Value) (file:List aj) (hf:lK w fv file) (hG:oQ w) (hm:file.length≤1000000) (hbad: ¬ Ph file):
  Calls Tryz.prog 90 #[fv] w fun e w'=>(∃ x,isIface x∧e= .returned (kD 0 x))∧aC w w':=by
 by_cases h6:file.length≤5
 ·exact ant w fv file hf hG h6
 ·by_cases h1:fE (num (cl file 0) 4) (num (cl file 0) 6)=cl file 0
  ·by_cases h2:num (cl file 0) 4≤6
   ·exact anq w fv file hf hG om hm h1 h2
   ·by_cases h3:256<num (cl file 0) 4
    ·exact ano w fv file hf hG om hm h1 h3
    ·by_cases h4:num (cl file 0) 4<file.length
     ·exact anp w fv file hf hG om hm h1 om om h4
     ·exact absurd ⟨om,h1,om,om,om⟩ hbad
  ·exact anl w fv file hf hG om hm h1
theorem anm (w:World) (fv:Value) (file:List aj) (hf:lK w fv file) (hG:oQ w) (h:Ph file):
  Calls Tryz.prog 90 #[fv] w fun e w'=>e= .returned .nilIface∧aC w w':=
 anr w fv file hf hG h.qj (by have:=h.le;have:=h.most;omega) h.same h.seven h.most h.le
theorem aa4 (n:Nat):aQ (List.replicate n zc)=List.replicate (n*64) (.int .u8 0):=by
 induction n with
 | zero=>simp [aQ]
 | succ n ih=>
  rw [UU,show aQ (zc :: List.replicate n zc)=cv zc++aQ (List.replicate n zc) from rfl,ih,show cv zc=List.replicate 64 (.int .u8 0) from rfl,Y9,Nat.add_mul,Nat.one_mul,Bh]
theorem aqi (n:Nat):madeCells (Value.cells (.agg (cv zc).toArray)) (n*64)=(aQ (List.replicate n zc)).toArray:=by
 rw [aa4,show Value.cells (.agg (cv zc).toArray)=(List.replicate 64 (Value.int .u8 0)).toArray from rfl];apply Array.ext
 ·simp [size_madeCells]
 ·intro i h1 h2;have h5:(List.replicate 64 (Value.int .u8 0)).toArray.size=64:=rfl;have h6:i%64<64:=Zg _ dc;simp only [madeCells,Array.getElem_map,Array.getElem_range,h5];rw [getElem!_pos _ _ (by rw [h5];exact h6),List.getElem_toArray,List.getElem_toArray,List.getElem_replicate,List.getElem_replicate]
theorem asN {w:World} {base g cap n:Nat} {e:TypeId} {size:Nat} {xs:List Value} (h:w.ownsRow base e size (.slice (some ⟨g,0,none⟩) n cap) n xs) (j:Nat) (v:Value) (hj:xs[j]? = some v):w.cell? ⟨g,j,none⟩=some v:=by
 rcases h.2 with ⟨hx,_⟩ | ⟨g',cap',cur,hx,_,hh,_,_,_,ht⟩
 ·cases hx
 ·injection hx with hx _ _;injection hx with hx;injection hx with hx;subst hx;rw [aG hh];have hl:j<(cur.toList.take (n*size)).length:=by
   rw [ht];rcases Jw j xs.length with y | y
   ·exact y
   ·rw [eu y] at hj;cases hj
  rw [← ht,Rj (by simp at hl;omega)] at hj;rw [← hj]
  simp
theorem arI {file:List aj} {T:Nat} (h:file.length≤T):aZ file T=file++List.replicate (T - file.length) zc:=by
 apply uH;intro i;unfold aZ;rw [jD]
 by_cases hi:i<T
 ·rw [x9 hi]
  by_cases hf:i<file.length
  ·rw [oJ hf];simp only [EM,au hf];unfold cl;rw [aK,bI hf];rfl
  ·rw [nP om,qU,au om];simp only [EM,ak hf]
 ·rw [eu (by simpa using hi),eu (by simp;omega)];rfl
theorem Wx (a b:List aj):aQ (a++b)=aQ a++aQ b:=by simp [aQ]
theorem aq2 (w:World) (fv:Value) (file:List aj) (hf:lK w fv file) (T:Nat) (h0:0<file.length) (hle:file.length≤T) (hT:T≤256):
  Calls Tryz.prog 91 #[fv,.int .i64 (T:Nat)] w fun e w'=> ∃ g,w.heap.size≤g∧e= .returned (.agg (OB (.slice (some ⟨g,0,none⟩) T T) (.slice none 0 0) ⟨aZ file T,[],false,decide (file.length<T)⟩).toArray)∧
   w'.ownsRow 0 38 64 (.slice (some ⟨g,0,none⟩) T T) T (aQ (aZ file T))∧aC w w':=by
 obtain ⟨i0,hi0,hz0,hz1,hz2⟩:=qy Tryz.J4;obtain ⟨g,cap,rfl,hcap⟩:=gB hf.row om;have d0:decide (((file.length:Nat):Int)<((T:Nat):Int))=decide (file.length<T):=sm;have hmk:=fun W=>run_make (P:=Tryz.prog) W 28 38 i0 (.agg (cv zc).toArray) Tryz.underlying28 hi0 hz0 .i64 .i64 (T:Int) (T:Int) om (Int.le_refl _) (by rw [hz2];omega) om;simp only [vC,hz1,aqi] at hmk;have L0:=dU.three w (.cells #[.slice none 0 0,.slice none 0 0,.bool false,.bool false] 119) (.cells (aQ (List.replicate T zc)).toArray 38) (.cells #[.slice (some ⟨w.heap.size+1,0,none⟩) T T,.slice none 0 0,.bool false,.bool (decide (file.length<T))] 119);have hrow:=(hf.kept (S:=fun _=>False) (Kept.dS L0.below) (fun _ _=>id)).row;have hfl:=yC file hf.lens;have hzl:(aQ (List.replicate T zc)).length=T*64:=by rw [aa4];simp
 have hone: ∀ v ∈ aQ file,v.oneCell'=true:=by
  intro v hv;obtain ⟨c,_,hc⟩:=Ae.1 hv;obtain ⟨x,_,rfl⟩:=gQ.1 hc;rfl
 have hmin:Nat.min file.length T=file.length:=Rh hle;have hcp:=Uy (P:=Tryz.prog) _ 28 28 3 38 64 (w.heap.size+1) 0 T T ⟨g,0,none⟩ file.length cap (aQ file) Tryz.underlying28 kr (by rw [hfl,hmin])
  (fun j v hj=>by have:=asN hrow j v hj;cases j with | zero=>simpa [Addr.add] using this | succ j=>simpa [Addr.add] using this)
  (fun j hj=>by rw [qR,aG L0.o1,bW,bI (by rw [hzl];rw [hfl] at hj;exact iZ hj (OJ 64 hle))];rfl)
  (fun j _=>eG L0.o1 _) hone
 rw [hmin] at hcp;have L1:=L0.setCells 1 rfl 0 (aQ file);have hcells:lU (aQ (List.replicate T zc)).toArray 0 (aQ file)=(aQ (aZ file T)).toArray:=by
  have e:List.replicate T zc=List.replicate file.length zc++List.replicate (T - file.length) zc:=by rw [Y9,Nat.add_sub_cancel' hle]
  rw [arI hle,e,Wx,Wx]
  have:=Yp [] (aQ (List.replicate file.length zc)) (aQ file) (aQ (List.replicate (T - file.length) zc)) (by rw [hfl,aa4];simp)
  simpa using this
 rw [hcells] at L1;have hpl:(aQ (aZ file T)).length=T*64:=by rw [yC _ (acs hf.lens T),jV]
 have HL:=ah L1;have k0:=(aG L1.o2 0).trans rfl;have k1:=(aG L1.o2 1).trans rfl;have k2:=(aG L1.o2 2).trans rfl;have k3:=(aG L1.o2 3).trans rfl;have r0:=(aG L1.o0 0).trans rfl;have r1:=(aG L1.o0 1).trans rfl;have r2:=(aG L1.o0 2).trans rfl;have r3:=(aG L1.o0 3).trans rfl;have rf:=fun i=>eG L1.o0 i;simp only [bW,Ju,EN] at k0 k1 k2 k3 r0 r1 r2 r3;clear L0 hrow hone hcells hf L1
 go_enter Tryz.func91,Tryz.ntmps91
 go_wp2_with fail
 generalize hW:World.setCells _ (w.heap.size+1) 0 (aQ file)=W at*;clear hW hcp hmk;go_wp2;have L2:=(((HL.setCell 0 rfl 0 (.slice (some ⟨w.heap.size+1,0,none⟩) T T)).setCell 0 rfl 1 (.slice none 0 0)).setCell 0 rfl 2 (.bool false)).setCell 0 rfl 3 (.bool (decide (file.length<T)));have b0:_=some (Obj.cells [Value.slice (some ⟨w.heap.size+1,0,none⟩) T T,.slice none 0 0,.bool false,.bool (decide (file.length<T))].toArray 119 (0,0)):=L2.o0;have b1:_=some (Obj.cells (aQ (aZ file T)).toArray 38 (0,0)):=L2.o1;refine gV (qK Tryz.results91 ⟨w.heap.size,0,none⟩ rfl ?_) rfl ⟨w.heap.size+1,om,rfl,⟨hpl,ay ⟨w.heap.size+1,T,_,rfl,nN _,b1,aP _,jZ hT dc,by simp [hpl],?_⟩⟩,L2.below⟩
 ·exact (AX (fD b0 (n:=4) rfl) 119 _ Tryz.underlying119 rfl kr).trans (by rw [fG b0 (n:=4) rfl];rfl)
 ·rw [List.toList_toArray,Js (by rw [hpl];exact aP _)]
end
end Go.Proofs.YtknjjjenklfeoaaGreatDoor
