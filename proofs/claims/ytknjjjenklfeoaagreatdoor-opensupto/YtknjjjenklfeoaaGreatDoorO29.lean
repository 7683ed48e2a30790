import Derived.Test.YtknjjjenklfeoaaGreatDoorO28
set_option maxHeartbeats 8000000
set_option maxRecDepth 100000
set_option linter.all false
namespace Go.Proofs.YtknjjjenklfeoaaGreatDoor
open Go.RowKit
section
attribute [local go_sem ↓] afq
attribute [local go_sem] aj7
def akQ (d v y:Nat) (Cv Lv Pv bv:Value) (k:Nat):Prop:=Lu d v Cv Lv k∨k=y∨Pv.ownBlock=some k∨bv.ownBlock=some k
abbrev RV (p:Nat) (w':World):Prop:=w'.cell? ⟨p,4,none⟩=some (.slice none 0 0)
theorem aal (w:World) (d v:Nat) (Cv Lv:Value) (V:aB) (y:Nat) (Pv bv:Value) (D:dY) (B:List aj) (hd:pq w d v Cv Lv V) (hy:eP w y Pv D) (hB:lK w bv B) (hap: ∀ g,bv.ownBlock=some g→ ¬ eX v Cv Lv g) (hD:D.L.length≤1000) (hL:V.L.length≤900000000) (ex:Bool):
  Calls Tryz.prog 32 #[.pointer (some ⟨d,0,none⟩),.pointer (some ⟨y,0,none⟩),bv,.bool ex] w fun e w'=>
   ∃ p,e= .returned (.pointer (some ⟨p,0,none⟩))∧ ∃ Mv m,m.log=V.L.length∧m.D=D∧ ∃ S',dO w' p ⟨d,v,y,Cv,Lv,Pv,Mv,bv,ex,V,D,B,[m]⟩ S'∧aC w w'∧ ∀ k,S' k→akQ d v y Cv Lv Pv bv k∨w.heap.size≤k:=by
 obtain ⟨ba,bc,hbv⟩:=iq hB.row;subst hbv;have hP0:dO (w.alloc (.cells #[.pointer (some ⟨d,0,none⟩),.pointer (some ⟨y,0,none⟩),.slice ba B.length bc,.bool ex,.slice none 0 0] 107)) w.heap.size ⟨d,v,y,Cv,Lv,Pv,.slice none 0 0,.slice ba B.length bc,ex,V,D,B,[]⟩ (fun k=>akQ d v y Cv Lv Pv (.slice ba B.length bc) k∨k=w.heap.size):=by
  have hb:aC w (w.alloc (.cells #[.pointer (some ⟨d,0,none⟩),.pointer (some ⟨y,0,none⟩),.slice ba B.length bc,.bool ex,.slice none 0 0] 107)):=fC;refine ⟨aW _ _,hd.below hb,hy.below hb,hB.kept (S:=fun _=>False) (Kept.dS hb) (fun _ _=>id),wF _ _ _ _,fun m hm=>(by cases hm),fun m hm=>(by cases hm),hap,ay rfl,fun k hk=>aA (aA hk),aA (ay (aA rfl)),?_,fun m hm=>(by cases hm),?_⟩
  ·rintro g (e | e | e)
   ·exact aA (ay (ay (aA e)))
   ·cases e
   ·exact aA (ay (ay (ay e)))
  ·rintro k ((e | e | e | e) | e)
   ·have:=hd.qG k e;simp;omega
   ·have:=hy.lt;simp;omega
   ·have:=(hy.row.lt k e).2;simp;omega
   ·have:=(hB.row.lt k e).2;simp;omega
   ·simp;omega
 have hB0:aC w (w.alloc (.cells #[.pointer (some ⟨d,0,none⟩),.pointer (some ⟨y,0,none⟩),.slice ba B.length bc,.bool ex,.slice none 0 0] 107)):=fC;have HB0:=ah hB0;have HP0:=ah hP0;have hsz0:w.heap.size<(w.alloc (.cells #[.pointer (some ⟨d,0,none⟩),.pointer (some ⟨y,0,none⟩),.slice ba B.length bc,.bool ex,.slice none 0 0] 107)).heap.size:=sm;have hylt:=hy.lt;obtain ⟨i0,hi0,hz0,hz1,hz2⟩:=qy Tryz.ahP;clear hP0 hd hy hB0 hB hap
 go_enter Tryz.func32,Tryz.ntmps32
 go_wp2_with fail
 generalize w.alloc (.cells #[.pointer (some ⟨d,0,none⟩),.pointer (some ⟨y,0,none⟩),.slice ba B.length bc,.bool ex,.slice none 0 0] 107)=W0 at*;refine (aaO W0 _ _ _ _ _ HP0.iV (jZ hL om)).mono ?_;rintro e w8 ⟨lv,rfl,rl1,b1⟩;obtain ⟨la,jq,rfl⟩:=iq rl1;have h8:=ah (HP0.below b1);have B8:=ah (HB0.trans (b1.mono HB0.size));have hsz:w.heap.size<w8.heap.size:=iZ hsz0 b1.size;have c4:w8.drew.cell? ⟨w.heap.size,4,none⟩=some (.slice none 0 0):=(h8.below ((bG _ w8).drew)).c4;have z4:=h8.fz 4;have Hc:=ah (fun (W:World) (hb:aC w8 W)=>V7 W y Pv D (h8.below hb).ref om);clear b1 rl1 HP0 HB0 hsz0;go_wp2;have hT:RV w.heap.size w8.drew:=c4;refine yT (RV w.heap.size) 14 kr ?_;refine tk 0 hT ?_;refine tk 1 hT ?_;refine tk 2 hT ?_;refine tk 3 hT ?_;refine tk 4 hT ?_;refine tk 5 hT ?_;refine tk 6 hT ?_;refine tk 7 hT ?_;refine wo 8 fun K8 hK8=> ?_;go_simp;go_at_call 58
 refine (uh Hc _ ((bG _ w8).drew)).mono ?_;rintro e w9 ⟨Q9,rfl,hD9,hQ9,b9⟩;have B9:Hid (aC w8 w9):=((bG _ w8).drew).trans b9;have HD9:=ah hD9;have HQ9:=ah hQ9;have hT2:RV w.heap.size w9:=(h8.below B9).c4;have hT3: ∀ o,RV w.heap.size (w9.alloc o):=fun o=>(h8.below (B9.alloc B9.size o)).c4;clear b9 hD9 hQ9;refine hK8 _ _ (ay hT2) ?_;refine tk 9 hT2 ?_;refine wo 10 fun K10 hK10=> ?_;go_simp;refine hK10 _ _ (ay (hT3 _)) ?_;refine wo 11 fun K11 hK11=> ?_
 refine Jq _ (by rfl) _ _ _ (by rfl) 0 109 i0 _ 2 16 Tryz.underlying105 hi0 hz0 hz1 hz2 (by rfl) om (.slice none 0 0) 0 [] (by rfl) (wF _ _ _ _) ⟨w9.heap.size,0,none⟩ 1 1 [.int .i64 (V.L.length:Nat),.pointer (some ⟨w8.heap.size,0,none⟩)] (by rfl) (by rfl) (pU (cs:= #[.int .i64 (V.L.length:Nat),.pointer (some ⟨w8.heap.size,0,none⟩)]) (t:=109) (fr:=(0,0)) (aW w9 _)) (by intro u hu;simp at hu;rcases hu with rfl | rfl <;> rfl) om (by unfold maxLen;omega) om om (w9.heap.size+1) sm ?_;intro g5 cap5 w5 hown5 hgrow hat uP;have b5:=ah (qH hgrow (h8.below (B9.alloc B9.size _)).aF h8.Xy);have c5:w5.cell? ⟨w.heap.size,4,none⟩=some (.slice none 0 0):=(aG b5 4).trans rfl;have z5: ∀ i,w5.frozen? ⟨w.heap.size,i,none⟩=false:=fun i=>eG b5 i;have hT5:RV w.heap.size w5:=c5;have hg5:g5=w9.heap.size+1:=by
  rcases hat with x | x
  ·cases x
  ·exact x
 have hfin:=dO.ag1 (m:=⟨V.L.length,w8.heap.size,Q9,D⟩) (h8.below (B9.alloc B9.size _)) hgrow hown5 (by right;rw [hg5];simp) uP (HD9.below ((bG _ w9).alloc (aP _) _)) (fun e=>by simp only at e;omega) w (by have h1:=B8.size;have h2:=B9.size;simp;omega) ⟨by simp only;omega,fun g hg=>by have h2:=uh HQ9 g hg;have h3:w8.drew.heap.size=w8.heap.size:=rfl;omega⟩;have hB5:aC w (w5.setCell ⟨w.heap.size,4,none⟩ (.slice (some ⟨g5,0,none⟩) (0+1) cap5)):=((B8.trans ((B9.alloc B9.size _).mono B8.size)).grown hgrow (by have h2:=B9.size;simp;omega) (fun k hk=>by cases hk)).setCell (aP _) _;have Bv:=ah hfin;have HB5:=ah hB5;clear hgrow hown5 hfin hB5 hg5 hat;refine hK11 _ _ (ay hT5) ?_;refine wv 12 hT5 ?_;refine wv 13 hT5 ?_;refine wo 14 fun K14 hK14=> ?_;go_simp;refine hK14 _ _ (aA rfl) ?_;refine tu kr ?_ _;clear hT hT2 hT3 hT5;go_wp2;go_ret;obtain ⟨f1,f2,f3⟩:=uh Bv
 refine ⟨w.heap.size,rfl,.slice (some ⟨g5,0,none⟩) 1 cap5,⟨V.L.length,w8.heap.size,Q9,D⟩,rfl,rfl,_,f1,uh HB5,fun k hk=> ?_⟩;rcases f3 k hk with (x | x) | x
 ·exact aA x
 ·exact ay om
 ·exact ay x
end
section
attribute [local go_sem ↓] dw fP fZ J7
attribute [local go_sem] dK fO fV gK gy aV KG jc jd
structure vK (w w':World) (p:Nat) (P:gW) (S:Nat→Prop) (P':gW) (S':Nat→Prop):Prop where
 at':dO w' p P' S'
 base:P'.B=P.B
 marks:P'.ms=P.ms
 ex:P'.ex=P.ex
 log:P'.V.L.length≤P.V.L.length+100
 abL:0<P.V.L.length→0<P'.V.L.length
 kept:Kept S w w'
 new: ∀ k,S' k→S k∨w.heap.size≤k
theorem ar4 (l:List (Option (Nat × aj))): ∀ V:aB,V.L.length≤(Um V l).L.length:=by
 induction l with
 | nil=>intro V;exact aP _
 | cons x r ih=>
  intro V;refine jZ ?_ (ih (XV V x));cases x with
  | none=>
   show V.L.length≤(fJ V).L.length;unfold fJ;split
   ·simp
   ·exact aP _
  | some y=>
   show V.L.length≤(bT V y.1 y.2).L.length;unfold bT;split
   ·exact aP _
   ·show V.L.length≤((l9 V).L++[_]).length;unfold l9;split
    ·show V.L.length≤((V.L++_)++[_]).length;simp
    ·simp
theorem iF.zT {V V':aB} (h:iF V V'):V.L.length≤V'.L.length:=by
 obtain ⟨l,rfl⟩:=h;exact ar4 l V
theorem ar9 (V:aB) (n:Int) (data:aj):iF V (FT V n data).1:=by
 have h1:=Ky (ajG (iF.refl V) (placeOf V n) data) (dL [(placeOf V n).block]);have h2:=Ky (ajH (iF.refl V) (placeOf V n) data) (dL [(placeOf V n).second,(placeOf V n).block]);have h3:=((iF.refl V).put ((placeOf V n).block%32768) data).flush;have h0:=iF.refl V;unfold FT Jk;generalize oD (uz V (placeOf V n) data) (dL [(placeOf V n).block])=A at*;generalize oD (uD V (placeOf V n) data) (dL [(placeOf V n).second,(placeOf V n).block])=B at*;split
 ·exact h0
 ·split
  ·split
   ·exact h2
   ·exact h0
  ·split
   ·split
    ·exact h1
    ·exact h0
   ·exact h3
theorem vK.did {w w4 w5 w6:World} {p:Nat} {P:gW} {S:Nat→Prop} {C1 L1 Qv:Value} {V':aB} {D':dY} (h:dO w p P S) (hb:aC w w4) (hs:bZ w4 w5 P.v P.Cv P.Lv C1 L1 V') (hk:Kept (fun k=>k=P.y) w5 w6) (hr:eP w6 P.y Qv D') (hq: ∀ g,Qv.ownBlock=some g→S g∨w.heap.size≤g)
  (hl:V'.L.length≤P.V.L.length+100) (hm:P.V.L.length≤V'.L.length):vK w w6 p P S { P with Cv:=C1,Lv:=L1,V:=V',D:=D',Pv:=Qv } (fun k=>(S k∨eX P.v C1 L1 k)∨Qv.ownBlock=some k):=by
 have h4:=h.below hb;have h5:=h4.step hs;refine ⟨h5.asw hk hr,rfl,rfl,rfl,hl,fun h0=>iZ h0 hm,((Kept.dS hb).trans (h4.adb hs)).trans (hk.mono fun k e=>by rw [e];exact h.J3),fun k hk'=> ?_⟩;rcases hk' with x | x
 ·rcases h4.QS hs k x with y | y
  ·exact aA y
  ·have:=hb.size;exact ay om
 ·exact hq k x
theorem ati (D:dY) (n:Int) (data:aj) (hb:kP n=true):Ie D n data=(Ih D n.toNat data,0):=by
 unfold Ie Ih;rw [au hb]
def Z7 (p bo c d:Nat) (n:Int) (data:aj) (w':World):Prop:=w'.cell? ⟨p,0,none⟩=some (.pointer (some ⟨d,0,none⟩))∧w'.cell? ⟨bo,1,none⟩=some (.int .i64 n)∧dN w' c 0 64∧dI w' c 0 64=cv data
def Z8 (p bo c y:Nat) (n:Int) (data:aj) (w':World):Prop:=w'.cell? ⟨p,1,none⟩=some (.pointer (some ⟨y,0,none⟩))∧w'.cell? ⟨bo,1,none⟩=some (.int .i64 n)∧dN w' c 0 64∧dI w' c 0 64=cv data
theorem dO.agV {w:World} {p:Nat} {P:gW} {S:Nat→Prop} (h:dO w p P S):p≠P.y:=fun e=>by
 have hb:=h.aF;rw [e] at hb;exact absurd (Pz hb h.ref.aF) dc
theorem avg (w:World) (p:Nat) (P:gW) (S:Nat→Prop) (N0:Nat) (E:List aX) (h:dO w p P S) (hst:pF P N0 E) (hL:P.V.L.length≤400000000) (o:nZ) (ht:o.text.size≤maxLen):
  Calls Tryz.prog 62 #[.pointer (some ⟨p,0,none⟩),.agg (dH o).toArray] w fun e w'=>e= .returned (.bool true)∧ ∃ P',pF P' N0 E∧ ∃ S',vK w w' p P S P' S':=by
 have hg:=hst.bP;obtain ⟨k1,k2,k3,k4,k5⟩:=hg.look;have h7:=hg.file.seven;have qI:=hg.file.most;have pY:=hg.file.lens;have hr0:(⟨N0,0,[]⟩:bC) ∈ aH N0 E:=by simp [aH]
 have hin:=hg.sound.JZ hr0;have hdl:(EZ o.text.data.toList).length=64:=VU _ _ (Nat.min_le_left _ _) (Nat.min_le_right _ _);have hcase:=hg.write (data:=EZ o.text.data.toList) o.n hdl;have Aw:=hg.avf (data:=EZ o.text.data.toList) o.n hdl;have hlP:=(ar9 P.V o.n (EZ o.text.data.toList)).zT;have hb0:aC w (w.alloc (.cells (dH o).toArray 80)):=fC;have hbx0:(w.alloc (.cells (dH o).toArray 80)).heap[w.heap.size]? = some (.cells (dH o).toArray 80 (0,0)):=aW _ _;have c0:=(h.below hb0).c0;have H:=ah h;have HG:=ah hg;have HS:=ah hst;have B0:=ah hb0;have X0:=ah hbx0;have HC:=ah hcase;have hft:=fun k hk=>H.lt k (H.BN k (ay hk));have Nc:=ah hft;clear h hg hb0 hbx0 hcase hft hst
 go_enter Tryz.func62,Tryz.ntmps62
 go_wp2_with fail
 generalize w.alloc (.cells (dH o).toArray 80)=w0 at*;refine (Nv w0 _ _ _ _ _ (H.below B0).iV om om).mono ?_;rintro e w1 ⟨fv,rfl,rf1,b1⟩;have B1:=ah (B0.trans (b1.mono B0.size));have X1:=ah ((b1.block _ (aO X0)).trans X0);have R1:Hid (lK w1 fv P.V.C):=⟨Ci rf1 (nN _),pY⟩;clear B0 X0 rf1 b1 c0
 go_wp2_with fail
 refine (NV w1 fv P.V.C R1 om).mono ?_;rintro e w2 ⟨rfl,fl,fr,hLk⟩;have B2:=ah (B1.trans (hLk.below.mono B1.size));have X2:=ah ((hLk.below.block _ (aO X1)).trans X1);have F2:=ah hLk.at';have hfr: ∀ g,fl.ownBlock=some g→w.heap.size≤g:=fun g hg=>jZ B1.size (hLk.fresh g hg);have KZ:=ah hfr;have hfs:w.heap.size≤w1.heap.size:=B1.size;have ct:w2.cell? ⟨w.heap.size,3,none⟩=some (.string o.text):=(aG X2 3).trans rfl;clear hLk B1 X1 R1 hfr;generalize w1.heap.size=f at*
 go_wp2_with fail
 refine (afP o.text w2 ht).mono ?_;rintro e w3 ⟨rfl,b3⟩;generalize EZ o.text.data.toList=data at*;have hb4:=(B2.trans (b3.mono B2.size)).alloc (by have:=B2.size;have:=b3.size;omega) (.cells (cv data).toArray 38);have hx4:(w3.alloc (.cells (cv data).toArray 38)).heap[w.heap.size]? = some (.cells (dH o).toArray 80 (0,0)):=(jE _ _ _ (by have:=aO X2;have:=b3.size;omega)).trans ((b3.block _ (aO X2)).trans X2);have hd4:(w3.alloc (.cells (cv data).toArray 38)).heap[w3.heap.size]? = some (.cells (cv data).toArray 38 (0,0)):=aW _ _;have hF4:=F2.below (b3.alloc b3.size (.cells (cv data).toArray 38));have hs3:w.heap.size<w3.heap.size:=by have:=aO X2;have:=b3.size;omega
 have B4:=ah hb4;have X4:=ah hx4;have D4:=ah hd4;have F4:=ah hF4;clear hb4 hx4 hd4 hF4 b3 B2 X2 F2 ct;go_wp2;generalize hW4:w3.alloc (.cells (cv data).toArray 38)=w4 at*;generalize w3.heap.size=c at*;clear hW4;have c0:=(H.below B4.drew).c0;have cn:w4.drew.cell? ⟨w.heap.size,1,none⟩=some (.int .i64 o.n):=(aG (w:=w4) X4 1).trans rfl;have l1:dN w4.drew c 0 64:=gZ (w:=w4) D4 hdl;have l2:dI w4.drew c 0 64=cv data:=gY (w:=w4) D4 hdl;have Hw:=ah (HG.aoc (data:=data) (H.below B4.drew).iV om o.n hdl);generalize hR:FT P.V o.n data=R at*;have HR:=ah hR;clear hR;have hT:Z7 p w.heap.size c P.d o.n data w4.drew:=⟨c0,cn,l1,l2⟩;refine yT (Z7 p w.heap.size c P.d o.n data) 8 kr ?_;refine tk 0 hT ?_;refine tk 1 hT ?_;refine tk 2 hT ?_;refine tk 3 hT ?_;refine tk 4 hT ?_;refine tk 5 hT ?_;refine tk 6 hT ?_;refine wo 7 fun K7 hK7=> ?_;go_simp;go_at_call 26;refine Hw.mono ?_;rintro e w5 ⟨rfl,C5,L5,hS5⟩
 have S5:Hid (bZ w4 w5 P.v P.Cv P.Lv C5 L5 R.1):=⟨hS5.at',⟨hS5.kept.os,hS5.kept.tape,hS5.kept.output,hS5.kept.size,hS5.kept.block⟩,hS5.new⟩;have h5:=ah ((H.below B4).step S5);have hnf: ∀ k,w.heap.size≤k→ ¬ eX P.v P.Cv P.Lv k:=fun k hk hf=>by have:=uh Nc k hf;omega
 have X5:=ah (S5.kept.aF (hnf _ (aP _)) X4);have D5:=ah (S5.kept.aF (hnf _ (Nat.le_of_lt hs3)) D4);have F5:=ah (F4.kept S5.kept (hnf _ hfs) (fun g hg=>hnf g (uh KZ g hg)) (fun g hg=>by obtain ⟨cs,fr',hb⟩:=KE F4.o8 hg;exact (H.below B4).Ny hb dc dc dc));have c05:=h5.c0;have cn5:w5.cell? ⟨w.heap.size,1,none⟩=some (.int .i64 o.n):=(aG X5 1).trans rfl;have l15:dN w5 c 0 64:=gZ D5 hdl;have l25:dI w5 c 0 64=cv data:=gY D5 hdl;have hT5:Z7 p w.heap.size c P.d o.n data w5:=⟨c05,cn5,l15,l25⟩;clear hS5 hnf;refine hK7 _ _ (ay hT5) ?_;refine wo 8 fun K8 hK8=> ?_;go_simp;refine hK8 _ _ (aA rfl) ?_;refine tu kr ?_ _;clear hT hT5 l1 l2 cn c0 Hw X4 D4 F4;have hD0:=HS.nS;have hsplit:(((R.2:Nat):Int) == 5)=false∧(Ie P.D o.n data).2=R.2∧pF { P with Cv:=C5,Lv:=L5,V:=R.1,D:=(Ie P.D o.n data).1 } N0 E∨(kP o.n=true∧R=(P.V,5)∧ ∀ R:aU,R.L=P.V.C→R.roots=aH N0 E→Eb P.V.C<LP R o.n.toNat):=by
  rcases uh HC with ⟨hb,e1⟩ | ⟨hb,e2,hW⟩ | hfull
  ·left
   have hrf:Ie P.D o.n data=(P.D,1):=by unfold Ie;rw [ak (by rw [hb];decide)]
   rw [e1,hrf];exact ⟨rfl,rfl,HS.bP,HS.nS,HS.exact⟩
  ·left
   rw [ati _ _ _ hb,e2];exact ⟨rfl,rfl,hW.bP,by rw [hW.holds,hD0],fun hx=>hW.exact (HS.exact hx)⟩
  ·exact ay hfull
 clear HC;rcases hsplit with ⟨hne,hsame,hst'⟩ | ⟨hb,e1,hfull⟩
 ·have fK:=ah hst';have al1:=ah hsame;have c15:=h5.c1;clear hst' hsame
  go_wp2_with fail
  have vP:Z8 p w.heap.size c P.y o.n data w5.drew:=⟨c15,cn5,l15,l25⟩;have hylt:=H.ref.lt;have Qb:=H.lt _ H.zQ;have ZC:=ah (fun W=>Dp ((R.2:Nat):Int) W);have RS:=ah (asy w5.drew P.y P.Pv P.D (h5.ref.below ((bG _ w5).drew)) o.n data hdl);have VA:=ah (fun (w6:World) (hr:eP w6 P.y P.Pv (Ie P.D o.n data).1) (hk:Kept (fun x=>x=P.y) w5.drew w6)=>vK.did (w6:=w6) (D':=(Ie P.D o.n data).1) H B4 S5 ⟨hk.os,hk.tape,hk.output,hk.size,hk.block⟩ hr (fun g hg=>aA (H.iC g (aA hg))) om om);have hpy:=h5.agV;have hp5:p<w5.heap.size:=iZ Qb (jZ B4.size S5.kept.size);have HT6:=ah (fun (w6:World) (hk:Kept (fun x=>x=P.y) w5.drew w6)=>(show Z8 p w.heap.size c P.y o.n data w6 from
   ⟨(OX (hk.block p hp5 hpy)).trans c15,(aG (hk.aF (show ¬ w.heap.size=P.y by omega) X5) 1).trans rfl,gZ (hk.aF (show ¬ c=P.y by omega) D5) hdl,gY (hk.aF (show ¬ c=P.y by omega) D5) hdl⟩))
  clear hpy hp5;refine yT (Z8 p w.heap.size c P.y o.n data) 11 kr ?_;refine tk 0 vP ?_;refine tk 2 vP ?_;refine tk 3 vP ?_;refine tk 4 vP ?_;refine tk 5 vP ?_;refine tk 6 vP ?_;refine tk 7 vP ?_;refine tk 8 vP ?_;refine wo 1 fun K1 hK1=> ?_;go_simp;go_at_call 64;refine (uh ZC _).mono ?_;rintro e w5' ⟨rfl,rfl⟩;refine hK1 _ _ (ay vP) ?_;refine wo 9 fun K9 hK9=> ?_;go_simp;go_at_call 118;refine RS.mono ?_;rintro e w6 ⟨rfl,hr6,hk6⟩;have HP6:=ah (uh VA w6 hr6 hk6);have hT6:=uh HT6 w6 hk6;rw [uh al1];clear hr6 hk6;refine hK9 _ _ (ay hT6) ?_;refine tk 10 hT6 ?_;refine wo 11 fun K11 hK11=> ?_;go_simp;refine hK11 _ _ (aA rfl) ?_;refine tu kr ?_ _;clear vP hT6;go_wp2;go_ret;exact ⟨rfl,_,uh fK,_,uh HP6⟩
 ·have e2:R.2=5:=by rw [e1]
  have e3:R.1=P.V:=by rw [e1]
  have hbl:=Nq hb;have hn0:0≤o.n:=by unfold kP at hb;simp at hb;omega
  obtain ⟨nb,hnb⟩:=CP hn0;have hfu:=hfull (look P.V.C) k2 k3;rw [hnb,vC] at hfu hbl;rw [e3] at S5 h5;rw [e2];have GL:=vK.did H B4 S5 (Kept.refl _ w5) h5.ref (fun g hg=>aA (H.iC g (aA hg))) (ad3 _ _) (aP _);have alI:=ah GL;have fK:Hid (pF { P with Cv:=C5,Lv:=L5,V:=P.V,D:=P.D } N0 E):=⟨HS.bP,HS.nS,HS.exact⟩;have hrt:rootOf (look P.V.C) 0=⟨N0,0,[]⟩:=by unfold rootOf;rw [k3];rfl
  have uj:=ah (fun (W:World) (hB:aC w5 W)=>aqy W f fl fr (look P.V.C) (F5.below hB) nb hbl (by rw [k3];simp [aH]) (by rw [hrt,k2];exact hin.at') (by
   rw [hrt,k2]
   by_cases hz:num (cl P.V.C N0) (2*(nb / 32))=0
   ·rw [hz];omega
   ·exact hin.second (nb / 32) om hz) (by rw [k2];exact qI))
  have Hfe:=ah (fun (W:World) (hB:aC w5 W)=>agX W f fl fr (look P.V.C) (F5.below hB) (by rw [k2];exact qI) (by rw [k2];omega));rw [hnb] at cn5 hb;have Hib:=ah (fun W=>Xc (nb:Int) W);clear hnb hn0;have cb5:=F5.CY;rw [k1] at cb5;rw [k2] at Hfe;have hgt:decide ((Eb P.V.C:Int)<(LP (look P.V.C) nb:Int))=true:=by simp;exact hfu
  clear GL e1 e2 e3 hfull hrt
  go_wp2_with fail
  refine (uh Hib _).mono ?_;rintro e w6 ⟨rfl,rfl⟩;rw [hb]
  go_wp2_with fail
  refine (uh uj _ (bG _ _)).mono ?_;rintro e w7 ⟨rfl,b7⟩;have B7:=ah b7;clear b7
  go_wp2_with fail
  refine (uh Hfe _ B7).mono ?_;rintro e w8 ⟨rfl,rfl⟩;generalize Eb P.V.C=fr0 at*;generalize LP (look P.V.C) nb=ne0 at*;go_wp2;go_ret;have GL:=uh alI;exact ⟨rfl,_,uh fK,_,⟨GL.at'.below B7,GL.base,GL.marks,GL.ex,GL.log,GL.abL,GL.kept.trans (Kept.dS B7),GL.new⟩⟩
end
section
attribute [local go_sem ↓] dw fP fZ J7 jG
attribute [local go_sem] dK fO fV gK gy aV KG jc jd
structure OZ (w w':World) (b:Nat) (B:lX) (U:Nat→Prop) (V':ou) (B':lX) (U':Nat→Prop) (m:Nat):Prop where
 at':iK w' b V' B' U'
 next:B'.next≤B.next+2
 files:B'.files.length≤B.files.length+4
 writes:B'.writes.length≤B.writes.length+4
 names:B'.names.length≤B.names.length+4
 TY: ∀ x ∈ B'.files,x ∈ B.files∨x.n≤258
 Uc: ∀ x ∈ B'.writes,x ∈ B.writes∨x.n≤m
 Ua: ∀ x ∈ B'.names,x ∈ B.names∨x.n≤8
 kept:Kept U w w'
 new: ∀ k,U' k→U k∨w.heap.size≤k
theorem amL (w:World) (p b:Nat) (P:gW) (S U:Nat→Prop) (N0:Nat) (E:List aX) (V:ou) (B:lX) (h:dO w p P S) (hst:pF P N0 E) (hb:iK w b V B U) (pX: ∀ k,S k→ ¬ U k) (hL:P.V.L.length≤900000000) (hnx:B.next≤900000000) (hfl:B.files.length≤9000000000) (hwl:B.writes.length≤9000000000) (o:nZ) (hk:o.kind=9):
  Calls Tryz.prog 67 #[.pointer (some ⟨p,0,none⟩),.pointer (some ⟨b,0,none⟩),.agg (dH o).toArray] w fun e w'=>e= .returned (.bool true)∧
   ∃ V' B' U',OZ w w' b B U V' B' U' (P.V.L.length+2):=by
 have hg:=hst.bP;have h7:=hg.file.seven;have qI:=hg.file.most;have pY:=hg.file.lens;have Aw:=h.iV.bP.zT;have hb0:aC w (w.alloc (.cells (dH o).toArray 80)):=fC;have hbx0:(w.alloc (.cells (dH o).toArray 80)).heap[w.heap.size]? = some (.cells (dH o).toArray 80 (0,0)):=aW _ _;have ck:(w.alloc (.cells (dH o).toArray 80)).cell? ⟨w.heap.size,0,none⟩=some (.int .i64 9):=by rw [aG hbx0 0,bW];show some (Value.int .i64 o.kind)=_;rw [hk]
 have c0:=(h.below hb0).c0;have H:=ah h;have HB:=ah hb;have B0:=ah hb0;have hUlt:=hb.lt;have ahb:=h.lt;clear h hb hb0 hbx0 hg hst
 go_enter Tryz.func67,Tryz.ntmps67
 go_wp2_with fail
 generalize w.alloc (.cells (dH o).toArray 80)=w0 at*;refine (Nv w0 _ _ _ _ _ (H.below B0).iV om om).mono ?_;rintro e w1 ⟨fv,rfl,rf1,b1⟩;have B1:=ah (B0.trans (b1.mono B0.size));have hs0:w.heap.size≤w0.heap.size:=B0.size;have hfv: ∀ g,fv.ownBlock=some g→w.heap.size≤g:=fun g hg=>jZ hs0 (rf1.lt g hg).1;have R1:=ah (Ci rf1 (nN _));clear b1 B0 c0 ck rf1
 go_wp2_with fail
 refine (arx w1 b V B U fv P.V.C (HB.below B1) R1 pY (fun g hg hu=>by have:=hfv g hg;have:=hUlt g hu;omega) om om om).mono ?_;rintro e w2 ⟨rfl,V2,B2,U2,hB2,n2,l2,SI,SH,m2,k2,s2⟩;have K2:Hid (Kept (fun k=>U k∨w.heap.size≤k) w w2):=(Kept.dS B1).trans (k2.mono fun k hk=>by
  rcases hk with x | x
  ·exact aA x
  ·exact ay (hfv k x))
 have H2:=ah (H.kept K2 (fun k hk hu=>by
  rcases hu with x | x
  ·exact pX k hk x
  ·have:=ahb k hk;omega))
 have HB2:=ah hB2;have c02:=H2.c0;have hsz2:=K2.size;have hsz1:=B1.size;have hU2: ∀ k,U2 k→U k∨w.heap.size≤k:=fun k hk=>by
  rcases s2 k hk with x | x | x
  ·exact aA x
  ·exact ay (hfv k x)
  ·exact ay om
 have ahd:=hB2.lt;have HU2:=ah hU2;have alH:=ah ahd;have Hm2:=ah m2;have He:=ah (And.intro SI SH);have hn2:B2.next≤B.next+1:=om;have hl2:B2.files.length≤B.files.length+3:=om;have hw2:B2.writes.length≤B.writes.length:=by rw [SI];exact aP _
 have avQ:B2.names.length≤B.names.length:=by rw [SH];exact aP _
 clear hB2 k2 s2 hU2 m2 SI SH n2 l2 ahd R1
 go_wp2_with fail
 refine (aaO w2 _ _ _ _ _ H2.iV om).mono ?_;rintro e w3 ⟨lv,rfl,rl3,b3⟩;have hlv: ∀ g,lv.ownBlock=some g→w2.heap.size≤g:=fun g hg=>(rl3.lt g hg).1;have B3:=ah b3;have R3:=ah (Ci rl3 (nN _));clear b3 rl3 c02
 go_wp2_with fail
 refine (arA w3 b V2 B2 U2 lv P.V.L (HB2.below B3) R3 Aw (fun g hg hu=>by have:=hlv g hg;have:=uh alH g hu;omega) om om om).mono ?_;rintro e w4 ⟨rfl,V4,B4,U4,hB4,n4,l4,SK,e4n,m4,k4,s4⟩;have hfin:OZ w w4 b B U V4 B4 U4 (P.V.L.length+2):=by
  obtain ⟨SI,SH⟩:=uh He;refine ⟨hB4,om,by rw [SK];omega,om,by rw [e4n];omega,fun x hx=> ?_,fun x hx=> ?_,fun x hx=>aA (by rw [e4n,SH] at hx;exact hx),?_,fun k hk=> ?_⟩
  ·rw [SK] at hx;rcases uh Hm2 x hx with y | y
   ·exact aA y
   ·exact ay om
  ·rcases m4 x hx with y | y
   ·exact aA (by rw [← SI];exact y)
   ·exact ay y
  ·refine ⟨k4.os.trans (B3.os.trans K2.os),k4.tape.trans (B3.tape.trans K2.tape),k4.output.trans (B3.output.trans K2.output),jZ hsz2 (jZ B3.size k4.size),fun k hk hnu=> ?_⟩;rw [k4.block k (by have:=B3.size;omega) (fun hu=> ?_),B3.block k om,K2.block k hk (fun hu=>by
    rcases hu with x | x
    ·exact hnu x
    ·omega)]
   rcases hu with x | x
   ·rcases uh HU2 k x with y | y
    ·exact hnu y
    ·omega
   ·have:=hlv k x;omega
  ·rcases s4 k hk with x | x | x
   ·exact uh HU2 k x
   ·have:=hlv k x;exact ay om
   ·have:=B3.size;exact ay om
 have Bv:=ah hfin;clear hfin hB4 k4 s4 m4;go_wp2;go_ret;exact ⟨rfl,_,_,_,uh Bv⟩
end
end Go.Proofs.YtknjjjenklfeoaaGreatDoor
