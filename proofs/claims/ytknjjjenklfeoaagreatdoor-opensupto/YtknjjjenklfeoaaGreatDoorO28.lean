import Derived.Test.YtknjjjenklfeoaaGreatDoorO27
import Derived.Deep.CutBlock
import Derived.Test.YtknjjjenklfeoaaGreatDoorO25
set_option maxHeartbeats 8000000
set_option maxRecDepth 100000
set_option linter.all false
namespace Go.Proofs.YtknjjjenklfeoaaGreatDoor
open Go.RowKit
attribute [local go_sem ↓] dw kT lZ agr
attribute [local go_sem] dK kY mD aV
def afj (parts:Array (Nat × Value)):Sem Value:=Instr.buildSlice 105 1 parts
theorem afq (parts:Array (Nat × Value)):Instr.buildSlice 105 1 parts=afj parts:=rfl
theorem aj7 {w:World} {n:Int} {d:Nat}:(afj #[(0,.agg #[.int .i64 n,.pointer (some ⟨d,0,none⟩)])]).run Tryz.prog w= .ok (.slice (some ⟨w.heap.size,0,none⟩) 1 1) (w.alloc (.cells #[.int .i64 n,.pointer (some ⟨d,0,none⟩)] 109)):=
 Ux w 105 109 2 (.agg #[.int .i64 0,.pointer none]) (.agg #[.int .i64 n,.pointer (some ⟨d,0,none⟩)]) Tryz.underlying105 kr om om (by rfl)
theorem Tryz.ahP:(Tryz.prog.info? 109).map (fun i=>(i.zero,i.size,i.bytes))=some (some (.agg #[.int .i64 0,.pointer none]),2,16):=kr
attribute [local go_sem ↓] afq
attribute [local go_sem] aj7
def RU (p:Nat) (Mv:Value) (y:Nat) (w':World):Prop:=w'.cell? ⟨p,4,none⟩=some Mv∧w'.cell? ⟨p,1,none⟩=some (.pointer (some ⟨y,0,none⟩))
structure pF (P:gW) (N0:Nat) (E:List aX):Prop where
 bP:bD P.B P.V N0 E
 nS:bU P.V.C N0 E=P.D
 exact:P.ex=true→wI P.V.C (aH N0 E)
theorem iL.iV {L:List aj} {N0:Nat} {E:List aX} (h:iL E):(bU L N0 E).L.length≤4:=by
 unfold bU;simp only [tH];exact h.len
theorem pF.last {P:gW} {N0:Nat} {E:List aX} (h:pF P N0 E):P.V.L=[]∨(0<P.V.L.length∧CG P.V.L (P.V.L.length - 1)=Gw):=by
 rcases h.bP.log.tail h.bP.agE with e | ⟨l,e⟩
 ·exact aA e
 ·right
  refine ⟨by rw [e];simp,?_⟩;unfold CG;rw [e,aK,oO,Zb,Nat.add_sub_cancel,nP (aP _),Bf];rfl
structure Std (w W:World) (p:Nat) (P:gW) (S:Nat→Prop) (fv lv:Value):Prop where
 at':dO W p P S
 below:aC w W
 file:lK W fv P.V.C
 log:Le W lv P.V.L
theorem Std.later {w W W':World} {p:Nat} {P:gW} {S:Nat→Prop} {fv lv:Value} (h:Std w W p P S fv lv) (b:aC W W'):Std w W' p P S fv lv:=
 ⟨h.at'.below b,h.below.trans (b.mono h.below.size),h.file.kept (S:=fun _=>False) (Kept.dS b) (fun _ _=>id),⟨bQ (Kept.dS (S:=fun _=>False) b) h.log.row (fun _ _=>id),h.log.lens⟩⟩
theorem UE (w:World) (p:Nat) (P:gW) (S:Nat→Prop) (N0:Nat) (E:List aX) (h:dO w p P S) (hst:pF P N0 E) (hL:P.V.L.length≤900000000) (hB:P.B.length≤1000) (hms:P.ms.length≤1000000000):
  Calls Tryz.prog 33 #[.pointer (some ⟨p,0,none⟩)] w fun e w'=>e= .returned (.bool true)∧
   ∃ ZT m,m.log=P.V.L.length∧m.D=P.D∧ ∃ S',dO w' p { P with Mv:=ZT,ms:=P.ms++[m] } S'∧Kept S w w'∧ ∀ k,S' k→S k∨w.heap.size≤k:=by
 have hg:=hst.bP;obtain ⟨k1,k2,k3,k4,k5⟩:=hg.look;have hdo:D9 (look P.V.C)=P.D:=by rw [hg.nS];exact hst.nS
 have aeH:=ah hst.last;have h7:=hg.file.seven;have qI:=hg.file.most;have hrep:=hg.log.rep;have hlow:=hg.log.low;have pY:=hg.file.lens;have Aw:=h.iV.bP.zT;have hDl:P.D.L.length≤4:=by rw [← hst.nS];exact hg.file.jT.iV
 have hrl:(look P.V.C).roots.length≤5:=by rw [k3];have:=hg.file.jT.len;simp [aH];omega
 have hr0:0<(look P.V.C).roots.length:=by rw [k3];simp [aH]
 have Gi:Hid (∀ i,i<(look P.V.C).roots.length→rH (look P.V.C).L (rootOf (look P.V.C) i).N):=fun i hi=>by
  unfold rootOf;rw [k2,k3];rw [k3] at hi;apply hg.sound.JZ;rw [aK,bI hi];exact oP hi
 have aez:Hid (P.ex=true→y7 (look P.V.C)=true):=fun e=>hg.y7 (hst.exact e);have c0:=h.c0;have H:=ah h;clear h hg hst
 go_enter Tryz.func33,Tryz.ntmps33
 go_wp2_with fail
 refine (Nv w _ _ _ _ _ H.iV om om).mono ?_;rintro e w1 ⟨fv,rfl,rf1,b1⟩;have h1:=ah (H.below b1);have c1:=h1.c0;have B1:=ah b1;have R1:=ah rf1;clear b1 rf1 c0
 go_wp2_with fail
 refine (aaO w1 _ _ _ _ _ h1.iV om).mono ?_;rintro e w2 ⟨lv,rfl,rl2,b2⟩;have Q2:Hid (Std w w2 p P S fv lv):=⟨h1.below b2,B1.trans (b2.mono B1.size),⟨Ci (bQ (Kept.dS (S:=fun _=>False) b2) R1 (fun _ _=>id)) (nN _),pY⟩,⟨Ci rl2 (nN _),Aw⟩⟩;clear b2 h1 B1 R1 rl2 c1
 go_wp2_with fail
 refine (NV w2 fv P.V.C Q2.file om).mono ?_;rintro e w3 ⟨rfl,fl,fr,hLk⟩;have Q3:=ah (Q2.later hLk.below);have HF3:=ah hLk.at';have cb:=hLk.at'.CY;rw [k1] at cb;clear hLk Q2;generalize w2.heap.size=f at*
 go_wp2_with fail
 refine (agh w3 f fl fr (look P.V.C) HF3 Gi (by rw [k2];exact qI) hr0 om).mono ?_;rintro e w4 ⟨d4,Q4,rfl,hd4,hD4,hQ4,b4⟩;rw [hdo] at hD4;have Q4:=ah (Q3.later b4);have HF4:=ah (HF3.below b4);have c4:=Q4.at'.c1;have HD4:=ah hD4;clear b4 Q3 HF3 cb hD4
 go_wp2_with fail
 refine (akd w4 d4 P.y _ _ _ _ HD4 Q4.at'.ref om om).mono ?_;rintro e w5 ⟨rfl,b5⟩;rw [akc.2 rfl];have Q5:=ah (Q4.later b5);have HF5:=ah (HF4.below b5);clear b5 Q4 HF4 c4 HD4
 go_wp2_with fail
 refine (ags w5 f fl fr (look P.V.C) HF5 (by rw [k2];exact qI) (by rw [k2];omega) hrl Gi (fun n=>by have:=k5 n;omega)).mono ?_;rintro e w6 ⟨rfl,b6⟩;have Q6:=ah (Q5.later b6);have c3:=Q6.at'.c3;clear b6 Q5 HF5;generalize y7 (look P.V.C)=xb at*
 go_upto_region 9 with fail
 go_cut [49] from 38 to 48 (fun c W=>c= .bool false∧W=w6)
 case first=>
  have hex:=uh aez;generalize P.ex=pe at*;cases pe
  ·go_wp2;go_meet;exact ⟨rfl,rfl⟩
  ·obtain rfl:=hex rfl;go_wp2;go_meet;exact ⟨rfl,rfl⟩
 case rest=>
  obtain ⟨rfl,hw⟩:=hcut;subst hw;have c2:=Q6.at'.c2;obtain ⟨ba,afd,hbv⟩:=iq Q6.at'.Dx.row;have Hbv:=ah hbv;clear c3 aez
  go_wp2_with fail
  refine (asG _ _ lv P.B P.V.L (by rw [← uh Hbv];exact Q6.at'.Dx) Q6.log hB om (fun x hx=>by have:=hlow x hx;omega)).mono ?_;rintro e w7 ⟨rv,rfl,rr7,apQ,b7⟩;rw [hrep] at rr7;have Q7:=ah (Q6.later b7);have RR7:Hid (lK w7 rv P.V.C):=⟨Ci rr7 (nN _),pY⟩;clear b7 Q6 rr7 apQ c2 hbv
  go_wp2_with fail
  refine (ath w7 rv fv P.V.C P.V.C RR7 Q7.file om om).mono ?_;rintro e w8 ⟨rfl,b8⟩;rw [eH rfl];have Q8:=ah (Q7.later b8);clear b8 Q7 RR7;obtain ⟨la,jq,rfl⟩:=iq Q8.log.row
  go_upto_region 12 with fail
  go_cut [10] from 58 to 70 (fun c W=>c= .bool true∧W=w8)
  case first=>
   rcases uh aeH with e | ⟨hpos,hlast⟩
   ·have d0:((P.V.L.length:Int) == 0)=true:=by rw [e];rfl
    clear e;go_wp2;go_meet;exact ⟨rfl,rfl⟩
   ·obtain ⟨lg,lc,hla,_⟩:=gB Q8.log.row hpos;obtain ⟨rfl,rfl⟩:la=some ⟨lg,0,none⟩∧jq=lc:=by injection hla with x1 x2 x3;exact ⟨x1,x3⟩
    have rg:=Q8.log.range (P.V.L.length - 1) om;rw [hlast,show Gw=⟨-1,zc⟩ from rfl] at rg;have l1:dN w8 lg ((P.V.L.length - 1)*65) 65:=sV (w:=w8) rg (uF aV);have l2:dI w8 lg ((P.V.L.length - 1)*65) 65=bM ⟨-1,zc⟩:=qX (w:=w8) rg (uF aV);have heq:=aj9 (x:=⟨-1,zc⟩) aV;have hNi:(0:Int)<(P.V.L.length:Int):=om;have d0:((P.V.L.length:Int) == 0)=false:=by rw [lI];omega
    clear rg hla hlast;go_wp2;go_meet;exact ⟨rfl,rfl⟩
  case rest=>
   obtain ⟨rfl,hw⟩:=hcut;subst hw;have h8:=ah Q8.at';have B8:=ah Q8.below;obtain ⟨i0,hi0,hz0,hz1,hz2⟩:=qy Tryz.ahP;have avP:P.ms.length<9223372036854775807:=om;clear Q8 aeH;have c4:=(h8.below ((bG _ wc).drew)).c4;have c1:=(h8.below ((bG _ wc).drew)).c1;have z4:=h8.fz 4;have Hc:=ah (fun (W:World) (hb:aC wc W)=>V7 W P.y P.Pv P.D (h8.below hb).ref om)
   go_wp2_with fail
   have hT:RU p P.Mv P.y wc.drew:=⟨c4,c1⟩;refine yT (RU p P.Mv P.y) 17 kr ?_;refine tk 0 hT ?_;refine tk 1 hT ?_;refine tk 2 hT ?_;refine tk 3 hT ?_;refine tk 4 hT ?_;refine tk 5 hT ?_;refine tk 6 hT ?_;refine tk 7 hT ?_;refine tk 8 hT ?_;refine tk 9 hT ?_;refine tk 10 hT ?_;refine wo 11 fun K11 hK11=> ?_;go_simp;go_at_call 58;refine (uh Hc _ ((bG _ wc).drew)).mono ?_;rintro e w9 ⟨Q9,rfl,hD9,hQ9,b9⟩;have B9:Hid (aC wc w9):=((bG _ wc).drew).trans b9;have HD9:=ah hD9;have HQ9:=ah hQ9;have hT2:RU p P.Mv P.y w9:=⟨(h8.below B9).c4,(h8.below B9).c1⟩;have hT3: ∀ o,RU p P.Mv P.y (w9.alloc o):=fun o=>⟨(h8.below (B9.alloc B9.size o)).c4,(h8.below (B9.alloc B9.size o)).c1⟩;clear b9 hD9 hQ9;refine hK11 _ _ (ay hT2) ?_;refine tk 12 hT2 ?_;refine wo 13 fun K13 hK13=> ?_;go_simp;refine hK13 _ _ (ay (hT3 _)) ?_;refine wo 14 fun K14 hK14=> ?_
   refine Jq _ (by rfl) _ _ _ (by rfl) 0 109 i0 _ 2 16 Tryz.underlying105 hi0 hz0 hz1 hz2 (by rfl) om P.Mv P.ms.length (P.ms.flatMap Xn) (by rfl) ((h8.below B9).Dy.alloc _) ⟨w9.heap.size,0,none⟩ 1 1 [.int .i64 (P.V.L.length:Nat),.pointer (some ⟨wc.heap.size,0,none⟩)] (by rfl) (by rfl) (pU (cs:= #[.int .i64 (P.V.L.length:Nat),.pointer (some ⟨wc.heap.size,0,none⟩)]) (t:=109) (fr:=(0,0)) (aW w9 _)) (by intro u hu;simp at hu;rcases hu with rfl | rfl <;> rfl) om (by unfold maxLen;omega) om om (w9.heap.size+1) sm ?_;intro g5 cap5 w5 hown5 hgrow hat uP;have b5:=ah (qH hgrow (h8.below (B9.alloc B9.size _)).aF h8.Xy);have c5:w5.cell? ⟨p,4,none⟩=some P.Mv:=(aG b5 4).trans rfl;have c51:w5.cell? ⟨p,1,none⟩=some (.pointer (some ⟨P.y,0,none⟩)):=(aG b5 1).trans rfl;have z5: ∀ i,w5.frozen? ⟨p,i,none⟩=false:=fun i=>eG b5 i;have hT5:RU p P.Mv P.y w5:=⟨c5,c51⟩
   have hfin:=dO.ag1 (m:=⟨P.V.L.length,wc.heap.size,Q9,P.D⟩) (h8.below (B9.alloc B9.size _)) hgrow hown5 (by
    rcases hat with x | x
    ·exact aA x
    ·right;rw [x];simp) uP (HD9.below ((bG _ w9).alloc (aP _) _)) (fun e=>by have:=h8.ref.lt;simp only at e;omega) w (by have h1:=B8.size;have h2:=B9.size;simp;omega) ⟨B8.size,fun g hg=>by have h1:=B8.size;have h2:=uh HQ9 g hg;have h3:wc.drew.heap.size=wc.heap.size:=rfl;omega⟩
   have Bv:=ah hfin;clear hgrow hown5 hfin;refine hK14 _ _ (ay hT5) ?_;refine wv 15 hT5 ?_;refine wv 16 hT5 ?_;refine wo 17 fun K17 hK17=> ?_;go_simp;refine hK17 _ _ (aA rfl) ?_;refine tu kr ?_ _;clear hT hT2 hT3 hT5;go_wp2;go_ret;obtain ⟨f1,f2,f3⟩:=uh Bv;refine ⟨rfl,.slice (some ⟨g5,0,none⟩) (P.ms.length+1) cap5,⟨P.V.L.length,wc.heap.size,Q9,P.D⟩,rfl,rfl,_,f1,(Kept.dS (B8.trans ((B9.alloc B9.size _).mono B8.size))).trans f2,f3⟩
end Go.Proofs.YtknjjjenklfeoaaGreatDoor
