import Derived.Test.YtknjjjenklfeoaaGreatDoorO51
import Derived.LaidLaws
import Derived.LaidHandle
set_option maxHeartbeats 8000000
set_option maxRecDepth 100000
set_option linter.all false
namespace Go.Proofs.YtknjjjenklfeoaaGreatDoor
open Go.RowKit
section
attribute [local go_sem ↓] dw fP fZ jG
attribute [local go_sem] dK fO fV aV
def YT:List aj:=[dR 1,dR 2]
theorem auD: ∀ c ∈ YT,c.length=64:=by
 intro c hc;simp only [YT,dD,jM,jO] at hc;rcases hc with rfl | rfl
 ·exact BX 1
 ·exact BX 2
def xE (L:List aj) (k:Nat):List aj:=BZ L 3 k++YT
theorem VK (L:List aj) (k:Nat) (h:k≤L.length):(xE L k).length=L.length+2:=by rw [xE,oO,Xp L 3 k h];rfl
theorem afb {L:List aj} (hl: ∀ c ∈ L,c.length=64) (k:Nat): ∀ c ∈ xE L k,c.length=64:=by
 intro c hc;rcases gq.1 hc with h | h
 ·exact aiw hl 3 k c h
 ·exact auD c h
theorem amS (L:List aj) (k:Nat) (h:k<L.length):(xE L k).set k (dR 3)=xE L (k+1):=by
 unfold xE;rw [aeb _ _ (by rw [Xp L 3 k om];exact h),aix L 3 k h]
theorem amP (L:List aj) (k:Nat) (h:k<L.length):cl (xE L k) k=cl L k:=by
 unfold cl xE BZ;rw [aK,aK,uG,nP sm,zy,Bf,oJ (by simp;omega),OI,jL]
theorem aak (L:List aj):xE L 0=L++YT:=by unfold xE BZ;rfl
theorem amQ (L:List aj):cl (xE L 0) L.length=dR 1:=by
 rw [aak];unfold cl;rw [aK,nP (aP _),Bf];rfl
theorem amR (L:List aj):cl (xE L 0) (L.length+1)=dR 2:=by
 rw [aak];unfold cl;rw [aK,nP om,show L.length+1 - L.length=1 by omega];rfl
theorem afc (w:World) (g cap:Nat) (fv:Value) (file:List aj) (hL:CX w g cap file) (hf:lK w fv file) (hne: ∀ k,fv.ownBlock=some k→k≠g) (hl:file.length≤1000):
  Calls Tryz.prog 40 #[.slice (some ⟨g,0,none⟩) file.length cap,fv] w fun e w'=>e= .returned (.bool true)∧Kept (fun k=>k=g) w w':=by
 have hrow:w.ownsRow 0 38 64 (.slice (some ⟨g,0,none⟩) (xE file 0).length cap) (xE file 0).length (aQ (xE file 0)):=by
  rw [VK _ _ (nN _),aak];exact hL.row
 have hlen2:=VK file 0 (nN _);have pY:=afb hf.lens 0;have hcap:=acQ hL.row;have hci:((file.length:Nat):Int)+2≤((cap:Nat):Int):=om;have hc0: ¬ cap=0:=om;have hm1:=BX 1;have hm2:=BX 2;have hm3:=BX 3;have Hm1:Hid (∀ W,Calls Tryz.prog 68 #[.int .u8 1] W fun e w'=>e= .returned (.agg (cv (dR 1)).toArray)∧aC W w'):=fun W=>J5 1 W;have Hm2:Hid (∀ W,Calls Tryz.prog 68 #[.int .u8 2] W fun e w'=>e= .returned (.agg (cv (dR 2)).toArray)∧aC W w'):=fun W=>J5 2 W;have Hm3:Hid (∀ W,Calls Tryz.prog 68 #[.int .u8 3] W fun e w'=>e= .returned (.agg (cv (dR 3)).toArray)∧aC W w'):=fun W=>J5 3 W;have l1: ∀ d os,dN (Go.Sort.grow (redrawn w d) os) g (file.length*64) 64:=fun d os=>oI (bQ (Kept.dS (S:=fun _=>False) (kL w d os)) hrow (fun _ _=>id)) pY _ om;have l2: ∀ d os,dI (Go.Sort.grow (redrawn w d) os) g (file.length*64) 64=cv (dR 1):=fun d os=>by
  have:=oH (bQ (Kept.dS (S:=fun _=>False) (kL w d os)) hrow (fun _ _=>id)) pY file.length om
  rw [this,amQ]
 have l3: ∀ d os,dN (Go.Sort.grow (redrawn w d) os) g ((file.length+1)*64) 64:=fun d os=>oI (bQ (Kept.dS (S:=fun _=>False) (kL w d os)) hrow (fun _ _=>id)) pY _ om;have l4: ∀ d os,dI (Go.Sort.grow (redrawn w d) os) g ((file.length+1)*64) 64=cv (dR 2):=fun d os=>by
  have:=oH (bQ (Kept.dS (S:=fun _=>False) (kL w d os)) hrow (fun _ _=>id)) pY (file.length+1) om
  rw [this,amR]
 have he1: ∀ w,(xH (.agg (cv (dR 1)).toArray) (.agg (cv (dR 1)).toArray)).run Tryz.prog w= .ok true w:=fun w=>by rw [wE hm1 hm1,eH rfl]
 have he2: ∀ w,(xH (.agg (cv (dR 2)).toArray) (.agg (cv (dR 2)).toArray)).run Tryz.prog w= .ok true w:=fun w=>by rw [wE hm2 hm2,eH rfl]
 obtain ⟨fa,yB,hfv⟩:=iq hf.row;subst hfv;have fA:=ah hrow;have HF:=ah hf;have uj:=ah hne;clear hrow hf hne hL pY
 go_enter Tryz.func40,Tryz.ntmps40
 go_wp2_with fail
 have Hn1:=ah (fun d os=>uh Hm1 (Go.Sort.grow (redrawn w d) os));have Hn2:=ah (fun d os=>uh Hm2 (Go.Sort.grow (redrawn w d) os));refine CQ kr kr ?_
 repeat (go_big_quiet_step (fail))
 go_big_quiet_step (exact zA (uh Hn1 _ _))
 repeat (go_big_quiet_step (fail))
 go_big_quiet_step (exact zA (uh Hn2 _ _))
 repeat (go_big_quiet_step (fail))
 refine CS ?_;intro _ hw';obtain ⟨⟨dq,osq⟩,hw''⟩:=hw';subst hw'';have Bq:=ah (kL w dq osq);have HKq:=ah (Kept.dS (S:=fun k=>k=g) Bq);have HRq:=ah (bQ (Kept.dS (S:=fun _=>False) Bq) fA (fun _ _=>id));have HFq:=ah (HF.kept (S:=fun _=>False) (Kept.dS Bq) (fun _ _=>id));clear l1 l2 l3 l4 he1 he2 Hn1 Hn2 Hm1 Hm2 fA HF Bq;generalize Go.Sort.grow (redrawn w dq) osq=w1 at*;go_wp2
 go_loopw [6,7] (fun b i wr=> ∃ k:Nat,k≤file.length∧i= .int .i64 k∧b= .bool true∧Kept (fun k=>k=g) w wr∧wr.ownsRow 0 38 64 (.slice (some ⟨g,0,none⟩) (xE file k).length cap) (xE file k).length (aQ (xE file k))∧lK wr (.slice fa file.length yB) file) (fun _ i _=>file.length - (intOf i).toNat)
 case atStart=>exact ⟨0,om,rfl,rfl,uh HKq,uh HRq,uh HFq⟩
 case round=>
  obtain ⟨k,hk,rfl,rfl,hK,hR,hF⟩:=hrel;clear HKq HRq HFq
  by_cases hlt:k<file.length
  ·obtain ⟨g',cap3,e3,_⟩:=gB hF.row om;obtain ⟨rfl,rfl⟩:fa=some ⟨g',0,none⟩∧yB=cap3:=by injection e3 with x1 x2 x3;exact ⟨x1,x3⟩
   have hki:(k:Int)<(file.length:Int):=om;have hbl:=VK file k hk;have pY:=afb hF.lens k;have hlo:=hK.size;have l1: ∀ n,dN (wr.drewN n) g (k*64) 64:=fun n=>oI (bQ ((Kept.refl (fun _=>False) wr).drewN n) hR (fun _ _=>id)) pY k om;have l2: ∀ n,dI (wr.drewN n) g (k*64) 64=cv (cl file k):=fun n=>by
    have:=oH (bQ ((Kept.refl (fun _=>False) wr).drewN n) hR (fun _ _=>id)) pY k om
    rw [this,amP file k hlt]
   have hFn:=fun n=>hF.kept ((Kept.refl (fun _=>False) wr).drewN n) (fun _ _=>id);have l3: ∀ n,dN (wr.drewN n) g' (k*64) 64:=fun n=>oI (hFn n).row hF.lens k hlt;have l4: ∀ n,dI (wr.drewN n) g' (k*64) 64=cv (cl file k):=fun n=>oH (hFn n).row hF.lens k hlt;have hcl:=iM hF.lens hlt;have he: ∀ w,(xH (.agg (cv (cl file k)).toArray) (.agg (cv (cl file k)).toArray)).run Tryz.prog w= .ok true w:=fun w=>by rw [wE hcl hcl,eH rfl]
   have HK:=ah hK;have HR:=ah hR;have HF:=ah hF;clear hK hR hF hFn e3;generalize cl file k=c at*;go_wp2
   go_quiet (fail)
   have HKn:=ah (HK.drewN nq);have HRn:=ah (bQ ((Kept.refl (fun _=>False) wr).drewN nq) HR (fun _ _=>id));have HFn:=ah (HF.kept ((Kept.refl (fun _=>False) wr).drewN nq) (fun _ _=>id));clear l1 l2 l3 l4 he HK HR HF;generalize wr.drewN nq=wn at*
   go_wp2_with fail
   refine (uh Hm3 _).mono ?_;rintro e w2 ⟨rfl,hb2⟩;have hR2:=bQ (Kept.dS (S:=fun _=>False) hb2) HRn (fun _ _=>id);have th:=Uw hR2 k om;have hset:=Yc hR2 pY k om (dR 3) hm3;rw [amS file k hlt,show (xE file k).length=(xE file (k+1)).length by rw [hbl,VK file (k+1) om]] at hset;have hF2:=HFn.kept (S:=fun _=>False) (Kept.dS hb2) (fun _ _=>id);have Iw:=ah hset;have HF3:=ah (hF2.kept ((Kept.refl (fun x=>x=g) w2).setCells (b:=g) (aA rfl) (k*64) (cv (dR 3))) (fun x hx=>uh uj x hx));have HK3:=ah ((HKn.trans (Kept.dS hb2)).setCells (b:=g) (aA rfl) (k*64) (cv (dR 3)));clear hset hR2 hF2 hb2 HKn HRn HFn;go_wp2;go_roundw
   case rel=>exact ⟨k+1,om,gn,rfl,uh HK3,uh Iw,uh HF3⟩
   case measure=>exact cO
  ·have HK:=ah hK;clear hK hR hF;go_wp2;go_ret;exact ⟨rfl,uh HK⟩
end
theorem arn (w:World) (fv:Value) (file:List aj) (hf:lK w fv file) (hG:oQ w) (hl:file.length≤1000) (n:Nat) (hbad:rO file=(n:Int)):
  Calls Tryz.prog 13 #[fv] w fun e w'=>e= .returned (.tuple #[.pointer none,.bool true])∧aC w w':=by
 obtain ⟨fa,yB,hfv⟩:=iq hf.row;have hlt: ∀ k,fv.ownBlock=some k→k<w.heap.size:=fun k hk=>(hf.row.lt k hk).2;have hlk:(look file).bad=(n:Int):=by rw [ais hf.lens];exact hbad
 have HF:=ah hf;have HG:=ah hG;have Pm:=ah hlt;have Hfv:=ah hfv;subst hfv;clear hf hG hlt
 go_enter Tryz.func13,Tryz.ntmps13
 go_wp2_with fail
 refine (ah3 w _ file HF hl).mono ?_;rintro e w1 ⟨g,cap,rfl,hg,hL1,b1⟩;have hgl:g<w1.heap.size:=(hL1.row.lt g rfl).2;have B1:=ah b1;have L1:=ah hL1;clear b1 hL1
 go_wp2_with fail
 refine (agf w1 _ file L1.file (HG.below B1) om).mono ?_;rintro e w2 ⟨(⟨n',hn',rfl⟩ | ⟨hn',_⟩),b2⟩
 rotate_left
 ·rw [hbad] at hn';omega
 obtain rfl:n'=n:=by rw [hbad] at hn';omega
 have B2:=ah (B1.trans (b2.mono B1.size));have L2:=ah (L1.below b2);clear b2 L1
 go_wp2_with fail
 refine (afc w2 g cap _ file L2 (HF.kept (S:=fun _=>False) (Kept.dS B2) (fun _ _=>id)) (fun k hk=>by have:=uh Pm k hk;omega) hl).mono ?_;rintro e w3 ⟨rfl,k3⟩;have hB3:aC w w3:=by
  have hb:=uh B2;exact ⟨k3.os.trans hb.os,k3.tape.trans hb.tape,k3.output.trans hb.output,jZ hb.size k3.size,fun j hj=>by
   rw [k3.block j (iZ hj hb.size) om];exact hb.block j hj⟩
 have B3:=ah hB3;clear k3 hB3 L2 B2 B1
 go_wp2_with fail
 refine (NV w3 _ file (HF.kept (S:=fun _=>False) (Kept.dS B3) (fun _ _=>id)) hl).mono ?_;rintro e w4 ⟨rfl,fl,fr,hLk⟩;have cb:=hLk.at'.CY;rw [hlk] at cb;have B4:=ah (B3.trans (hLk.below.mono B3.size));have d0: ¬ ((n':Nat):Int)<0:=om;have d1:(0:Int)≤((n':Nat):Int):=om;clear hLk B3;generalize w3.heap.size=f at*;go_wp2;refine gV (MQ rfl _ _ _) rfl ?_;exact ⟨rfl,uh B4⟩
structure VF (w w':World) (file:List aj) (p:Nat) (P:gW) (S:Nat→Prop):Prop where
 at':dO w' p P S
 V:P.V=dJ file
 B:P.B=(dJ file).C
 ex:P.ex=y7 (look file)
 D:P.D=D9 (look file)
 ms:P.ms.length=2
 av1: ∀ m ∈ P.ms,m.log=0
 avx: ∀ m ∈ P.ms,m.D=P.D
 new: ∀ k,S k→w.heap.size≤k
 below:aC w w'
abbrev ZR (f:Nat) (fl:Value) (w':World):Prop:=w'.cell? ⟨f,0,none⟩=some fl
theorem ajf (w:World) (fv:Value) (file:List aj) (hf:lK w fv file) (hG:oQ w) (hl:file.length≤1000) (hgood:rO file= -1):
  Calls Tryz.prog 13 #[fv] w fun e w'=> ∃ p P S,e= .returned (.tuple #[.pointer (some ⟨p,0,none⟩),.bool true])∧VF w w' file p P S:=by
 obtain ⟨fa,yB,hfv⟩:=iq hf.row;have hlt: ∀ k,fv.ownBlock=some k→k<w.heap.size:=fun k hk=>(hf.row.lt k hk).2;obtain ⟨N0,E,hO⟩:=aje hf.lens hgood;have JW:=hO.bP;have h7:=JW.file.seven;have h8:=JW.file.most;have h6:=JW.file.qj;have hrl:(look file).roots.length≤5:=by rw [hO.roots];have:=JW.file.jT.len;simp [aH];omega
 have hr0:0<(look file).roots.length:=by rw [hO.roots];simp [aH]
 have hin: ∀ i,i<(look file).roots.length→rH (look file).L (rootOf (look file) i).N:=by
  intro i hi;unfold rootOf;rw [hO.L,hO.roots];rw [hO.roots] at hi;apply JW.sound.JZ;rw [aK,bI hi];exact oP hi
 have hLl:(look file).L.length=(dJ file).C.length:=by rw [hO.L]
 have hlow:uK 1000000 (look file):=fun n=>by have:=hO.low n;omega
 have hfo: ∀ f ∈ bK (dJ file),gJ (dJ file) f:=fun f hf=>by rw [JW.Au] at hf;exact JW.sound.Di hf
 have hlk:=hO.bad;have hst:=hO.state;have hDl:(D9 (look file)).L.length≤4:=by rw [hO.nS];exact JW.file.jT.iV
 have HO:=ah hO;have HF:=ah hf;have HG:=ah hG;have Pm:=ah hlt;have Gi:=ah hin;have Vx:=ah hlow;have KY:=ah hfo;have O9:=ah hLl;subst hfv;clear hf hG hlt hO JW hin hlow hfo hLl
 go_enter Tryz.func13,Tryz.ntmps13
 go_wp2_with fail
 refine (ah3 w _ file HF hl).mono ?_;rintro e w1 ⟨g,cap,rfl,hg,hL1,b1⟩;have hgl:g<w1.heap.size:=(hL1.row.lt g rfl).2;have B1:=ah b1;have L1:=ah hL1;clear b1 hL1
 go_wp2_with fail
 refine (agf w1 _ file L1.file (HG.below B1) om).mono ?_;rintro e w2 ⟨(⟨n',hn',rfl⟩ | ⟨_,d,v,Cv,Lv,rfl,hD2,aht⟩),b2⟩
 ·rw [hgood] at hn';omega
 have B2:=ah (B1.trans (b2.mono B1.size));have L2:=ah (L1.below b2);have D2:=ah hD2;have hw1:w.heap.size≤w1.heap.size:=B1.size;have aeC:=ah aht;clear b2 L1 hD2 aht
 go_wp2_with fail
 refine (afc w2 g cap _ file L2 (HF.kept (S:=fun _=>False) (Kept.dS B2) (fun _ _=>id)) (fun k hk=>by have:=uh Pm k hk;omega) hl).mono ?_;rintro e w3 ⟨rfl,k3⟩;have hB3:aC w w3:=by
  have hb:=uh B2;exact ⟨k3.os.trans hb.os,k3.tape.trans hb.tape,k3.output.trans hb.output,jZ hb.size k3.size,fun j hj=>by
   rw [k3.block j (iZ hj hb.size) om];exact hb.block j hj⟩
 have B3:=ah hB3;have D3:=ah (D2.kept k3 (fun k hk e=>by have:=uh aeC k hk;omega));clear k3 hB3 L2 B2 B1 D2
 go_wp2_with fail
 refine (NV w3 _ file (HF.kept (S:=fun _=>False) (Kept.dS B3) (fun _ _=>id)) hl).mono ?_;rintro e w4 ⟨rfl,fl,fr,hLk⟩;have cb:=hLk.at'.CY;rw [hlk] at cb;have F4:=ah hLk.at';have hfr: ∀ g,fl.ownBlock=some g→w3.heap.size≤g:=hLk.fresh;have KZ:=ah hfr;have D4:=ah (D3.below hLk.below);have B4:=ah (B3.trans (hLk.below.mono B3.size));have ahu: ∀ k,Lu d v Cv Lv k→k<w3.heap.size:=D3.qG;have Hf3:=ah ahu;have hw3:w.heap.size≤w3.heap.size:=B3.size;clear hLk B3 D3 hfr ahu;generalize w3.heap.size=f at*
 go_wp2_with fail
 refine (agb w4 d v Cv Lv (dJ file) D4 om h8 KY).mono ?_;rintro e w5 ⟨rfl,b5⟩;rw [hst];have F5:=ah (F4.below b5);have D5:=ah (D4.below b5);have B5:=ah (B4.trans (b5.mono B4.size));have hw5:w4.heap.size≤w5.heap.size:=b5.size;clear b5 F4 D4 B4 cb
 go_wp2_with fail
 refine (ac9 w5 f fl fr (look file) F5 (by rw [uh O9];exact h8) (by rw [uh O9];omega) hrl Gi Vx).mono ?_;rintro e w6 ⟨rfl,b6⟩;have F6:=ah (F5.below b6);have D6:=ah (D5.below b6);have B6:=ah (B5.trans (b6.mono B5.size));clear b6 F5 D5 B5;unfold oq
 go_wp2_with fail
 have hT:ZR f fl w6.drew:=F6.uN;have vP: ∀ W,aC w6 W→ZR f fl W:=fun W hb=>(F6.below hb).uN;have Vs:=ah vP;clear vP;refine yT (ZR f fl) 10 kr ?_;refine tk 0 hT ?_;refine tk 1 hT ?_;refine tk 3 hT ?_;refine tk 4 hT ?_;refine tk 5 hT ?_;refine tk 6 hT ?_;refine tk 7 hT ?_;refine wo 2 fun K2 hK2=> ?_;go_simp;go_at_call 43;refine (agh w6.drew f fl fr (look file) (F6.below (bG _ w6).drew) Gi (by rw [uh O9];exact h8) hr0 om).mono ?_;rintro e w7 ⟨dy,Qv,rfl,hdy,hDY,WI,b7⟩;have hb7:aC w6 w7:=((bG _ w6).drew).trans b7;have B7:=ah hb7;have DY:=ah hDY;have avJ:w6.heap.size≤dy:=hdy;have HQv:Hid (∀ g,Qv.ownBlock=some g→w6.heap.size≤g):=WI;clear b7 hDY WI hdy hb7;refine hK2 _ _ (ay (uh Vs _ B7)) ?_;refine wo 8 fun K8 hK8=> ?_;go_simp;go_at_call 44;refine (ags w7 f fl fr (look file) (F6.below B7) (by rw [uh O9];exact h8) (by rw [uh O9];omega) hrl Gi Vx).mono ?_;rintro e w8 ⟨rfl,b8⟩
 have B8:=ah (B7.trans (b8.mono B7.size));have DY8:=ah (DY.below b8);clear b8 DY;refine hK8 _ _ (ay (uh Vs _ B8)) ?_;refine wo 9 fun K9 hK9=> ?_;go_simp;go_at_call 32;have hap: ∀ g,fl.ownBlock=some g→ ¬ eX v Cv Lv g:=fun g hg hfo=>by
  have h1:=uh KZ g hg;have h2:=uh Hf3 g (ay hfo);omega
 have F8:=F6.below B8;refine (aal w8 d v Cv Lv (dJ file) dy Qv fl (D9 (look file)) (look file).L (D6.below B8) DY8 ⟨F8.fF,F8.lens⟩ hap om (nN _) (y7 (look file))).mono ?_;rintro e w9 ⟨p,rfl,Mv,m,hm1,hm2,S1,hP9,b9,hS1⟩;have B9:=ah (B8.trans (b9.mono B8.size));have P9:=ah hP9;have HS1:=ah hS1;have Hm1:=ah hm1;have Hm2:=ah hm2;clear b9 hP9 hS1 hap F8 hm1 hm2;refine hK9 _ _ (ay (uh Vs _ B9)) ?_;refine wo 10 fun K10 hK10=> ?_;go_simp;refine hK10 _ _ (ay (uh Vs _ B9)) ?_;refine tu kr ?_ _;clear hT;have hSt:pF ⟨d,v,dy,Cv,Lv,Qv,Mv,fl,y7 (look file),dJ file,D9 (look file),(look file).L,[m]⟩ N0 E:=
  ⟨by
   show bD (look file).L (dJ file) N0 E;rw [HO.L];exact HO.bP,HO.nS.symm,HO.exact⟩
 have fK:=ah (UE w9 p _ S1 N0 E P9 hSt (nN _) (by show (look file).L.length≤1000;rw [uh O9];omega) sm);clear hSt
 go_wp2_with fail
 refine fK.mono ?_;rintro e w10 ⟨rfl,ZT,m',hl',hD',S',hP',hk',hS'⟩;have hw6:w.heap.size≤w6.heap.size:=B6.size;have hw8:w6.heap.size≤w8.heap.size:=B8.size;have hw9:w6.heap.size≤w9.heap.size:=B9.size;have hS1: ∀ k,S1 k→w.heap.size≤k:=fun k hk=>by
  rcases uh HS1 k hk with (x | x | x | x) | x
  ·have:=uh aeC k x;omega
  ·omega
  ·have:=uh HQv k x;omega
  ·have:=uh KZ k x;omega
  ·omega
 have hBw:aC w w9:=B6.trans (B9.mono B6.size);have hfin:VF w w10 file p { (⟨d,v,dy,Cv,Lv,Qv,Mv,fl,y7 (look file),dJ file,D9 (look file),(look file).L,[m]⟩:gW) with Mv:=ZT,ms:=[m]++[m'] } S':=by
  refine ⟨hP',rfl,HO.L,rfl,rfl,rfl,?_,?_,fun k hk=> ?_,?_⟩
  ·intro q hq;rcases gq.1 hq with x | x
   ·rw [jw.1 x];exact uh Hm1
   ·rw [jw.1 x];exact hl'
  ·intro q hq;rcases gq.1 hq with x | x
   ·rw [jw.1 x];exact uh Hm2
   ·rw [jw.1 x];exact hD'
  ·rcases hS' k hk with x | x
   ·exact hS1 k x
   ·omega
  ·exact ⟨hk'.os.trans hBw.os,hk'.tape.trans hBw.tape,hk'.output.trans hBw.output,jZ hBw.size hk'.size,fun j hj=>by
    rw [hk'.block j (iZ hj hBw.size) (fun hx=>by have:=hS1 j hx;omega)];exact hBw.block j hj⟩
 have Bv:=ah hfin;clear hfin hP' hk' hS' hS1 hBw hl' hD';go_wp2;refine gV (MQ rfl _ _ _) rfl ?_;exact ⟨p,_,_,rfl,uh Bv⟩
theorem amK (w:World) (p b:Nat) (P:gW) (S:Nat→Prop) (N0:Nat) (E:List aX) (h:dO w p P S) (hst:pF P N0 E) (o:nZ) (hk:o.kind=10):
  Calls Tryz.prog 67 #[.pointer (some ⟨p,0,none⟩),.pointer (some ⟨b,0,none⟩),.agg (dH o).toArray] w fun e w'=>e= .returned (.bool true)∧aC w w':=by
 have hg:=hst.bP;obtain ⟨k1,k2,k3,k4,k5⟩:=hg.look;have h7:=hg.file.seven;have h8:=hg.file.most;have hck:EY P.V=Cm (look P.V.C):=hg.state k2 k3 k4;have hrl:(look P.V.C).roots.length≤5:=by rw [k3];have:=hg.file.jT.len;simp [aH];omega
 have Gi:Hid (∀ i,i<(look P.V.C).roots.length→rH (look P.V.C).L (rootOf (look P.V.C) i).N):=fun i hi=>by
  unfold rootOf;rw [k2,k3];rw [k3] at hi;apply hg.sound.JZ;rw [aK,bI hi];exact oP hi
 have Vx:Hid (uK 1000000 (look P.V.C)):=fun n=>by have:=k5 n;omega
 have KY:Hid (∀ f ∈ bK P.V,gJ P.V f):=fun f hf=>by rw [hg.Au] at hf;exact hg.sound.Di hf
 have pY:=hg.file.lens;have ck:=LW w o;rw [hk] at ck;have H:=ah (h.below (sW w o));have B0:=ah (sW w o);have c0:=H.c0;clear h hst hg hk k4 k5
 go_enter Tryz.func67,Tryz.ntmps67
 go_wp2_with fail
 generalize w.alloc (.cells (dH o).toArray 80)=w0 at*;refine (Nv w0 _ _ _ _ _ H.iV om om).mono ?_;rintro e w1 ⟨fv,rfl,rf1,b1⟩;have H1:=ah (H.below b1);have B1:=ah (B0.trans (b1.mono B0.size));have R1:Hid (lK w1 fv P.V.C):=⟨Ci rf1 (nN _),pY⟩;clear b1 rf1 H B0 c0 ck
 go_wp2_with fail
 refine (NV w1 fv P.V.C R1 om).mono ?_;rintro e w2 ⟨rfl,fl,fr,hLk⟩;have H2:=ah (H1.below hLk.below);have B2:=ah (B1.trans (hLk.below.mono B1.size));have F2:=ah hLk.at';have cb:=hLk.at'.CY;rw [k1] at cb;have c0:=H2.c0;clear hLk R1 H1 B1;generalize w1.heap.size=f at*
 go_wp2_with fail
 refine (agb w2 _ _ _ _ _ H2.iV om h8 KY).mono ?_;rintro e w3 ⟨rfl,b3⟩;rw [hck];have F3:=ah (F2.below b3);have B3:=ah (B2.trans (b3.mono B2.size));clear b3 F2 B2 H2 cb c0
 go_wp2_with fail
 refine (ac9 w3 f fl fr (look P.V.C) F3 (by rw [k2];exact h8) (by rw [k2];omega) hrl Gi Vx).mono ?_;rintro e w4 ⟨rfl,b4⟩;have B4:=ah (B3.trans (b4.mono B3.size));clear b4 F3 B3;unfold oq;go_wp2;go_ret;exact ⟨rfl,uh B4⟩
theorem akZ {P:Program} {w:World} {n:String} {g:Nat} {cs:Array Value} {x:Value} (hn:P.globalNamed n=some g) (h:w.var? P n=some cs) (hx:cs.toList=[x]):w.cell? ⟨g,0,none⟩=some x:=by
 unfold World.var? at h;rw [hn] at h;simp only [Option.bind_some] at h;have hcs:cs= #[x]:=Array.eq_one_of_toList hx;subst hcs
 split at h
 ·rename_i c t fr hh;injection h with h;subst h;exact (aG hh 0).trans rfl
 ·cases h
theorem LJ {w:World} {n nm:String} {d:DataW Unit} {r:List (String × DataW Unit)} {ps:List MemPlace} (g:Nat) (h:DataW.LaidVars Tryz.prog w ((n,.iface nm d) :: r) ps)
  (hn:Tryz.prog.globalNamed n=some g) (ht:(Tryz.prog.globals[g]?).map (·.type)=some 98):(∃ u v,w.cell? ⟨g,0,none⟩=some (.iface u v))∧ ∃ q,DataW.LaidVars Tryz.prog w r q:=by
 obtain ⟨g',t,cs,fuel,p,q,h1,h2,h3,h4,h5,_⟩:=h;obtain rfl:g=g':=Rt (hn.symm.trans h1);obtain rfl:98=t:=Rt (ht.symm.trans h2);obtain ⟨_,u,v,hcs,_⟩:=iface_of_trod Tryz.underlying98 h4;exact ⟨⟨u,v,akZ hn h3 hcs⟩,q,h5⟩
theorem aos: ∀ ty,ty<Tryz.prog.types.size→Tryz.prog.rowNamed ty [101,114,114,111,114]=true→ty=98:=by
 have h:(List.range Tryz.prog.types.size).all (fun t=> !(Tryz.prog.rowNamed t [101,114,114,111,114]) || t == 98)=true:=kr;intro ty hty hr
 have:=Rw.1 h ty (Jm.2 hty)
 rw [hr] at this;simpa using this
theorem aoL {W:World} (h:laidMetH Tryz.prog Rows.anyRow.laid W):oQ W:=by
 have h' : laidMet Tryz.prog [("vellum/volume.errLength", Rows.laid_vellum_volume_errLength), ("vellum/volume.errHead", Rows.laid_vellum_volume_errHead), ("vellum/volume.errList", Rows.laid_vellum_volume_errList), ("vellum/volume.errNowhere", Rows.laid_vellum_volume_errNowhere), ("vellum/volume.errTwice", Rows.laid_vellum_volume_errTwice), ("vellum/volume.errBehind", Rows.laid_vellum_volume_errBehind), ("vellum/volume.errCount", Rows.laid_vellum_volume_errCount), ("vellum/volume.errMark", Rows.laid_vellum_volume_errMark)] W ∧ handlesMet Tryz.prog [("errors.errorType", Rows.laid_errors_errorType)] W := h
 obtain ⟨⟨ps,hl,_⟩,hh⟩:=h';obtain ⟨e0,_,hl⟩:=LJ 0 hl kr kr;obtain ⟨e1,_,hl⟩:=LJ 1 hl kr kr;obtain ⟨e2,_,hl⟩:=LJ 2 hl kr kr;obtain ⟨e6,_,hl⟩:=LJ 6 hl kr kr;obtain ⟨e7,_,hl⟩:=LJ 7 hl kr kr;obtain ⟨e8,_,hl⟩:=LJ 8 hl kr kr;obtain ⟨e3,_,hl⟩:=LJ 3 hl kr kr;obtain ⟨e4,_,_⟩:=LJ 4 hl kr kr;have hx := hh ("errors.errorType", Rows.laid_errors_errorType) (List.mem_singleton.2 rfl)
 have hx' : ∃ name u ty, (Rows.laid_errors_errorType : DataW Unit).handleName? = some name ∧ (Tryz.prog.cutTypes.find? (·.1 == "internal/reflectlite.rtype")).map (·.2) = some u ∧ ty < Tryz.prog.types.size ∧ Tryz.prog.rowNamed ty name = true ∧ W.var? Tryz.prog "errors.errorType" = some #[.iface u (.agg #[typeHandle Tryz.prog ty])] := hx
 obtain ⟨name,u,ty,h1,h2,h3,h4,h5⟩:=hx';obtain rfl:([101,114,114,111,114]:List UInt8)=name:=Rt ((show (Rows.laid_errors_errorType:DataW Unit).handleName? = some [101,114,114,111,114] by kernel_rfl).symm.trans h1);obtain rfl : 246 = u := Option.some.inj ((show (Tryz.prog.cutTypes.find? (·.1 == "internal/reflectlite.rtype")).map (·.2) = some 246 by kernel_rfl).symm.trans h2)
 have hty:=aos ty h3 h4;subst hty;have e5 : W.cell? ⟨5, 0, none⟩ = some (.iface 246 (.agg #[typeHandle Tryz.prog 98])) := akZ (show Tryz.prog.globalNamed "errors.errorType" = some 5 by kernel_rfl) h5 rfl
 have hsz:Tryz.prog.globals.size=10:=kr;have e5':W.cell? ⟨5,0,none⟩=some (.iface 246 (.agg #[.pointer (some ⟨10,98,none⟩)])):=by
  rw [e5];unfold typeHandle;rw [hsz]
 refine ⟨fun g hg=> ?_,e5'⟩
 have:g=0∨g=1∨g=2∨g=3∨g=4∨g=5∨g=6∨g=7∨g=8:=om
 rcases this with rfl | rfl | rfl | rfl | rfl | rfl | rfl | rfl | rfl
 ·exact e0
 ·exact e1
 ·exact e2
 ·exact e3
 ·exact e4
 ·exact ⟨_,_,e5'⟩
 ·exact e6
 ·exact e7
 ·exact e8
section
attribute [local go_sem ↓] dw fP fZ ku
attribute [local go_sem] dK fO fV aV kG
structure Nk (w:World) (a:Option Addr) (n:Nat) (ss:Nat→ByteArray):Prop where
 some:0<n→ ∃ g o,a=some ⟨g,o,none⟩∧g<w.heap.size∧ ∀ i,i<n→w.cell? ⟨g,o+i,none⟩=some (.string (ss i))
 fits: ∀ i,i<n→(ss i).size≤maxLen
theorem Nk.below {w w':World} {a:Option Addr} {n:Nat} {ss:Nat→ByteArray} (h:Nk w a n ss) (hb:aC w w'):Nk w' a n ss:=
 ⟨fun h0=>by
  obtain ⟨g,o,ha,hg,hc⟩:=h.some h0;exact ⟨g,o,ha,iZ hg hb.size,fun i hi=>(hb.cell hg).trans (hc i hi)⟩,h.fits⟩
def Es (ss:Nat→ByteArray) (k:Nat):List aj:=(List.range k).map fun i=>EZ (ss i).data.toList
theorem ash (ss:Nat→ByteArray) (k:Nat):Es ss (k+1)=Es ss k++[EZ (ss k).data.toList]:=by simp [Es,Y7]
theorem ajK (ss:Nat→ByteArray) (k:Nat):(Es ss k).length=k:=by simp [Es]
theorem afO (l:List UInt8):(EZ l).length=64:=VU l _ (Nat.min_le_left _ _) (Nat.min_le_right _ _)
theorem acJ (ss:Nat→ByteArray) (k:Nat): ∀ c ∈ Es ss k,c.length=64:=by
 intro c hc;obtain ⟨i,_,rfl⟩:=gQ.1 hc;exact afO _
theorem asi (w:World) (a:Option Addr) (n cap:Nat) (ss:Nat→ByteArray) (hs:Nk w a n ss) (hn:n≤maxLen):
  Calls Tryz.prog 14 #[.slice a n cap] w fun e w'=> ∃ v,e= .returned v∧lK w' v (Es ss (min n 300))∧(∀ g,v.ownBlock=some g→w.heap.size≤g)∧aC w w':=by
 obtain ⟨i0,hi0,hz0,hz1,hz2⟩:=qy Tryz.J4;have HS:=ah hs;unfold maxLen at hn;clear hs
 go_enter Tryz.func14,Tryz.ntmps14
 go_wp2
 go_loopw [3,4] (fun v i wr=> ∃ k:Nat,k≤min n 300∧i= .int .i64 k∧wr.ownsRow 0 38 64 v k (aQ (Es ss k))∧(∀ g,v.ownBlock=some g→w.heap.size≤g)∧aC w wr) (fun _ i _=>300 - (intOf i).toNat)
 case atStart=>exact ⟨0,nN _,rfl,wF _ _ _ _,fun g hg=>(by cases hg),bG _ _⟩
 case round=>
  obtain ⟨k,hk,rfl,hR,hv,hB⟩:=hrel
  by_cases hlt:k<n∧k<300
  ·obtain ⟨hkn,hk3⟩:=hlt;have dn:decide ((k:Int)<(n:Int))=true:=eH om;have d3:decide ((k:Int)<300)=true:=eH om;have hki:(k:Int)<(n:Int):=om;obtain ⟨g,o,rfl,hg,hc⟩:=(HS.below hB).some om;have ck:=hc k hkn;have hfit:=HS.fits k hkn;have ER:=ah (afP (ss k) wr hfit);have hcl:=afO (ss k).data.toList;have HR:=ah hR;have Hv:=ah hv;have HB:=ah hB;obtain ⟨va,ak0,hvf⟩:=iq hR;have hsz:=hB.size;subst hvf;have hsn:=ash ss k;have hlr:=yC (Es ss k) (acJ ss k);generalize EZ (ss k).data.toList=c at*;clear hR hv hB hc hfit
   go_wp2_with fail
   refine ER.mono ?_;rintro e w2 ⟨rfl,hb2⟩;have HR2:=ah (bQ (Kept.dS (S:=fun _=>False) hb2) HR (fun _ _=>id));have HB2:=ah (HB.trans (hb2.mono HB.size));have hs2:=hb2.size;clear hb2 HR HB ER ck
   go_wp2_with (at_builtin;refine xZ _ rfl _ _ _ rfl 0 38 i0 _ 64 64 Tryz.underlying28 hi0 hz0 hz1 hz2 (by simp [Value.cells,bg,aV]) om (.slice va k ak0) k (aQ (Es ss k)) rfl (HR2.alloc _) ⟨w2.heap.size,0,none⟩ 1 1 (cv c) rfl (by rw [bg,hcl]) (pU (cs:=(cv c).toArray) (t:=38) (fr:=(0,0)) (aW w2 _)) (zJ _) om (by unfold maxLen;omega) om om (w2.heap.size+1) sm ?_;intro g5 cap5 w5 hown5 hgrow hat uP)
   go_roundw
   case rel=>
    refine ⟨k+1,om,gn,?_,?_,?_⟩
    ·rw [hsn,PS];exact hown5
    ·intro g hg;simp only [Value.ownBlock,jv] at hg;subst hg;rcases hat with x | x
     ·exact uh Hv _ x
     ·omega
    ·exact (HB2.alloc HB2.size (.cells (cv c).toArray 38)).grown hgrow (by have:=HB2.size;simp;omega) (fun q hq=>uh Hv q hq)
   case measure=>exact cO
  ·have Hkm:Hid (k=min n 300):=by show k=min n 300;omega
   have HR:=ah hR;have Hv:=ah hv;have HB:=ah hB;obtain ⟨va,ak0,hvf⟩:=iq hR;subst hvf;clear hR hv hB
   by_cases hkn:k<n
   ·have dn:decide ((k:Int)<(n:Int))=true:=eH om;have d3:decide ((k:Int)<300)=false:=gU om;go_wp2;go_ret;exact ⟨_,rfl,by rw [← uh Hkm];exact ⟨by rw [ajK];exact uh HR,acJ ss k⟩,uh Hv,uh HB⟩
   ·have dn:decide ((k:Int)<(n:Int))=false:=gU om;go_wp2;go_ret;exact ⟨_,rfl,by rw [← uh Hkm];exact ⟨by rw [ajK];exact uh HR,acJ ss k⟩,uh Hv,uh HB⟩
end
section
attribute [local go_sem ↓] dw fP fZ jG
attribute [local go_sem] dK fO fV gK gy aV jc jd
structure aly (w:World) (b:Nat) (C:List aj):Prop where
 aF:w.heap[b]? = some (.cells (aQ C).toArray 40 (0,0))
 cont:ug C

structure KAt (W0 W:World) (d v bc:Nat) (Cv Lv:Value) (V:aB) (C:List aj):Prop where
 iV:pq W d v Cv Lv V
 cont:aly W bc C
 below:aC W0 W
 lo: ∀ k,Lu d v Cv Lv k→W0.heap.size≤k
 bcl:W0.heap.size≤bc

end
section
def aia (a:Addr):Sem Value:=loadVar 40 a
theorem ap3 (a:Addr):loadVar 40 a=aia a:=rfl
theorem as6 {w:World} {b o:Nat} (h:dN w b o 4096):(aia ⟨b,o,none⟩).run Tryz.prog w= .ok (.agg (dI w b o 4096).toArray) w:=
 AX h 40 _ Tryz.underlying40 rfl kr
def atQ (a:Addr) (v:Value):Sem Unit:=storeVar 40 a v
theorem atT (a:Addr) (v:Value):storeVar 40 a v=atQ a v:=rfl
def ale:Sem Value:=zeroValue 40
theorem avl:zeroValue 40=ale:=rfl
theorem ata (w:World):ale.run Tryz.prog w= .ok (.agg (aQ zD).toArray) w:=
 (uI (P:=Tryz.prog) (t:=40) (v:= .agg (aQ zD).toArray) (n:=4096) kr).1 w
attribute [local go_sem ↓] ap3 atT avl Qg YF
attribute [local go_sem] as6 ata QM
structure At (w W:World) (d v bc:Nat) (Cv Lv:Value) (V:aB) (N0:Nat) (E:List aX) (K:Nat) (D:dY) (base:List aj:=[]):Prop where
 at':KAt w W d v bc Cv Lv V D.C
 held:alT V N0 E K base
 nS:bU V.C N0 E=D
end
section
attribute [local go_sem ↓] Qg YF
attribute [local go_sem] QM
section
variable {base:List aj} {V:aB} {N0:Nat} {E:List aX}
theorem bD.rO (h:bD base V N0 E):rO V.C= -1:=by
 rw [← ais h.file.lens];exact h.look.1
end
end
section
structure KW (w w':World) (p':Nat) (P':gW) (S':Nat→Prop):Prop where
 at':dO w' p' P' S'
 stands: ∃ N1 E1,pF P' N1 E1
 base:P'.B.length≤1000
 log:P'.V.L.length=0
 marks:P'.ms.length=2
 new: ∀ k,S' k→w.heap.size≤k
 below:aC w w'
section
variable {w w1 w':World} {p p' b:Nat} {P P':gW} {S S' U:Nat→Prop} {V:ou} {B:lX} {file:List aj}
theorem VF.fresh (h:VF w1 w' file p' P' S') (hl: ∀ c ∈ file,c.length=64) (hg:rO file= -1) (hb:aC w w1):KW w w' p' P' S':=by
 obtain ⟨N0,E,hO⟩:=aje hl hg;have hm:=hO.bP.file.most;refine ⟨h.at',⟨N0,E,⟨?_,?_,?_⟩⟩,by rw [h.B];omega,by rw [h.V];rfl,h.ms,fun k hk=>jZ hb.size (h.new k hk),hb.trans (h.below.mono hb.size)⟩
 ·rw [h.B,h.V];exact hO.bP
 ·rw [h.V,h.D];exact hO.nS.symm
 ·rw [h.V,h.ex];exact hO.exact
theorem KW.Jg (h:KW w w' p' P' S') (hb:iK w b V B U):Py w w' p' b P S B U P' S' V B U:=
 ⟨h.at',hb.below h.below,by rw [h.log];omega,by rw [h.marks];omega,om,om,om,om,fun x hx=>aA hx,fun x hx=>aA hx,fun x hx=>aA hx,Kept.dS h.below,fun k hk=>ay (h.new k hk),fun k hk=>aA hk,fun k hk hu=>by have:=h.new k hk;have:=hb.lt k hu;omega⟩
end
def ZY (p q y z:Nat) (w':World):Prop:=w'.cell? ⟨q,1,none⟩=some (.pointer (some ⟨z,0,none⟩))∧w'.cell? ⟨p,1,none⟩=some (.pointer (some ⟨y,0,none⟩))
theorem atJ (w:World) (p b:Nat) (P:gW) (S:Nat→Prop) (N0:Nat) (E:List aX) (h:dO w p P S) (hst:pF P N0 E) (hG:oQ w) (o:nZ) (hk:o.kind=12):
  Calls Tryz.prog 34 (CB p b o) w fun e w'=> ∃ p',e= .returned (.tuple #[.pointer (some ⟨p',0,none⟩),.bool true])∧ ∃ P' S',KW w w' p' P' S':=by
 unfold CB;have ck:=LW w o;have hj:=Qe hk;have hg:=hst.bP;have h7:=hg.file.seven;have h8:=hg.file.most;have hbad:=hg.rO;have pY:=hg.file.lens;have hD:D9 (look P.V.C)=P.D:=by rw [hg.nS];exact hst.nS
 have hDl:P.D.L.length≤4:=by rw [← hst.nS];exact hg.file.jT.iV
 have H:=ah (h.below (sW w o));have B0:=ah (sW w o);have HG:=ah (hG.below (sW w o));have c0:=H.c0;clear h hst hk hg hG
 go_enter Tryz.func34,Tryz.ntmps34
 go_wp2_with fail
 generalize w.alloc (.cells (dH o).toArray 80)=w0 at*;refine (Nv w0 _ _ _ _ _ H.iV om om).mono ?_;rintro e w1 ⟨fv,rfl,rf1,b1⟩;have H1:=ah (H.below b1);have B1:=ah (B0.trans (b1.mono B0.size));have R1:Hid (lK w1 fv P.V.C):=⟨Ci rf1 (nN _),pY⟩;have G1:=ah (HG.below b1);clear b1 rf1 H B0 c0 ck HG
 go_wp2_with fail
 refine (ajf w1 fv P.V.C R1 G1 om hbad).mono ?_;rintro e w2 ⟨q,Q,R,rfl,hq⟩;have HF:=ah (hq.fresh pY hbad B1);have H2:=ah (H1.below hq.below);have HQ:=ah hq.at';have hQD:Q.D=P.D:=hq.D.trans hD;clear hq R1 G1 H1 B1
 go_wp2_with fail
 have hT:ZY p q P.y Q.y w2.drew:=⟨HQ.c1,H2.c1⟩;have Hs:=ah (akd w2.drew Q.y P.y _ _ _ _ (HQ.below (bG _ w2).drew).ref (H2.below (bG _ w2).drew).ref (by rw [hQD];omega) om);rw [hQD,akc.2 rfl] at Hs;refine yT (ZY p q P.y Q.y) 9 kr ?_;refine tk 0 hT ?_;refine tk 1 hT ?_;refine tk 2 hT ?_;refine tk 3 hT ?_;refine tk 4 hT ?_;refine tk 5 hT ?_;refine tk 6 hT ?_;refine tk 7 hT ?_;refine wo 8 fun K8 hK8=> ?_;go_simp;go_at_call 59;refine Hs.mono ?_;rintro e w3 ⟨rfl,b3⟩;have b3':aC w2 w3:=((bG _ w2).drew).trans b3;have hT3:ZY p q P.y Q.y w3:=⟨(HQ.below b3').c1,(H2.below b3').c1⟩;have HF3:Hid (KW w w3 q Q R):=⟨HQ.below b3',HF.stands,HF.base,HF.log,HF.marks,HF.new,HF.below.trans (b3'.mono HF.below.size)⟩;clear b3 b3' Hs HF H2 HQ;refine hK8 _ _ (ay hT3) ?_;refine wo 9 fun K9 hK9=> ?_;go_simp;refine hK9 _ _ (aA rfl) ?_;refine tu kr ?_ _;clear hT hT3;go_wp2;go_ret2;exact ⟨q,rfl,Q,R,uh HF3⟩
theorem atM (w:World) (p b:Nat) (hG:oQ w) (o:nZ) (ra:Option Addr) (rn rc:Nat) (ss:Nat→ByteArray) (hr:o.raw= .slice ra rn rc) (hs:Nk w ra rn ss) (hn:rn≤maxLen) (hk:o.kind=13):
  Calls Tryz.prog 34 (CB p b o) w fun e w'=>(e= .returned (.tuple #[.pointer (some ⟨p,0,none⟩),.bool true])∧aC w w')∨ ∃ p',e= .returned (.tuple #[.pointer (some ⟨p',0,none⟩),.bool true])∧ ∃ P' S',KW w w' p' P' S':=by
 unfold CB;have ck:=LW w o;have c4:(w.alloc (.cells (dH o).toArray 80)).cell? ⟨w.heap.size,4,none⟩=some (.slice ra rn rc):=by rw [aG (XG w o) 4,bW,← hr];rfl
 have hj:=Qe hk;have B0:=ah (sW w o);have HG:=ah (hG.below (sW w o));have HS:=ah (hs.below (sW w o));clear hk hG hs hr
 go_enter Tryz.func34,Tryz.ntmps34
 go_wp2_with fail
 generalize w.alloc (.cells (dH o).toArray 80)=w0 at*;refine (asi w0 ra rn rc ss HS hn).mono ?_;rintro e w1 ⟨fv,rfl,hf,_,b1⟩;have hlen:(Es ss (min rn 300)).length≤1000:=by unfold Es;simp;omega
 have R1:=ah hf;have B1:=ah (B0.trans (b1.mono B0.size));have G1:=ah (HG.below b1);clear b1 hf B0 HG HS ck c4;generalize Es ss (min rn 300)=file at*
 go_wp2_with fail
 by_cases hg:rO file= -1
 ·refine (ajf w1 fv file R1 G1 hlen hg).mono ?_;rintro e w2 ⟨q,Q,R,rfl,hq⟩;have HF:=ah (hq.fresh R1.lens hg B1);clear hq R1 G1 B1 hg;go_wp2;go_ret2;exact ay ⟨q,rfl,Q,R,uh HF⟩
 ·obtain ⟨n,hn'⟩: ∃ n:Nat,rO file=(n:Int):=CP ((ard file).resolve_left hg);refine (arn w1 fv file R1 G1 hlen n hn').mono ?_;rintro e w2 ⟨rfl,b2⟩;have B2:=ah (B1.trans (b2.mono B1.size));clear b2 R1 G1 B1 hg hn';go_wp2;go_ret2;exact aA ⟨rfl,uh B2⟩
end
end Go.Proofs.YtknjjjenklfeoaaGreatDoor
