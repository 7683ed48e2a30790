import Derived.Test.YtknjjjenklfeoaaGreatDoorO10
set_option maxHeartbeats 8000000
set_option maxRecDepth 100000
set_option linter.all false
namespace Go.Proofs.YtknjjjenklfeoaaGreatDoor
open Go.RowKit
section
attribute [local go_sem ↓] dw fP fZ kS mP mV jJ kJ jY jU lD lH kQ ku kT mQ mW lZ ny jG
attribute [local go_sem] dK fO fV gK gy aV kX mG mM mJ mF gI jK kH jX kZ kW iJ jW lq lC lu kF jc jd lY l7 kG kY mO nI lT mD nH
theorem IJ (w:World) (v:Nat) (Cv Lv:Value) (V:aB) (h:aN w v Cv Lv V) (h0:0<V.C.length):
  Calls Tryz.prog 87 #[.pointer (some ⟨v,0,none⟩)] w fun e w'=>e= .returned (.agg (hv (num (cl V.C 0) 4) (num (cl V.C 0) 6)).toArray)∧aC w w':=by
 have L0:=dU.one w (.cells (hv 0 0).toArray 128);have Ha:=ah (Np _ v Cv Lv V (h.below L0.below) 0 h0);have Hh:Hid (∀ W,_):=fun W=>NM W (cl V.C 0) (iM h.kE h0);have L0:=ah L0;clear h
 go_enter Tryz.func87,Tryz.ntmps87
 go_wp2_with fail
 refine Ha.mono ?_;rintro e w1 ⟨rfl,hb1⟩;have L1:=ah (L0.later hb1);clear Ha L0 hb1
 go_wp2_with fail
 refine (uh Hh w1).mono ?_;rintro e w2 ⟨rfl,hb2⟩;have L2:=L1.later hb2;have th:=iI L2.o0 0 2 (by simp [sD]);have hset:=L2.setCells 0 rfl 0 (hv (num (cl V.C 0) 4) (num (cl V.C 0) 6));rw [jL] at hset;rw [qw _ _ (by simp [sD])] at hset;have l3:=fD hset.o0 (n:=2) (sD _ _);have l4:=fG hset.o0 (n:=2) (sD _ _);have HB:=ah hset.below;clear hset L2 L1 hb2 Hh;go_wp2;refine gV (qK Tryz.results87 ⟨w.heap.size,0,none⟩ rfl ?_) rfl ⟨rfl,uh HB⟩;rw [jU,jW l3,l4]
theorem UH (w:World) (v:Nat) (Cv Lv:Value) (V:aB) (h:aN w v Cv Lv V) (n:Nat) (hn:n<V.C.length):
  Calls Tryz.prog 160 #[.pointer (some ⟨v,0,none⟩),.int .i64 (n:Nat)] w fun e w'=>e= .returned (.agg (tv (numsOf (cl V.C n))).toArray)∧aC w w':=by
 have L0:=dU.one w (.cells (tv zt).toArray 169);have Ha:=ah (Np _ v Cv Lv V (h.below L0.below) n hn);have Hh:Hid (∀ W,_):=fun W=>at6 W (cl V.C n) (iM h.kE hn);have hnl:=numsOf_length (cl V.C n);have L0:=ah L0;clear h;generalize hcc:cl V.C n=c at*
 go_enter Tryz.func160,Tryz.ntmps160
 go_wp2_with fail
 refine Ha.mono ?_;rintro e w1 ⟨rfl,hb1⟩;have L1:=ah (L0.later hb1);clear Ha L0 hb1
 go_wp2_with fail
 refine (uh Hh w1).mono ?_;rintro e w2 ⟨rfl,hb2⟩;have L2:=L1.later hb2;have th:=iI L2.o0 0 32 (by simp [pR,gI]);have hset:=L2.setCells 0 rfl 0 (tv (numsOf c));rw [jL] at hset;rw [qw _ _ (by simp [pR,gI,hnl])] at hset;have l3:=fD hset.o0 (n:=32) (by rw [pR,hnl]);have l4:=fG hset.o0 (n:=32) (by rw [pR,hnl]);have HB:=ah hset.below;clear hset L2 L1 hb2 Hh;go_wp2;refine gV (qK Tryz.results160 ⟨w.heap.size,0,none⟩ rfl ?_) rfl ⟨rfl,uh HB⟩;rw [kS,kX l3,l4]
def JM (C:List aj):Nat→List UInt8
 | 0=>zk
 | k+1=>Oq (JM C k) k (cl C (1+k))
def aJ (C:List aj):List UInt8:=JM C 4
theorem VX (C:List aj) (hl: ∀ c ∈ C,c.length=64) (h5:5≤C.length): ∀ k,k≤4→(JM C k).length=256
 | 0,_=>iJ
 | k+1,hk=>atq _ _ _ (VX C hl h5 k om) (iM hl om) om
theorem BI (C:List aj) (hl: ∀ c ∈ C,c.length=64) (h5:5≤C.length):(aJ C).length=256:=VX C hl h5 4 om
theorem Lr (w:World) (v:Nat) (Cv Lv:Value) (V:aB) (h:aN w v Cv Lv V) (h5:5≤V.C.length):
  Calls Tryz.prog 101 #[.pointer (some ⟨v,0,none⟩)] w fun e w'=>e= .returned (.agg (cv (aJ V.C)).toArray)∧aC w w':=by
 have L0:=ah (dU.two w (.cells (cv zk).toArray 123) (.cells (cv zk).toArray 123))
 go_enter Tryz.func101,Tryz.ntmps101
 go_wp2
 go_loopw [4,5] (fun _ i w'=> ∃ k:Nat,k≤4∧i= .int .i64 k∧dU w w' [.cells (cv zk).toArray 123,.cells (cv (JM V.C k)).toArray 123]) (fun _ i _=>4 - (intOf i).toNat)
 case atStart=>exact ⟨0,om,rfl,uh L0⟩
 case round=>
  obtain ⟨k,hk,rfl,hL⟩:=hrel;clear L0;have hcl:=VX V.C h.kE h5 k hk
  by_cases hlt:k<4
  ·have hki:(k:Int)<4:=om;have Ha:=ah (Np _ v Cv Lv V (h.below hL.below) (1+k) om);have hc64:=iM h.kE (k:=1+k) om;have HL:=ah hL;rw [show ((1+k:Nat):Int)=1+(k:Int) by omega] at Ha;clear hL
   go_wp2_with fail
   refine Ha.mono ?_;rintro e w1 ⟨rfl,hb1⟩;have L1:=HL.later hb1;have Hs:=ah (atn w1 _ (JM V.C k) hcl L1.o1 k hlt _ hc64);have L1:=ah L1;clear Ha HL hb1;generalize hcc:cl V.C (1+k)=c at*
   go_wp2_with fail
   refine Hs.mono ?_;rintro e w2 ⟨rfl,hb2,hk2⟩;have L2:=ah (L1.put 1 _ hk2 hb2);clear Hs L1 hb2 hk2;go_wp2;go_roundw
   case rel=>
    refine ⟨k+1,om,gn,?_⟩;rw [JM,hcc];exact uh L2
   case measure=>exact cO
  ·have hk4:k=4:=om;subst hk4;have l1:=fD hL.o1 (n:=256) (by rw [bg,hcl]);have l2:=fG hL.o1 (n:=256) (by rw [bg,hcl]);have th:=iI hL.o0 0 256 (by simp only [iR,bg,iJ];omega);have hset:=hL.setCells 0 rfl 0 (cv (JM V.C 4));rw [jL] at hset;rw [qw _ _ (by rw [iR,bg,bg,iJ,hcl])] at hset;have o1:=hset.o0;have l3:=fD o1 (n:=256) (by rw [bg,hcl]);have l4:=fG o1 (n:=256) (by rw [bg,hcl]);have HB:=ah hset.below;clear hL hset o1;go_wp2;refine gV (qK Tryz.results101 ⟨w.heap.size,0,none⟩ rfl ?_) rfl ⟨rfl,uh HB⟩;rw [jJ,jK l3,l4];rfl
def dP (C:List aj) (first b:Nat):rV:=
 { first:=first,AA:=b / 32,oM:=b%32,second:=num (cl C first) (2*(b / 32)),block:=if num (cl C first) (2*(b / 32))=0 then 0 else num (cl C (num (cl C first) (2*(b / 32))%32768)) (2*(b%32)),tab:=if num (cl C first) (2*(b / 32))=0 then zt else numsOf (cl C (num (cl C first) (2*(b / 32))%32768)) }
theorem aa0 (C:List aj) (first b:Nat):(dP C first b).tab.length=32:=by unfold dP;dsimp only;split;exact gI;exact numsOf_length _
end
section
attribute [local go_sem ↓] dw fP fZ kS mP mV jJ kJ jY jU lD lH kQ ku kT mQ mW lZ ny jG qc qP qQ qF
attribute [local go_sem] dK fO fV gK gy aV kX mG mM mJ mF gI jK kH jX kZ kW iJ jW lq lC lu kF jc jd lY l7 kG kY mO nI lT mD nH qh qM qO qN qL
theorem arV (p:rV) (n:Nat):(iP p).toArray.setIfInBounds 3 (.int .u16 (n:Nat))=(iP { p with second:=n }).toArray:=by simp [iP]
theorem ajs (p:rV) (n:Nat):(iP p).toArray.setIfInBounds 4 (.int .u16 (n:Nat))=(iP { p with block:=n }).toArray:=by simp [iP]
theorem arW (p:rV) (T:List Nat) (hp:p.tab.length=32) (hT:T.length=32):lU (iP p).toArray 5 (tv T)=(iP { p with tab:=T }).toArray:=by
 have:=Yo [.int .i64 (p.first:Nat),.int .i64 (p.AA:Nat),.int .i64 (p.oM:Nat),.int .u16 (p.second:Nat),.int .u16 (p.block:Nat)] (tv p.tab) (tv T) (by rw [pR,pR,hp,hT])
 exact this
theorem ajt {w:World} {b:Nat} {p:rV} {t:TypeId} {fr:Nat × Nat} (h:w.heap[b]? = some (.cells (iP p).toArray t fr)) (r:Nat) (hr:r<p.tab.length):w.cell? ⟨b,5+r,none⟩=some (.int .u16 ((p.tab.getD r 0:Nat):Int)):=by
 rw [aG h,bW,iP,show 5+r=r+5 by omega];simp only [EN];exact Oy _ _ hr
theorem agD (w:World) (v:Nat) (Cv Lv:Value) (V:aB) (h:aN w v Cv Lv V) (first b:Nat) (hf:first<V.C.length) (hb:b<64) (hs:num (cl V.C first) (2*(b / 32))≠0→num (cl V.C first) (2*(b / 32))%32768<V.C.length):
  Calls Tryz.prog 104 #[.pointer (some ⟨v,0,none⟩),.int .i64 (first:Nat),.int .i64 (b:Nat)] w fun e w'=>e= .returned (.agg (iP (dP V.C first b)).toArray)∧aC w w':=by
 obtain ⟨q,r,hq,hr,hbq⟩: ∃ q r,q<2∧r<32∧b=32*q+r:=⟨b / 32,b%32,om,om,om⟩;have e1:b / 32=q:=om;have e2:b%32=r:=om;have i1:(b:Int) / 32=(q:Int):=om;have i2:(b:Int)%32=(r:Int):=om;have HP:Hid (dP V.C first b={ first:=first,AA:=q,oM:=r,second:=num (cl V.C first) (2*q),block:=if num (cl V.C first) (2*q)=0 then 0 else num (cl V.C (num (cl V.C first) (2*q)%32768)) (2*r),tab:=if num (cl V.C first) (2*q)=0 then zt else numsOf (cl V.C (num (cl V.C first) (2*q)%32768)) }):=by
  unfold dP;rw [e1,e2];rfl
 rw [e1] at hs;clear hbq e1 e2;have L0:=dU.two w (.cells (iP zp).toArray 171) (.cells (iP zp).toArray 171);have th0:=iI L0.o1 0 37 (by simp [AQ zp gI]);have L1:=L0.setCells 1 rfl 0 (iP ⟨first,q,r,0,0,zt⟩);rw [qw _ _ (by simp [iP,pR,zp])] at L1;simp only [wG,nK] at L1;generalize hW1:World.setCells _ (w.heap.size+1) 0 (iP ⟨first,q,r,0,0,zt⟩)=W1 at L1;have Ht:=ah (UH _ v Cv Lv V (h.below L1.drew.below) first hf);have ztl:=gI;have c1:W1.drew.cell? ⟨w.heap.size+1,1,none⟩=some (.int .i64 (q:Nat)):=(aG L1.drew.o1 1).trans rfl;have hix: ∀ W,_:=fun W=>acV W (numsOf (cl V.C first)) (numsOf_length _) q om;rw [uT _ _ om] at hix;have L1:=ah L1;have Hh:=ah h;have hsl:=iD (cl V.C first) (2*q);generalize hss:num (cl V.C first) (2*q)=s at*;clear L0 h
 go_enter Tryz.func104,Tryz.ntmps104
 go_wp2_with fail
 clear hW1 th0;go_wp2
 go_region_law (
  go_simp;go_at_call 160;refine Ht.mono ?_;rintro e w1 ⟨rfl,hb1⟩;have L2:=L1.drew.later hb1;have c2:w1.cell? ⟨w.heap.size+1,1,none⟩=some (.int .i64 (q:Nat)):=(aG L2.o1 1).trans rfl;have c3:w1.cell? ⟨w.heap.size+1,3,none⟩=some (.int .u16 0):=(aG L2.o1 3).trans rfl;have z3:=eG L2.o1;have L2:=ah L2)
 all_goals
  have L3:=L2.setCell 1 rfl 3 (.int .u16 (s:Nat));rw [arV] at L3;dsimp only [wG,nK] at L3;generalize World.setCell w1 ⟨w.heap.size+1,3,none⟩ (.int .u16 (s:Nat))=W3 at*;have d3:W3.cell? ⟨w.heap.size+1,3,none⟩=some (.int .u16 (s:Nat)):=(aG L3.o1 3).trans rfl;clear L2 hb1 c1 c2 c3 z3 Ht L1
  by_cases hs0:s=0
  ·subst hs0;rw [au rfl,au rfl] at HP;obtain ⟨bn,hbn⟩: ∃ bn,zt.getD r 0=bn:=⟨_,rfl⟩;have c4:W3.cell? ⟨w.heap.size+1,2,none⟩=some (.int .i64 (r:Nat)):=(aG L3.o1 2).trans rfl;have c5:W3.cell? ⟨w.heap.size+1,4,none⟩=some (.int .u16 0):=(aG L3.o1 4).trans rfl;have c6:W3.cell? ⟨w.heap.size+1,5+r,none⟩=some (.int .u16 (bn:Nat)):=by rw [← hbn];exact ajt L3.o1 r (by rw [gI];exact hr)
   have z6:=eG L3.o1;have L5:=L3.setCell 1 rfl 4 (.int .u16 (bn:Nat));rw [ajs] at L5;dsimp only [wG,nK] at L5;generalize hW5:World.setCell W3 ⟨w.heap.size+1,4,none⟩ (.int .u16 (bn:Nat))=W5 at L5;have l1:=fD L5.o1 (n:=37) (AQ _ gI);have l2:=fG L5.o1 (n:=37) (AQ _ gI);have th:=iI L5.o0 0 37 (by simp [iP,pR,zp,gI]);have L6:=L5.setCells 0 rfl 0 (iP ⟨first,q,r,0,bn,zt⟩);rw [jL,qw _ _ (by simp [iP,pR,zp,gI])] at L6;have l3:=fD L6.o0 (n:=37) (AQ _ gI);have l4:=fG L6.o0 (n:=37) (AQ _ gI);have HB:=ah L6.below;have htl:(rV.tab ⟨first,q,r,0,bn,zt⟩).length=32:=gI;clear L5 L6 L3;have hb0:bn=0:=by rw [← hbn,zt,aK,qU];split <;> rfl
   have HP:Hid (dP V.C first b=⟨first,q,r,0,bn,zt⟩):=by have:=uh HP;rw [hb0];exact this
   clear hb0 hbn;generalize (⟨first,q,r,0,bn,zt⟩:rV)=p at*;go_wp2;refine gV (qK Tryz.results104 ⟨w.heap.size,0,none⟩ rfl ?_) rfl ⟨rfl,uh HB⟩;rw [qc,qh l3,l4,uh HP]
  ·rw [ak hs0,ak hs0] at HP;have hsn:(((s:Nat):Int) != 0)=true:=by rw [nR];omega
   have Hc:=ah (BH s hsl W3);have Ht:=ah (UH _ v Cv Lv V (Hh.below L3.below) (s%32768) (hs hs0));have L3:=ah L3
   go_wp2_with fail
   refine Hc.mono ?_;rintro e w4 ⟨rfl,rfl⟩
   go_wp2_with fail
   refine Ht.mono ?_;rintro e w4 ⟨rfl,hb4⟩;have L4:=L3.later hb4;have hnl:=numsOf_length (cl V.C (s%32768));have th4:=iI L4.o1 5 32 (by simp [iP,pR,gI]);have L4:=L4.setCells 1 rfl 5 (tv (numsOf (cl V.C (s%32768))));rw [arW _ _ gI hnl] at L4;dsimp only [wG,nK] at L4;generalize hW4:World.setCells w4 (w.heap.size+1) 5 (tv (numsOf (cl V.C (s%32768))))=W4 at L4;obtain ⟨bn,hbn⟩: ∃ bn,(numsOf (cl V.C (s%32768))).getD r 0=bn:=⟨_,rfl⟩;have c4:W4.cell? ⟨w.heap.size+1,2,none⟩=some (.int .i64 (r:Nat)):=(aG L4.o1 2).trans rfl;have c5:W4.cell? ⟨w.heap.size+1,4,none⟩=some (.int .u16 0):=(aG L4.o1 4).trans rfl;have c6:W4.cell? ⟨w.heap.size+1,5+r,none⟩=some (.int .u16 (bn:Nat)):=by rw [← hbn];exact ajt L4.o1 r (by rw [numsOf_length];exact hr)
   have z6:=eG L4.o1;have L5:=L4.setCell 1 rfl 4 (.int .u16 (bn:Nat));rw [ajs] at L5;dsimp only [wG,nK] at L5;generalize hW5:World.setCell W4 ⟨w.heap.size+1,4,none⟩ (.int .u16 (bn:Nat))=W5 at L5;have l1:=fD L5.o1 (n:=37) (AQ _ (numsOf_length _));have l2:=fG L5.o1 (n:=37) (AQ _ (numsOf_length _));have th:=iI L5.o0 0 37 (by simp [iP,pR,zp,gI]);have L6:=L5.setCells 0 rfl 0 (iP ⟨first,q,r,s,bn,numsOf (cl V.C (s%32768))⟩);rw [jL,qw _ _ (by simp [iP,pR,zp,gI,numsOf_length])] at L6;have l3:=fD L6.o0 (n:=37) (AQ _ (numsOf_length _));have l4:=fG L6.o0 (n:=37) (AQ _ (numsOf_length _));have HB:=ah L6.below;have htl:(rV.tab ⟨first,q,r,s,bn,numsOf (cl V.C (s%32768))⟩).length=32:=numsOf_length _;clear L5 L6 L4;have HP:Hid (dP V.C first b=⟨first,q,r,s,bn,numsOf (cl V.C (s%32768))⟩):=by have:=uh HP;rw [← hbn,uT _ _ hr];exact this
   clear hbn Hc Ht L3 hb4;generalize (⟨first,q,r,s,bn,numsOf (cl V.C (s%32768))⟩:rV)=p at*;go_wp2;refine gV (qK Tryz.results104 ⟨w.heap.size,0,none⟩ rfl ?_) rfl ⟨rfl,uh HB⟩;rw [qc,qh l3,l4,uh HP]
def wP (C:List aj) (first:Nat) (n:Int):aj × Nat:=if kP n then (tN C first n.toNat,0) else (zc,1)
theorem aox (C:List aj) (first b:Nat):tN C first b=if (dP C first b).block=0 then zc else cl C ((dP C first b).block%32768):=by
 unfold tN dP;dsimp only
 by_cases h:num (cl C first) (2*(b / 32))=0
 ·rw [au h,au h,au rfl]
 ·rw [ak h,ak h]
theorem ajM (w:World) (v:Nat) (Cv Lv:Value) (V:aB) (h:aN w v Cv Lv V) (first:Nat) (n:Int) (hin:rH V.C first):
  Calls Tryz.prog 140 #[.pointer (some ⟨v,0,none⟩),.int .i64 (first:Nat),.int .i64 n] w fun e w'=>e= .returned (.tuple #[.agg (cv (wP V.C first n).1).toArray,.int .i64 ((wP V.C first n).2:Nat)])∧aC w w':=by
 have L0:=dU.one w (.cells (cv zc).toArray 38);have Hi:=ah (ak1 n (w.alloc (.cells (cv zc).toArray 38)));have Hr:Hid (wP V.C first n=if kP n then (tN V.C first n.toNat,0) else (zc,1)):=rfl;have HB0:=ah L0.below;cases hb:kP n with
 | false=>
  rw [hb] at Hi Hr;rw [ak dc] at Hr
  go_enter Tryz.func140,Tryz.ntmps140
  go_wp2_with fail
  refine Hi.mono ?_;rintro e w1 ⟨rfl,rfl⟩;go_wp2;rw [uh Hr];refine gV (v:= .tuple #[.agg (cv zc).toArray,.int .i64 1]) (by rw [EK Tryz.results140];simp only [dw];simp [asAddr,gy aV]) rfl ⟨rfl,uh HB0⟩
 | true=>
  rw [hb] at Hi Hr;rw [au rfl] at Hr;have hn:0≤n∧n<64:=by simpa [kP] using hb
  obtain ⟨k,rfl⟩:=CP hn.1;rw [vC] at Hr;have hk:k<64:=om;have Hf:=ah (agD _ v Cv Lv V (h.below L0.below) first k hin.at' hk (fun h0=>hin.second (k / 32) om h0));have htl:=aa0 V.C first k;have hbe:=aox V.C first k;have hlt:(dP V.C first k).block≠0→(dP V.C first k).block%32768<V.C.length:=by
   intro h0;unfold dP at h0 ⊢;dsimp only at h0 ⊢
   split at h0
   ·exact absurd rfl h0
   ·rename_i hx;rw [ak hx];exact hin.block (k / 32) om hx (k%32) om
  have hbl:(dP V.C first k).block<65536:=by
   unfold dP;dsimp only;split
   ·omega
   ·exact iD _ _
  have Hh:=ah h;have L0:=ah L0;clear hb hn h HB0;generalize dP V.C first k=p at*
  go_enter Tryz.func140,Tryz.ntmps140
  go_wp2_with fail
  refine Hi.mono ?_;rintro e w1 ⟨rfl,rfl⟩
  go_wp2_with fail
  refine Hf.mono ?_;rintro e w1 ⟨rfl,hb1⟩;have zl:zp.tab.length=32:=gI;have L1:=L0.later hb1;have L2:=L1.alloc (.cells (iP p).toArray 171);have c4:(w1.alloc (.cells (iP p).toArray 171)).cell? ⟨w1.heap.size,4,none⟩=some (.int .u16 (p.block:Nat)):=(vX w1 _ _ _ 4).trans rfl;have c4':(w1.alloc (.cells (iP p).toArray 171)).drew.cell? ⟨w1.heap.size,4,none⟩=some (.int .u16 (p.block:Nat)):=c4;clear Hf Hi
  by_cases hp0:p.block=0
  ·rw [au hp0] at hbe;rw [hp0] at c4;have th:=iI L2.o0 0 64 (by simp [bg,aV]);have L3:=L2.setCells 0 rfl 0 (cv zc);rw [jL,qw _ _ sm] at L3;have l3:=gZ L3.o0 aV;have l4:=gY L3.o0 aV;have HB:=ah L3.below;rw [hbe] at Hr;clear L1 L2 L3 hb1 c4';go_wp2;rw [uh Hr];refine gV (v:= .tuple #[.agg (cv zc).toArray,.int .i64 0]) (by rw [EK Tryz.results140];simp only [dw];simp [asAddr,dK l3,l4]) rfl ⟨rfl,uh HB⟩
  ·rw [ak hp0] at hbe;have hpn:((p.block:Int) == 0)=false:=by rw [lI];omega
   have Hc:Hid (∀ W,_):=fun W=>BH p.block hbl W;have Ha:=ah (Np _ v Cv Lv V (Hh.below L2.drew.below) (p.block%32768) (hlt hp0));have hcl:=iM Hh.kE (hlt hp0);rw [hbe] at Hr;generalize cl V.C (p.block%32768)=c at*;have L2:=ah L2;clear L1 hb1 hbe hlt;go_wp2
   go_region_law (first
    | (
     go_simp;go_at_call 108;refine (uh Hc _).mono ?_;rintro e w3 ⟨rfl,rfl⟩)
    | (
     go_simp;go_at_call 142;refine Ha.mono ?_;rintro e w3 ⟨rfl,hb3⟩;have L3:=L2.drew.later hb3;have th:=iI L3.o0 0 64 (by simp [bg,aV]);have L3:=ah L3))
   all_goals
    have L4:=L3.setCells 0 rfl 0 (cv c);rw [jL,qw _ _ (by simp [bg,aV,hcl])] at L4;have l3:=gZ L4.o0 hcl;have l4:=gY L4.o0 hcl;have HB:=ah L4.below;clear L4 L3 hb3 L2 Ha Hc c4 c4';go_wp2;rw [uh Hr];refine gV (v:= .tuple #[.agg (cv c).toArray,.int .i64 0]) (by rw [EK Tryz.results140];simp only [dw];simp [Act.put,asAddr,dK l3,l4]) rfl ⟨rfl,uh HB⟩
theorem pW (a b:Nat) (w:World):(Instr.field 128 (.agg (hv a b).toArray) 1).run Tryz.prog w= .ok (.int .i64 (b:Nat)) w:=by
 kernel_rfl
theorem pV (a b:Nat) (w:World):(Instr.field 128 (.agg (hv a b).toArray) 0).run Tryz.prog w= .ok (.int .i64 (a:Nat)) w:=by
 kernel_rfl
attribute [local go_sem] pW pV
theorem Sr {C:List aj} {first:Nat} (hl: ∀ c ∈ C,c.length=64) (hin:rH C first) (n:Int):(wP C first n).1.length=64:=by
 unfold wP;split
 ·rename_i h;simp only [kP,vU,decide_eq_true_eq] at h;exact afe hl hin n.toNat om
 ·exact aV
theorem auZ (w:World) (v:Nat) (Cv Lv:Value) (V:aB) (h:aN w v Cv Lv V) (n:Int) (h0:0<V.C.length) (hin:rH V.C (num (cl V.C 0) 6)):
  Calls Tryz.prog 81 #[.pointer (some ⟨v,0,none⟩),.int .i64 n] w fun e w'=>e= .returned (.tuple #[.agg (cv (wP V.C (num (cl V.C 0) 6) n).1).toArray,.int .i64 ((wP V.C (num (cl V.C 0) 6) n).2:Nat)])∧aC w w':=by
 have L0:=dU.one w (.cells (cv zc).toArray 38);have Hh:=ah (IJ _ v Cv Lv V (h.below L0.below) h0);have hlen:=Sr h.kE hin n;have H:=ah h;have L0:=ah L0;clear h;have Hr:Hid (∀ W,aN W v Cv Lv V→_):=fun W hW=>ajM W v Cv Lv V hW (num (cl V.C 0) 6) n hin;generalize hrr:wP V.C (num (cl V.C 0) 6) n=R at*;obtain ⟨c,k⟩:=R;dsimp only at hlen Hr ⊢;generalize num (cl V.C 0) 6=first at*;generalize num (cl V.C 0) 4=cc at*
 go_enter Tryz.func81,Tryz.ntmps81
 go_wp2_with fail
 refine Hh.mono ?_;rintro e w1 ⟨rfl,hb1⟩;have L1:=ah (L0.later hb1)
 go_wp2_with fail
 refine (uh Hr _ (H.below L1.below)).mono ?_;rintro e w2 ⟨rfl,hb2⟩;have L2:=L1.later hb2;have th:=iI L2.o0 0 64 (by simp [bg,aV]);have L3:=L2.setCells 0 rfl 0 (cv c);rw [jL,qw _ _ (by simp [bg,aV,hlen])] at L3;have l3:=gZ L3.o0 hlen;have l4:=gY L3.o0 hlen;have HB:=ah L3.below;clear L3 L2 hb2 L1 hb1 Hr Hh;go_wp2;refine gV (v:= .tuple #[.agg (cv c).toArray,.int .i64 (k:Nat)]) (by rw [EK Tryz.results81];simp only [dw];simp [asAddr,dK l3,l4]) rfl ⟨rfl,uh HB⟩
theorem an8 (w:World) (d v:Nat) (Cv Lv:Value) (V:aB) (h:pq w d v Cv Lv V) (n:Int) (h0:0<V.C.length) (hin:rH V.C (num (cl V.C 0) 6)):
  Calls Tryz.prog 46 #[.pointer (some ⟨d,0,none⟩),.int .i64 n] w fun e w'=>e= .returned (.tuple #[.agg (cv (wP V.C (num (cl V.C 0) 6) n).1).toArray,.int .i64 ((wP V.C (num (cl V.C 0) 6) n).2:Nat)])∧aC w w':=by
 have L0:=dU.one w (.cells (cv zc).toArray 38);have h1:=h.below L0.below;have c0:=h1.c0;have Hm:=ah (G8 _ d v Cv Lv V h1);have Hr:=ah (auZ _ v Cv Lv V h1.bP n h0 hin);have hlen:=Sr h.bP.kE hin n;have L0:=ah L0;clear h h1;generalize wP V.C (num (cl V.C 0) 6) n=R at*;obtain ⟨c,k⟩:=R;dsimp only at hlen Hr ⊢
 go_enter Tryz.func46,Tryz.ntmps46
 go_wp2_with fail
 refine Hm.mono ?_;rintro e w1 ⟨rfl,rfl⟩
 go_wp2_with fail
 refine Hr.mono ?_;rintro e w2 ⟨rfl,hb2⟩;have L2:=L0.later hb2;have th:=iI L2.o0 0 64 (by simp [bg,aV]);have L3:=L2.setCells 0 rfl 0 (cv c);rw [jL,qw _ _ (by simp [bg,aV,hlen])] at L3;have l3:=gZ L3.o0 hlen;have l4:=gY L3.o0 hlen;have HB:=ah L3.below;clear L3 L2 hb2 L0 Hr Hm;go_wp2;refine gV (v:= .tuple #[.agg (cv c).toArray,.int .i64 (k:Nat)]) (by rw [EK Tryz.results46];simp only [dw];simp [asAddr,dK l3,l4]) rfl ⟨rfl,uh HB⟩
end
section
attribute [local go_sem ↓] dw fP fZ kS mP mV jJ kJ jY jU lD lH kQ ku kT mQ mW lZ ny jG qc qP qQ qF
attribute [local go_sem] dK fO fV gK gy aV kX mG mM mJ mF gI jK kH jX kZ kW iJ jW lq lC lu kF jc jd lY l7 kG kY mO nI lT mD nH qh qM qO qN qL
theorem yN (V:aB) (n:Nat) (d:aj):(bT V n d).C.length=max V.C.length (n+1):=by
 unfold bT;split
 ·rename_i h;have:=h.1;omega
 ·simp only [Ia,rG,Dj]
theorem tZ (V:aB) (n:Nat) (d:aj):(bT V n d).L.length≤V.L.length+2:=by
 unfold bT;split
 ·omega
 ·have:=VY V
  simp only [Ia,oO,Zb];omega
def kU (V:aB) (k:List UInt8):Nat→aB
 | 0=>V
 | p+1=>bT (kU V k p) (1+p) (partOf k p)
theorem ajy (V:aB) (k:List UInt8) (p:Nat):(kU V k p).C.length≤max V.C.length (p+1):=by
 induction p with
 | zero=>simp only [kU];omega
 | succ p ih=>simp only [kU,yN];omega
theorem Oc (V:aB) (k:List UInt8) (p:Nat):(kU V k p).L.length≤V.L.length+2*p:=by
 induction p with
 | zero=>simp only [kU];omega
 | succ p ih=>have:=tZ (kU V k p) (1+p) (partOf k p);simp only [kU];omega
theorem Uk (w:World) (v:Nat) (Cv Lv:Value) (V:aB) (h:aN w v Cv Lv V) (k:List UInt8) (hk:k.length=256) (hC:V.C.length≤1000) (hL:V.L.length≤900000000):
  Calls Tryz.prog 69 #[.pointer (some ⟨v,0,none⟩),.agg (cv k).toArray] w fun e w'=>e= .returned (.tuple #[])∧ ∃ qB qC,bZ w w' v Cv Lv qB qC (kU V k 4):=by
 have E0:=ah ((Env.start h).lay (.cells (cv k).toArray 123));clear h
 go_enter Tryz.func69,Tryz.ntmps69
 go_wp2
 go_loopw [4,5] (fun _ i w'=> ∃ (p:Nat) (C1 L1:Value),p≤4∧i= .int .i64 p∧Env w w' v Cv Lv C1 L1 (kU V k p) [(w.heap.size,.cells (cv k).toArray 123)]) (fun _ i _=>4 - (intOf i).toNat)
 case atStart=>exact ⟨0,Cv,Lv,om,rfl,uh E0⟩
 case round=>
  obtain ⟨p,C1,L1,hp,rfl,hE⟩:=hrel;clear E0
  by_cases hlt:p<4
  ·have hpi:(p:Int)<4:=om;have l1:=fD hE.drew.o0 (n:=256) (by rw [bg,hk]);have l2:=fG hE.drew.o0 (n:=256) (by rw [bg,hk]);have IL:=ajy V k p;have Aw:=Oc V k p;have hpl:=acv k p hk hlt;have Hp:=ah (arJ wr.drew k hk p hlt);have hw1:IntKind.i64.wrap (1+(p:Int))=1+(p:Int):=Jo _ om;have HE:=ah hE;have EU:Hid (∀ W C1 L1,aN W v C1 L1 (kU V k p)→_):=fun W C1 L1 hW=>FK W v C1 L1 (kU V k p) hW (1+p) om (partOf k p) hpl om om;rw [show ((1+p:Nat):Int)=1+(p:Int) by omega] at EU;clear hE;generalize hcc:partOf k p=c at*;go_wp2
   go_region_law (first
    | (
     go_simp;go_at_call 132;refine Hp.mono ?_;rintro e w1 ⟨rfl,hb1⟩;have E1:=ah (HE.drew.later hb1))
    | (
     go_simp;go_at_call 70;refine (uh EU _ _ _ E1.at').mono ?_;rintro e w2 ⟨rfl,C2,L2,hS⟩;have E2:=ah (E1.fQ hS);clear hS))
   all_goals
    go_wp2;go_roundw
    case rel=>
     refine ⟨p+1,C2,L2,om,gn,?_⟩;rw [kU,hcc];exact uh E2
    case measure=>exact cO
  ·have hp4:p=4:=om;subst hp4;have HS:=ah hE.step;clear hE;go_wp2
   go_end0
   exact ⟨rfl,C1,L1,uh HS⟩
theorem acC (w:World) (v:Nat) (Cv Lv:Value) (V:aB) (h:aN w v Cv Lv V) (a b:Nat) (ha:a<65536) (hb:b<65536) (hC:V.C.length≤1000) (hL:V.L.length≤900000000):
  Calls Tryz.prog 72 #[.pointer (some ⟨v,0,none⟩),.agg (hv a b).toArray] w fun e w'=>e= .returned (.tuple #[])∧ ∃ qB qC,bZ w w' v Cv Lv qB qC (bT V 0 (fE a b)):=by
 have E0:=(Env.start h).lay (.cells (hv a b).toArray 128);have l1:=fD E0.drew.o0 (n:=2) (sD _ _);have l2:=fG E0.drew.o0 (n:=2) (sD _ _);have hbl:=II a b;have Hp:=ah (P7 (w.alloc (.cells (hv a b).toArray 128)).drew a b ha hb);have EU:Hid (∀ W C1 L1,aN W v C1 L1 V→_):=fun W C1 L1 hW=>FK W v C1 L1 V hW 0 om (fE a b) hbl om om;have HE:=ah E0;clear E0 h;generalize fE a b=c at*
 go_enter Tryz.func72,Tryz.ntmps72
 go_wp2
 go_region_law (first
  | (
   go_simp;go_at_call 134;refine Hp.mono ?_;rintro e w1 ⟨rfl,hb1⟩;have E1:=ah (HE.drew.later hb1))
  | (
   go_simp;go_at_call 70;refine (uh EU _ _ _ E1.at').mono ?_;rintro e w2 ⟨rfl,C2,L2,hS⟩;have E2:=ah (E1.fQ hS).step;clear hS))
 all_goals
  go_end0
  exact ⟨rfl,C2,L2,uh E2⟩
def Ce (V:aB) (t i n:Nat):aB:=bT V t (bytesOf ((numsOf (cl V.C t)).set i n))
theorem N8 (c:aj) (i:Nat):(numsOf c).getD i 0<65536:=by
 by_cases hi:i<32
 ·rw [uT _ _ hi];exact iD _ _
 ·rw [aK,eu (by rw [numsOf_length];omega)];decide
theorem akj {T:List Nat} (hT: ∀ i,T.getD i 0<65536) (k n:Nat) (hn:n<65536): ∀ i,(T.set k n).getD i 0<65536:=by
 intro i
 have:=hT i
 simp only [aK,uf] at*;split
 ·split <;> simp <;> omega
 ·exact this
theorem ajC (w:World) (v:Nat) (Cv Lv:Value) (V:aB) (h:aN w v Cv Lv V) (t i n:Nat) (ht:t<V.C.length) (hi:i<32) (hn:n<65536) (hC:V.C.length≤1000) (hL:V.L.length≤900000000):
  Calls Tryz.prog 164 #[.pointer (some ⟨v,0,none⟩),.int .i64 (t:Nat),.int .i64 (i:Nat),.int .u16 (n:Nat)] w fun e w'=>e= .returned (.tuple #[])∧ ∃ qB qC,bZ w w' v Cv Lv qB qC (Ce V t i n):=by
 have Ht:=ah (UH w v Cv Lv V h t ht);have hnl:=numsOf_length (cl V.C t);have Pm:=ah (akj (N8 (cl V.C t)) i n hn);have EU:Hid (∀ W C1 L1,aN W v C1 L1 V→_):=fun W C1 L1 hW=>FK W v C1 L1 V hW t om (bytesOf ((numsOf (cl V.C t)).set i n)) (bytesOf_length _) om om;have HV:Hid (Ce V t i n=bT V t (bytesOf ((numsOf (cl V.C t)).set i n))):=rfl;have H:=ah h;have hii:(i:Int)<32:=om;clear h;generalize numsOf (cl V.C t)=T at*
 go_enter Tryz.func164,Tryz.ntmps164
 go_wp2_with fail
 refine Ht.mono ?_;rintro e w1 ⟨rfl,hb1⟩;have E1:=((Env.start H).later hb1).lay (.cells (tv T).toArray 169);have c1:(w1.alloc (.cells (tv T).toArray 169)).cell? ⟨w1.heap.size,i,none⟩=some (.int .u16 ((T.getD i 0:Nat):Int)):=by
  rw [vX,bW,Oy _ _ om]
 have E2:=E1.put sm (Kept.only _ w1.heap.size i (.int .u16 (n:Nat))) (heap_setCell_same _ _ _ _ _ _ _ E1.o0);rw [Af,← YS] at E2;have LH:(T.set i n).length=32:=by rw [rG];exact hnl
 have f1:=eG E1.o0;generalize hW2:World.setCell _ ⟨w1.heap.size,i,none⟩ (.int .u16 (n:Nat))=W2 at E2;have l1:=fD E2.drew.o0 (n:=32) (by rw [pR,LH]);have l2:=fG E2.drew.o0 (n:=32) (by rw [pR,LH]);have Hp:=ah (adk W2.drew (T.set i n) LH Pm);have HE:=ah E2;clear E1 E2 Ht hb1 Pm;generalize bytesOf (T.set i n)=c at*;generalize hT2:T.set i n=T2 at*;clear hT2;generalize T.getD i 0=old at*;go_wp2
 go_region_law (first
  | (
   go_simp;go_at_call 163;refine Hp.mono ?_;rintro e w4 ⟨rfl,hb4⟩;have E4:=ah (HE.drew.later hb4))
  | (
   go_simp;go_at_call 70;refine (uh EU _ _ _ E4.at').mono ?_;rintro e w5 ⟨rfl,C5,L5,hS⟩;have E5:=ah (E4.fQ hS).step;clear hS))
 all_goals
  go_end0
  exact ⟨rfl,C5,L5,by rw [uh HV];exact uh E5⟩
def oG (c:List UInt8) (want:Nat):Nat→List Nat
 | 0=>[]
 | k+1=>if (oG c want k).length=want then oG c want k else if aI c k=0 then oG c want k++[k] else oG c want k
def dG (c:List UInt8) (want:Nat):List Nat:=oG c want 256
theorem aiu (c:List UInt8) (want k:Nat) (h:(oG c want k).length=want): ∀ j,oG c want (k+j)=oG c want k
 | 0=>rfl
 | j+1=>by
  rw [← OL,oG,aiu c want k h j,au h]
theorem NY (c:List UInt8) (want k:Nat):(oG c want k).length≤want∧(oG c want k).length≤k:=by
 induction k with
 | zero=>simp [oG]
 | succ k ih=>
  rw [oG];split
  ·omega
  ·split
   ·simp;omega
   ·omega
def iv (F:List Nat):List Value:=F.map fun n=> .int .i64 (n:Nat)
theorem apL (F:List Nat) (n:Nat):iv (F++[n])=iv F++[.int .i64 (n:Nat)]:=by simp [iv]
theorem Xl (w:World) (v:Nat) (Cv Lv:Value) (V:aB) (h:aN w v Cv Lv V) (h5:5≤V.C.length) (want:Nat) (hw:want≤100):
  Calls Tryz.prog 143 #[.pointer (some ⟨v,0,none⟩),.int .i64 (want:Nat)] w fun e w'=> ∃ x,e= .returned x∧w'.ownsRow w.heap.size 3 1 x (dG (aJ V.C) want).length (iv (dG (aJ V.C) want))∧aC w w':=by
 obtain ⟨i0,hi0,hz0,hz1,hz2⟩:=qy Tryz.ahO;have Hc:=ah (Lr w v Cv Lv V h h5);have hcl:=BI V.C h.kE h5;clear h;generalize aJ V.C=c at*
 go_enter Tryz.func143,Tryz.ntmps143
 go_wp2_with fail
 refine Hc.mono ?_;rintro e w1 ⟨rfl,hb1⟩;have Hb1:=ah hb1;clear hb1 Hc;go_wp2
 go_loopw [5,10] (fun f i w'=> ∃ k:Nat,k≤256∧i= .int .i64 k∧w'.ownsRow w.heap.size 3 1 f (oG c want k).length (iv (oG c want k))∧aC w w') (fun _ i _=>256 - (intOf i).toNat)
 case atStart=>exact ⟨0,om,rfl,wF _ _ _ _,uh Hb1⟩
 case round=>
  obtain ⟨k,hk,rfl,hrow,hb⟩:=hrel;obtain ⟨fa,yB,rfl⟩:=iq hrow;have hle:=NY c want k
  by_cases hlt:k<256
  ·have hki:(k:Int)<256:=om;have hix:=acU wr c hcl k hlt
   by_cases hst:(oG c want k).length=want
   ·have fA:=ah hrow;have Hb:=ah hb;have Hs:Hid (dG c want=oG c want k):=by
     have:=aiu c want k hst (256 - k)
     rw [show k+(256 - k)=256 by omega] at this;exact this
    have dq:((((oG c want k).length:Nat):Int) == (want:Int))=true:=by simp [hst]
    clear hrow hb;go_wp2;go_ret;exact ⟨_,rfl,by rw [uh Hs];exact uh fA,uh Hb⟩
   ·have dq:((((oG c want k).length:Nat):Int) == (want:Int))=false:=by simp;omega
    have Hs:Hid (oG c want (k+1)=if aI c k=0 then oG c want k++[k] else oG c want k):=by
     show _=_;rw [oG,ak hst]
    have fA:=ah hrow;have Hb:=ah hb;have hbl:=tV c k;clear hrow hb
    by_cases h0:aI c k=0
    ·rw [au h0] at Hs;rw [h0] at hix;generalize oG c want k=F at*
     go_wp2_with (at_builtin;refine xZ _ rfl _ _ _ rfl w.heap.size 3 i0 _ 1 8 Tryz.underlying75 hi0 hz0 hz1 hz2 rfl om (.slice fa F.length yB) F.length (iv F) rfl (fA.alloc _) ⟨wr.heap.size,0,none⟩ 1 1 [.int .i64 (k:Nat)] rfl rfl (pU (cs:= #[.int .i64 (k:Nat)]) (t:=3) (fr:=(0,0)) (aW wr _)) (by simp [Value.oneCell']) om (by unfold maxLen;omega) om (by have:=Hb.size;simp;omega) (wr.heap.size+1) sm ?_;intro g5 cap5 w5 hown5 hgrow hat uP)
     have S5:=ah ((Hb.alloc Hb.size (.cells #[.int .i64 (k:Nat)] 3)).grown hgrow (by have:=Hb.size;simp;omega) (fun k hk=>(fA.lt k hk).1));go_roundw
     case rel=>exact ⟨k+1,om,gn,by rw [uh Hs,apL,oO];exact hown5,uh S5⟩
     case measure=>exact cO
    ·rw [ak h0] at Hs;have d0:(((aI c k:Nat):Int) == 0)=false:=by rw [lI];omega
     generalize oG c want k=F at*;generalize aI c k=bb at*;go_wp2;go_roundw
     case rel=>exact ⟨k+1,om,gn,by rw [uh Hs];exact uh fA,uh Hb⟩
     case measure=>exact cO
  ·have hk256:k=256:=om;subst hk256;have fA:=ah hrow;have Hb:=ah hb;clear hrow hb;go_wp2;go_ret;exact ⟨_,rfl,uh fA,uh Hb⟩
end
end Go.Proofs.YtknjjjenklfeoaaGreatDoor
