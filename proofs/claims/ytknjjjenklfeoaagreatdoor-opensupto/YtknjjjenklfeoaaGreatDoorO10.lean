import Derived.Test.YtknjjjenklfeoaaGreatDoorO09
set_option maxHeartbeats 8000000
set_option maxRecDepth 100000
set_option linter.all false
namespace Go.Proofs.YtknjjjenklfeoaaGreatDoor
open Go.RowKit
section
attribute [local go_sem ↓] dw fP fZ kS mP mV jJ kJ jY jU lD lH kQ ku kT mQ mW lZ ny
attribute [local go_sem] dK fO fV gK gy aV kX mG mM mJ mF gI jK kH jX kZ kW iJ jW lq lC lu kF jc jd lY l7 kG kY mO nI lT mD nH
theorem Np (w:World) (v:Nat) (Cv Lv:Value) (V:aB) (h:aN w v Cv Lv V) (n:Nat) (hn:n<V.C.length):
  Calls Tryz.prog 142 #[.pointer (some ⟨v,0,none⟩),.int .i64 (n:Nat)] w fun e w'=>e= .returned (.agg (cv (cl V.C n)).toArray)∧aC w w':=by
 obtain ⟨g,cap,rfl,_⟩:=gB h.jA om;have L0:=dU.one w (.cells (cv zc).toArray 38);have h1:=h.below L0.below;have c0:=h1.c0;have l1:=oI h1.jA h1.kE n hn;have l2:=oH h1.jA h1.kE n hn;have hcl:=iM h.kE hn;have hni:(n:Int)<(V.C.length:Int):=om;have HB:=ah L0.below;generalize hcc:cl V.C n=c at*;have HB:=ah (HB.alloc (o:= .cells (cv c).toArray 38) sm);have HB2:Hid (aC w (w.alloc (.cells (cv c).toArray 38))):=fC;clear HB h1 h L0
 go_enter Tryz.func142,Tryz.ntmps142
 go_wp2;refine gV (qK Tryz.results142 ⟨w.heap.size,0,none⟩ rfl ?_) rfl ⟨rfl,uh HB2⟩;rw [dw,gy hcl]
def Gw:iU:=⟨-1,zc⟩
def fJ (V:aB):aB:=if V.loose then ⟨V.C,V.L++[Gw],false,V.short⟩ else V
theorem aN.ag0 {w w5:World} {v:Nat} {Cv Lv v':Value} {V:aB} {L':List iU} {l:Bool} (h:aN w v Cv Lv V) (hg:w.grownBy w5 Lv.ownBlock) (hrow:w5.ownsRow 0 104 65 v' L'.length (iY L')) (hL': ∀ x ∈ L',x.data.length=64) (hat: ∀ g,v'.ownBlock=some g→Lv.ownBlock=some g∨w.heap.size≤g):
  bZ w ((w5.setCell ⟨v,1,none⟩ v').setCell ⟨v,2,none⟩ (.bool l)) v Cv Lv Cv v' ⟨V.C,L',l,V.short⟩:=by
 have b5:w5.heap[v]? = some (.cells (OB Cv Lv V).toArray 121 (0,0)):=qH hg h.aF h.FH;have b6:=heap_setCell_same _ _ 2 (.bool l) _ _ _ (heap_setCell_same w5 v 1 v' _ _ _ b5);have hk5:Kept (fun k=>Lv.ownBlock=some k) w w5:=⟨hg.os,hg.tape,hg.output,hg.size,fun k hk hs=>hg.block k hk (fun e=>hs e.symm)⟩;have og:Kept (fun k=>k=v) w5 ((w5.setCell ⟨v,1,none⟩ v').setCell ⟨v,2,none⟩ (.bool l)):=(Kept.only w5 v 1 v').trans (Kept.only _ v 2 _);refine ⟨⟨?_,?_,?_,h.kE,hL',h.sh⟩,?_,?_⟩
 ·rw [b6];rfl
 ·refine bQ og (bQ hk5 h.jA (fun g hg' hl=>h.ab8 g hl hg')) (fun g hg'=>h.Ql g hg')
 ·exact bQ og hrow (fun g hg' e=>by
   subst e;rcases hat _ hg' with h1 | h1
   ·exact h.FH _ h1 rfl
   ·have:=h.lt;omega)
 ·exact (hk5.mono (fun k hk=>ay (ay hk))).trans (og.mono (fun k hk=>aA hk))
 ·rintro k (rfl | hk | hk)
  ·exact aA (aA rfl)
  ·exact aA (ay (aA hk))
  ·rcases hat k hk with h1 | h1
   ·exact aA (ay (ay h1))
   ·exact ay h1
theorem zL (w:World) (v:Nat) (Cv Lv:Value) (V:aB) (h:aN w v Cv Lv V) (hL:V.L.length≤1000000000):
  Calls Tryz.prog 71 #[.pointer (some ⟨v,0,none⟩)] w fun e w'=>e= .returned (.tuple #[])∧ ∃ qB qC,bZ w w' v Cv Lv qB qC (fJ V):=by
 have c2:=h.c2;cases hl:V.loose with
 | false=>
  rw [hl] at c2;have HR:=ah (bZ.refl h);have HV:Hid (fJ V=V):=by unfold fJ;rw [hl];rfl
  go_enter Tryz.func71,Tryz.ntmps71
  go_wp2;refine gV (CJ rfl _ _ _) rfl ?_;exact ⟨rfl,Cv,Lv,by rw [uh HV];exact uh HR⟩
 | true=>
  rw [hl] at c2;have c1:=h.c1;obtain ⟨i0,hi0,hz0,hz1,hz2⟩:=qy Tryz.Qd;have HV:Hid (fJ V=⟨V.C,V.L++[Gw],false,V.short⟩):=by unfold fJ;rw [hl];rfl
  have hfz:=h.fz;have H:=ah h;have c1': ∀ o,(w.alloc o).cell? ⟨v,1,none⟩=some Lv:=fun o=>(h.alloc o).c1;clear h
  go_enter Tryz.func71,Tryz.ntmps71
  go_wp2_with (at_builtin;refine xZ _ rfl _ _ _ rfl 0 104 i0 _ 65 72 Tryz.underlying58 hi0 hz0 hz1 hz2 (by simp [Value.cells,bM,bg,aV]) om Lv V.L.length (iY V.L) rfl (H.alloc _).fF ⟨w.heap.size,0,none⟩ 1 1 (bM Gw) rfl (by rw [uF aV]) (pU (cs:=(bM Gw).toArray) (t:=104) (fr:=(0,0)) (aW w _)) (OE Gw) om (by unfold maxLen;omega) om om (w.heap.size+1) sm ?_;intro g5 cap5 w5 hown5 hgrow hat uP;have b5:=ah (qH hgrow (H.alloc _).aF H.FH);have c51:w5.cell? ⟨v,1,none⟩=some Lv:=(aG b5 1).trans rfl;have c52:w5.cell? ⟨v,2,none⟩=some (.bool V.loose):=(aG b5 2).trans rfl;have z5: ∀ i,w5.frozen? ⟨v,i,none⟩=false:=fun i=>eG b5 i)
  go_end0
  refine ⟨rfl,Cv,.slice (some ⟨g5,0,none⟩) (V.L.length+1) cap5,?_⟩;rw [uh HV];refine (bZ.alloc (bZ.refl H) _).trans (aN.ag0 (H.alloc _) hgrow (L':=V.L++[Gw]) ?_ ?_ ?_)
  ·rw [aa8,oO];exact hown5
  ·intro x hx;rcases gq.1 hx with hx | hx
   ·exact H.zT x hx
   ·rw [jw.1 hx];exact aV
  ·intro g hg;simp only [Value.ownBlock,jv] at hg;subst hg;rcases hat with h1 | h1
   ·exact aA h1
   ·right;simp;omega
end
section
attribute [local go_sem ↓] dw fP fZ kS mP mV jJ kJ jY jU lD lH kQ ku kT mQ mW lZ ny jG
attribute [local go_sem] dK fO fV gK gy aV kX mG mM mJ mF gI jK kH jX kZ kW iJ jW lq lC lu kF jc jd lY l7 kG kY mO nI lT mD nH
def Kq (V:aB) (n:Nat):aB:=⟨V.C,V.L++[⟨n,cl V.C n⟩],true,V.short⟩
def l9 (V:aB):aB:=if V.short then Kq ⟨V.C,V.L,V.loose,false⟩ (V.C.length - 1) else V
def Ia (V:aB) (n:Nat) (data:aj):aB:=⟨(oW V.C (n+1)).set n data,(l9 V).L++[⟨n,data⟩],true,false⟩
def bT (V:aB) (n:Nat) (data:aj):aB:=
 if n<V.C.length∧cl V.C n=data then V else Ia V n data
theorem Iz (V:aB):(l9 V).C=V.C:=by unfold l9;split <;> rfl
theorem afS (V:aB):(l9 V).short=false:=by
 unfold l9
 by_cases h:V.short=true
 ·rw [au h];rfl
 ·rw [ak h];simpa using h
theorem anQ {V:aB} (h:V.short=false):l9 V=V:=by unfold l9;rw [ak (by rw [h];decide)]
theorem VY (V:aB):(l9 V).L.length≤V.L.length+1:=by unfold l9;split <;> simp [Kq]
theorem aoO {l:List aj} (hl: ∀ c ∈ l,c.length=64) (n:Nat): ∀ c ∈ oW l n,c.length=64:=by
 intro c hc;rcases gq.1 hc with h | h
 ·exact hl c h
 ·rw [KT h];exact aV
theorem Dj (l:List aj) (n:Nat):(oW l n).length=max l.length n:=by simp [oW];omega
theorem aj3 {n:Int} {c:aj} (hc:c.length=64) (w:World):(bWr #[(0,.int .i64 n),(1,.agg (cv c).toArray)]).run Tryz.prog w= .ok (.agg (bM ⟨n,c⟩).toArray) w:=by
 have hz:=(uI (P:=Tryz.prog) (t:=104) (v:= .agg (bM ⟨0,zc⟩).toArray) (n:=65) kr).1;have hf:Instr.fill (fun x=>(#[(0,1),(1,64)]:Array (Nat × Nat))[x]?) ([Value.int .i64 0]++cv zc).toArray [(0,Value.int .i64 n),(1,.agg (cv c).toArray)]=some (bM ⟨n,c⟩).toArray:=by
  rw [JR _ _ 0 0 1 (.int .i64 n) _ (by rfl) (by rfl) sm,show (Value.int .i64 n).cells.toList=[Value.int .i64 n] from rfl,Oo [Value.int .i64 0] (cv zc) [Value.int .i64 n] rfl,
   JR _ _ 1 1 64 (.agg (cv c).toArray) _ (by rfl) (by simp [Value.cells,bg,hc]) (by simp [bg,aV]),Instr.fill,show (Value.agg (cv c).toArray).cells.toList=cv c from rfl]
  have:=Yo [Value.int .i64 n] (cv zc) (cv c) (by simp [bg,aV,hc])
  rw [show 1=[Value.int .i64 n].length from rfl,this];rfl
 exact KF w 104 _ (.agg (bM ⟨0,zc⟩).toArray) #[(0,1),(1,64)] #[(0,.int .i64 n),(1,.agg (cv c).toArray)] _ Tryz.underlying104 hz (fun w=>kr) hf
attribute [local go_sem] aj3
theorem ar2 (w:World) (v:Nat) (Cv Lv:Value) (V:aB) (h:aN w v Cv Lv V) (n:Nat) (hn:n<V.C.length) (data:aj) (hd:cl V.C n=data) (hL:V.C.length≤1000):
  Calls Tryz.prog 70 #[.pointer (some ⟨v,0,none⟩),.int .i64 (n:Nat),.agg (cv data).toArray] w fun e w'=>e= .returned (.tuple #[])∧ ∃ qB qC,bZ w w' v Cv Lv qB qC V:=by
 obtain ⟨g,cap,rfl,_⟩:=gB h.jA om;have hcl:=iM h.kE hn;rw [hd] at hcl;have L0:=dU.one w (.cells (cv data).toArray 38);have h1:=h.below L0.below;have c0:=h1.c0;have l1:=fun m=>oI (h1.drewN m).jA h1.kE n hn;have l2:=fun m=>oH (h1.drewN m).jA h1.kE n hn;have l3:=fun m=>gZ (L0.drewN m).o0 hcl;have l4:=fun m=>gY (L0.drewN m).o0 hcl;have hni:(n:Int)<(V.C.length:Int):=om;have dn:decide ((n:Int)<(V.C.length:Int))=true:=by simpa using hni
 have HS:=ah ((bZ.refl h).later L0.below);have he:=wE hcl hcl;rw [eH rfl] at he;rw [hd] at l2;clear L0 h1
 go_enter Tryz.func70,Tryz.ntmps70
 go_wp2
 go_quiet (fail)
 go_wp2;refine gV (CJ rfl _ _ _) rfl ?_;exact ⟨rfl,_,_,HS.drewN _⟩
theorem aN.aoM {w w5:World} {v:Nat} {Cv Lv v':Value} {V:aB} {C':List aj} (h:aN w v Cv Lv V) (hg:w.grownBy w5 Cv.ownBlock) (hrow:w5.ownsRow 0 38 64 v' C'.length (aQ C')) (hC': ∀ x ∈ C',x.length=64) (hlen:V.C.length≤C'.length) (hat: ∀ g,v'.ownBlock=some g→Cv.ownBlock=some g∨w.heap.size≤g):
  bZ w (w5.setCell ⟨v,0,none⟩ v') v Cv Lv v' Lv ⟨C',V.L,V.loose,V.short⟩:=by
 have b5:w5.heap[v]? = some (.cells (OB Cv Lv V).toArray 121 (0,0)):=qH hg h.aF h.Ql;have b6:=heap_setCell_same w5 v 0 v' _ _ _ b5;have hk5:Kept (fun k=>Cv.ownBlock=some k) w w5:=⟨hg.os,hg.tape,hg.output,hg.size,fun k hk hs=>hg.block k hk (fun e=>hs e.symm)⟩;have og:=Kept.only w5 v 0 v';refine ⟨⟨?_,?_,?_,hC',h.zT,fun hs=>iZ (h.sh hs) hlen⟩,?_,?_⟩
 ·rw [b6];rfl
 ·exact bQ og hrow (fun g hg' e=>by
   subst e;rcases hat _ hg' with h1 | h1
   ·exact h.Ql _ h1 rfl
   ·have:=h.lt;omega)
 ·refine bQ og (bQ hk5 h.fF (fun g hg' hl=>h.ab8 g hg' hl)) (fun g hg'=>h.FH g hg')
 ·exact (hk5.mono (fun k hk=>ay (aA hk))).trans (og.mono (fun k hk=>aA hk))
 ·rintro k (rfl | hk | hk)
  ·exact aA (aA rfl)
  ·rcases hat k hk with h1 | h1
   ·exact aA (ay (aA h1))
   ·exact ay h1
  ·exact aA (ay (ay hk))
theorem aN.Yn {w:World} {v g cap:Nat} {Lv:Value} {V:aB} (h:aN w v (.slice (some ⟨g,0,none⟩) V.C.length cap) Lv V) (k:Nat) (hk:k<V.C.length) (c:aj) (hc:c.length=64):
  bZ w (w.setCells g (k*64) (cv c)) v (.slice (some ⟨g,0,none⟩) V.C.length cap) Lv (.slice (some ⟨g,0,none⟩) V.C.length cap) Lv ⟨V.C.set k c,V.L,V.loose,V.short⟩:=by
 have og:=Kept.AP w g (k*64) (cv c);refine ⟨⟨?_,?_,?_,?_,h.zT,fun hs=>by simpa using h.sh hs⟩,og.mono (fun x hx=>ay (aA (by rw [hx];rfl))),fun k hk=>aA hk⟩
 ·exact og.aF (fun e=>h.Ql g rfl e.symm) h.aF
 ·have:=Yc h.jA h.kE k hk c hc;exact this
 ·exact bQ og h.fF (fun g' hg' e=>h.ab8 g' hg' (by rw [e];rfl))
 ·intro x hx;rcases MR hx with y | y
  ·exact h.kE x y
  ·rw [y];exact hc
theorem aN.atr {w:World} {v:Nat} {Cv Lv:Value} {V:aB} (h:aN w v Cv Lv V):bZ w (w.setCell ⟨v,3,none⟩ (.bool false)) v Cv Lv Cv Lv ⟨V.C,V.L,V.loose,false⟩:=by
 have og:=Kept.only w v 3 (.bool false);have b6:=heap_setCell_same w v 3 (.bool false) _ _ _ h.aF;refine ⟨⟨?_,bQ og h.jA (fun g hg e=>h.Ql g hg e),bQ og h.fF (fun g hg e=>h.FH g hg e),h.kE,h.zT,fun hs=>by cases hs⟩,og.mono (fun k hk=>aA hk),fun k hk=>aA hk⟩;rw [b6];rfl
theorem arZ {w U w5:World} {v n g5 cap5:Nat} {Cv Lv C1:Value} {C':List aj} {L:List iU} {l s:Bool} {data:aj} (h:bZ w U v Cv Lv C1 Lv ⟨C',L,l,s⟩) (hdl:data.length=64)
  (hgrow:(U.alloc (.cells (bM ⟨n,data⟩).toArray 104)).drew.grownBy w5 Lv.ownBlock) (hown5:w5.ownsRow 0 104 65 (.slice (some ⟨g5,0,none⟩) (L.length+1) cap5) (L.length+1) (iY L++bM ⟨n,data⟩))
  (hat:Lv.ownBlock=some g5∨g5=U.heap.size+1):
  bZ w ((w5.setCell ⟨v,1,none⟩ (.slice (some ⟨g5,0,none⟩) (L.length+1) cap5)).setCell ⟨v,2,none⟩ (.bool true)) v Cv Lv C1 (.slice (some ⟨g5,0,none⟩) (L.length+1) cap5) ⟨C',L++[⟨n,data⟩],true,s⟩:=by
 refine ((h.alloc (.cells (bM ⟨n,data⟩).toArray 104)).drew).trans (aN.ag0 (h.alloc (.cells (bM ⟨n,data⟩).toArray 104)).drew.at' hgrow (L':=L++[⟨n,data⟩]) ?_ ?_ ?_)
 ·rw [aa8,oO];exact hown5
 ·intro x hx;rcases gq.1 hx with hx | hx
  ·exact h.at'.zT x hx
  ·rw [jw.1 hx];exact hdl
 ·intro g hg;simp only [Value.ownBlock,jv] at hg;subst hg;rcases hat with h1 | h1
  ·exact aA h1
  ·right
   show (U.alloc _).heap.size≤_
   simp;omega
theorem acd (w:World) (v:Nat) (Cv Lv:Value) (V:aB) (h:aN w v Cv Lv V) (n:Nat) (hn:n<V.C.length) (hC:V.C.length≤2000) (hL:V.L.length≤1100000000):
  Calls Tryz.prog 133 #[.pointer (some ⟨v,0,none⟩),.int .i64 (n:Nat)] w fun e w'=>e= .returned (.tuple #[])∧ ∃ qB qC,bZ w w' v Cv Lv qB qC (Kq V n):=by
 obtain ⟨i1,hi1,hy0,hy1,hy2⟩:=qy Tryz.Qd;obtain ⟨g0,cap0,Nz,_⟩:=gB h.jA om;subst Nz;have hcl:=iM h.kE hn;have d0:=h.drew.c0;have d1:=h.drew.c1;have d1': ∀ o,(w.alloc o).drew.cell? ⟨v,1,none⟩=some Lv:=fun o=>(h.alloc o).drew.c1;have l1:=oI h.drew.jA h.kE n hn;have l2:=oH h.drew.jA h.kE n hn;have hni:(n:Int)<(V.C.length:Int):=om;have HV:Hid (Kq V n=⟨V.C,V.L++[⟨n,cl V.C n⟩],true,V.short⟩):=rfl;generalize cl V.C n=c at*;have H:=ah h;clear h
 go_enter Tryz.func133,Tryz.ntmps133
 go_wp2
 go_region_law (refine Jq _ (by rfl) _ _ _ (by rfl) 0 104 i1 _ 65 72 Tryz.underlying58 hi1 hy0 hy1 hy2 (by simp [Value.cells,bM,bg,aV]) om Lv V.L.length (iY V.L) (by rfl) (H.drew.alloc _).fF ⟨w.heap.size,0,none⟩ 1 1 (bM ⟨n,c⟩) (by rfl) (by rw [uF hcl]) (pU (cs:=(bM ⟨n,c⟩).toArray) (t:=104) (fr:=(0,0)) (aW w.drew _)) (OE _) om (by unfold maxLen;omega) om om (w.heap.size+1) sm ?_;intro g5 cap5 w5 hown5 hgrow hat uP;have b5:=ah (qH hgrow (H.drew.alloc _).aF H.FH);have c51:w5.cell? ⟨v,1,none⟩=some Lv:=(aG b5 1).trans rfl;have c52:w5.cell? ⟨v,2,none⟩=some (.bool V.loose):=(aG b5 2).trans rfl;have z5: ∀ i,w5.frozen? ⟨v,i,none⟩=false:=fun i=>eG b5 i)
 all_goals
  go_wp2
  go_end0
  have E9:=arZ (bZ.refl H) hcl hgrow hown5 hat;rw [← uh HV] at E9;exact ⟨rfl,_,_,E9⟩
theorem aaB (w:World) (v:Nat) (Cv Lv:Value) (V:aB) (h:aN w v Cv Lv V) (hC:V.C.length≤1000) (hL:V.L.length≤1100000000):
  Calls Tryz.prog 113 #[.pointer (some ⟨v,0,none⟩)] w fun e w'=>e= .returned (.tuple #[])∧ ∃ qB qC,bZ w w' v Cv Lv qB qC (l9 V):=by
 have c3:=h.c3;cases hs:V.short with
 | false=>
  rw [hs] at c3;have HR:=ah (bZ.refl h);have HV:Hid (l9 V=V):=anQ hs;clear h
  go_enter Tryz.func113,Tryz.ntmps113
  go_wp2
  go_end0
  exact ⟨rfl,Cv,Lv,by rw [uh HV];exact uh HR⟩
 | true=>
  rw [hs] at c3;have hpos:=h.sh hs;have z3:=h.fz 3;have S1:=h.atr;have HV:Hid (l9 V=Kq ⟨V.C,V.L,V.loose,false⟩ (V.C.length - 1)):=ah (by unfold l9;rw [au hs]);have Hn:=acd _ _ _ _ _ S1.at' (V.C.length - 1) (by show _<V.C.length;omega) (by show V.C.length≤2000;omega) hL;have ei:((V.C.length - 1:Nat):Int)=(V.C.length:Int) - 1:=om;rw [ei] at Hn;have Hn:=ah Hn;have c0:=S1.at'.c0;obtain ⟨ca,cap,Nz⟩:=iq h.jA;subst Nz;have HS:=ah S1;clear S1 h ei
  go_enter Tryz.func113,Tryz.ntmps113
  go_wp2_with fail
  refine Hn.mono ?_;rintro e w1 ⟨rfl,C1,L1,hS1⟩;have E1:=ah (HS.trans hS1);clear hS1;go_wp2
  go_end0
  refine ⟨rfl,C1,L1,?_⟩;rw [uh HV];exact uh E1
end
section
attribute [local go_sem ↓] dw fP fZ kS mP mV jJ kJ jY jU lD lH kQ ku kT mQ mW lZ ny jG
attribute [local go_sem] dK fO fV gK gy aV kX mG mM mJ mF gI jK kH jX kZ kW iJ jW lq lC lu kF jc jd lY l7 kG kY mO nI lT mD nH
attribute [local go_sem] aj3
theorem afI {C:List aj} {n:Nat} (h:n<C.length) (d:aj):cl (C.set n d) n=d:=by
 unfold cl;rw [aK,uf,au rfl,au h];rfl
theorem ar0 (w:World) (v:Nat) (Cv Lv:Value) (V:aB) (h:aN w v Cv Lv V) (n:Nat) (hn:n≤1000) (data:aj) (hdl:data.length=64) (hd:V.C.length≤n) (hC:V.C.length≤1000) (hL:V.L.length≤1000000000):
  Calls Tryz.prog 70 #[.pointer (some ⟨v,0,none⟩),.int .i64 (n:Nat),.agg (cv data).toArray] w fun e w'=>e= .returned (.tuple #[])∧ ∃ qB qC,bZ w w' v Cv Lv qB qC (Ia V n data):=by
 obtain ⟨i0,hi0,hz0,hz1,hz2⟩:=qy Tryz.J4;obtain ⟨i1,hi1,hy0,hy1,hy2⟩:=qy Tryz.Qd;have E0:=(Env.start h).lay (.cells (cv data).toArray 38);have c0:=E0.at'.c0;obtain ⟨ca0,cap0,Nz⟩:=iq h.jA;subst Nz;have dn:decide (n<V.C.length)=false:=by simp;omega
 have E0:=ah E0;clear h
 go_enter Tryz.func70,Tryz.ntmps70
 go_wp2
 go_quiet (fail)
 have E1:=ah (E0.drewN nq);clear E0 c0;generalize (w.alloc (.cells (cv data).toArray 38)).drewN nq=W0 at*;generalize hCV:Value.slice ca0 V.C.length cap0=Cv at*
 go_wp2_with fail
 refine (aaB W0 v Cv Lv V E1.at' hC om).mono ?_;rintro e W ⟨rfl,Ck,Lk,Tn⟩;have E2:=ah (E1.fQ Tn);clear E1 Tn;have E1:=E2;clear E2;have TG:=Iz V;have og:=afS V;have xK:=VY V;have HP:Hid (Ia V n data=⟨(oW V.C (n+1)).set n data,(l9 V).L++[⟨n,data⟩],true,false⟩):=rfl;generalize l9 V=K at*;obtain ⟨KC,KL,Kl,Ks⟩:=K;dsimp only at TG og xK HP E1;subst TG;subst og;go_wp2
 go_loopw [26] (fun _ w'=> ∃ (C1:Value) (m:Nat),Env w w' v Cv Lv C1 Lk ⟨V.C++List.replicate m zc,KL,Kl,false⟩ [(w.heap.size,.cells (cv data).toArray 38)]∧V.C.length+m≤max V.C.length (n+1)) (fun _ w'=>n+1 - UA ((w'.cell? ⟨v,0,none⟩).getD undef))
 case atStart=>exact ⟨Ck,0,by simpa using uh E1,om⟩
 case round=>
  obtain ⟨C1,m,hE,hm⟩:=hrel;clear E1;have hv:=hE.at';have hvl:(V.C++List.replicate m zc).length=V.C.length+m:=sm;have jA:=hv.jA;rw [hvl] at jA;obtain ⟨ca,cap,rfl⟩:=iq jA;have c0:=hv.c0
  by_cases hlt:V.C.length+m≤n
  ·have dl:decide (((V.C.length+m:Nat):Int)≤(n:Int))=true:=by simp;omega
   have c0': ∀ o,(wr.alloc o).cell? ⟨v,0,none⟩=some _:=fun o=>(hv.alloc o).c0;have HE:=ah hE;have fA:=ah jA;have Hc0:=ah c0;have Hv:=ah hv;clear hE hv jA
   go_wp2_with (at_builtin;refine xZ _ rfl _ _ _ rfl 0 38 i0 _ 64 64 Tryz.underlying28 hi0 hz0 hz1 hz2 (by simp [Value.cells,bg,aV]) om (.slice ca (V.C.length+m) cap) (V.C.length+m) (aQ (V.C++List.replicate m zc)) rfl (fA.alloc _) ⟨wr.heap.size,0,none⟩ 1 1 (cv zc) rfl (by rw [bg,aV]) (pU (cs:=(cv zc).toArray) (t:=38) (fr:=(0,0)) (aW wr _)) (zJ zc) om (by unfold maxLen;omega) om om (wr.heap.size+1) sm ?_;intro g5 cap5 w5 hown5 hgrow hat uP;have b5:=ah (qH hgrow (Hv.alloc _).aF Hv.Ql);have c5:w5.cell? ⟨v,0,none⟩=some _:=(aG b5 0).trans rfl;have z5: ∀ i,w5.frozen? ⟨v,i,none⟩=false:=fun i=>eG b5 i)
   have S1:=ah (HE.fQ ((bZ.alloc (bZ.refl Hv) _).trans (aN.aoM (Hv.alloc _) hgrow (C':=V.C++List.replicate (m+1) zc) (v':= .slice (some ⟨g5,0,none⟩) (V.C.length+m+1) cap5) (by
    rw [KP,← uG,PS,oO,hvl];exact hown5) (by
    intro x hx;rcases gq.1 hx with hx | hx
    ·exact Hv.kE x (List.mem_append_left _ hx)
    ·rw [KT hx];exact aV) sm (by
    intro g hg;simp only [Value.ownBlock,jv] at hg;subst hg;rcases hat with h1 | h1
    ·exact aA h1
    ·right;simp;omega))))
   go_roundw
   case rel=>exact ⟨_,m+1,uh S1,om⟩
   case measure=>
    rw [S1.at'.c0,uh Hc0];simp [UA];omega
  ·have dl:decide (((V.C.length+m:Nat):Int)≤(n:Int))=false:=by simp;omega
   obtain ⟨g,cap',e3,_⟩:=gB jA om;obtain ⟨rfl,rfl⟩:ca=some ⟨g,0,none⟩∧cap=cap':=by injection e3 with x1 x2 x3;exact ⟨x1,x3⟩
   have hg1:V.C++List.replicate m zc=oW V.C (n+1):=by
    unfold oW
    congr 2
    omega
   have hnl:n<(V.C++List.replicate m zc).length:=by rw [hvl];omega
   have l1:=gZ hE.drew.o0 hdl;have l2:=gY hE.drew.o0 hdl;have hv':aN wr v (.slice (some ⟨g,0,none⟩) (V.C++List.replicate m zc).length cap) Lk ⟨V.C++List.replicate m zc,KL,Kl,false⟩:=by rw [hvl];exact hv
   have th:wr.drew.there g (n*64) 64:=Uw hv'.drew.jA n hnl;have S2:=aN.Yn (V:=⟨V.C++List.replicate m zc,KL,Kl,false⟩) hv'.drew n hnl data hdl;simp only at S2;rw [hvl] at S2;have E2:=ah (hE.drew.fQ S2);have hni:(n:Int)<((V.C.length+m:Nat):Int):=om;clear hv' hv jA e3 hE S2;go_wp2
   go_region
   generalize hU:World.setCells wr.drew g (n*64) (cv data)=U at*;rw [hg1] at E2;clear hU l1 l2 th c0 hg1;have LH:n<((oW V.C (n+1)).set n data).length:=by rw [rG,Dj];omega
   have Hn:=acd _ _ _ _ _ E2.at' n LH (by show ((oW V.C (n+1)).set n data).length≤2000;rw [rG,Dj];omega) (by show KL.length≤_;omega);have HQ:Hid (Kq ⟨(oW V.C (n+1)).set n data,KL,Kl,false⟩ n=Ia V n data):=by
    rw [uh HP];unfold Kq;rw [afI (by rw [Dj];omega)];exact ah rfl
   have Hn:=ah Hn
   go_wp2_with fail
   refine Hn.mono ?_;rintro e W9 ⟨rfl,C9,L9,hS9⟩;rw [uh HQ] at hS9;have E9:=E2.step.trans hS9;rw [← hCV] at E9;have E9:=ah E9;clear hS9;go_wp2
   go_end0
   exact ⟨rfl,C9,L9,uh E9⟩
theorem ar1 (w:World) (v:Nat) (Cv Lv:Value) (V:aB) (h:aN w v Cv Lv V) (n:Nat) (hn:n≤1000) (data:aj) (hdl:data.length=64) (hd:n<V.C.length) (hne:cl V.C n≠data) (hC:V.C.length≤1000) (hL:V.L.length≤1000000000):
  Calls Tryz.prog 70 #[.pointer (some ⟨v,0,none⟩),.int .i64 (n:Nat),.agg (cv data).toArray] w fun e w'=>e= .returned (.tuple #[])∧ ∃ qB qC,bZ w w' v Cv Lv qB qC (Ia V n data):=by
 obtain ⟨i1,hi1,hy0,hy1,hy2⟩:=qy Tryz.Qd;have E0:=(Env.start h).lay (.cells (cv data).toArray 38);have c0:=E0.at'.c0;obtain ⟨g0,cap0,Nz,_⟩:=gB h.jA om;subst Nz;have hcl:=iM h.kE hd;have l1:=fun m=>oI (E0.at'.drewN m).jA E0.at'.kE n hd;have l2:=fun m=>oH (E0.at'.drewN m).jA E0.at'.kE n hd;have l3:=fun m=>gZ (E0.drewN m).o0 hdl;have l4:=fun m=>gY (E0.drewN m).o0 hdl;have hni:(n:Int)<(V.C.length:Int):=om;have dn:decide (n<V.C.length)=true:=by simpa using hd
 have he:=wE hcl hdl;rw [gU hne] at he;have E0:=ah E0;clear h
 go_enter Tryz.func70,Tryz.ntmps70
 go_wp2
 go_quiet (fail)
 have E1:=ah (E0.drewN nq);clear E0 c0 l1 l2 l3 l4 he;generalize (w.alloc (.cells (cv data).toArray 38)).drewN nq=W0 at*;generalize hCV:Value.slice (some ⟨g0,0,none⟩) V.C.length cap0=Cv at*
 go_wp2_with fail
 refine (aaB W0 v Cv Lv V E1.at' hC om).mono ?_;rintro e W ⟨rfl,Ck,Lk,Tn⟩;have E2:=ah (E1.fQ Tn);clear E1 Tn;have E1:=E2;clear E2;have TG:=Iz V;have og:=afS V;have xK:=VY V;have HP:Hid (Ia V n data=⟨(oW V.C (n+1)).set n data,(l9 V).L++[⟨n,data⟩],true,false⟩):=rfl;generalize l9 V=K at*;obtain ⟨KC,KL,Kl,Ks⟩:=K;dsimp only at TG og xK HP E1;subst TG;subst og;go_wp2
 go_loopw [26] (fun _ w'=> ∃ (C1:Value) (m:Nat),Env w w' v Cv Lv C1 Lk ⟨V.C++List.replicate m zc,KL,Kl,false⟩ [(w.heap.size,.cells (cv data).toArray 38)]∧V.C.length+m≤max V.C.length (n+1)) (fun _ w'=>n+1 - UA ((w'.cell? ⟨v,0,none⟩).getD undef))
 case atStart=>exact ⟨Ck,0,by simpa using uh E1,om⟩
 case round=>
  obtain ⟨C1,m,hE,hm⟩:=hrel;clear E1;have hv:=hE.at';have hvl:(V.C++List.replicate m zc).length=V.C.length+m:=sm;have jA:=hv.jA;rw [hvl] at jA;obtain ⟨ca,cap,rfl⟩:=iq jA;have c0:=hv.c0
  by_cases hlt:V.C.length+m≤n
  ·exact absurd hlt om
  ·have dl:decide (((V.C.length+m:Nat):Int)≤(n:Int))=false:=by simp;omega
   obtain ⟨g,cap',e3,_⟩:=gB jA om;obtain ⟨rfl,rfl⟩:ca=some ⟨g,0,none⟩∧cap=cap':=by injection e3 with x1 x2 x3;exact ⟨x1,x3⟩
   have hg1:V.C++List.replicate m zc=oW V.C (n+1):=by
    unfold oW
    congr 2
    omega
   have hnl:n<(V.C++List.replicate m zc).length:=by rw [hvl];omega
   have l1:=gZ hE.drew.o0 hdl;have l2:=gY hE.drew.o0 hdl;have hv':aN wr v (.slice (some ⟨g,0,none⟩) (V.C++List.replicate m zc).length cap) Lk ⟨V.C++List.replicate m zc,KL,Kl,false⟩:=by rw [hvl];exact hv
   have th:wr.drew.there g (n*64) 64:=Uw hv'.drew.jA n hnl;have S2:=aN.Yn (V:=⟨V.C++List.replicate m zc,KL,Kl,false⟩) hv'.drew n hnl data hdl;simp only at S2;rw [hvl] at S2;have E2:=ah (hE.drew.fQ S2);have hni:(n:Int)<((V.C.length+m:Nat):Int):=om;clear hv' hv jA e3 hE S2;go_wp2
   go_region
   generalize hU:World.setCells wr.drew g (n*64) (cv data)=U at*;rw [hg1] at E2;clear hU l1 l2 th c0 hg1;have LH:n<((oW V.C (n+1)).set n data).length:=by rw [rG,Dj];omega
   have Hn:=acd _ _ _ _ _ E2.at' n LH (by show ((oW V.C (n+1)).set n data).length≤2000;rw [rG,Dj];omega) (by show KL.length≤_;omega);have HQ:Hid (Kq ⟨(oW V.C (n+1)).set n data,KL,Kl,false⟩ n=Ia V n data):=by
    rw [uh HP];unfold Kq;rw [afI (by rw [Dj];omega)];exact ah rfl
   have Hn:=ah Hn
   go_wp2_with fail
   refine Hn.mono ?_;rintro e W9 ⟨rfl,C9,L9,hS9⟩;rw [uh HQ] at hS9;have E9:=E2.step.trans hS9;rw [← hCV] at E9;have E9:=ah E9;clear hS9;go_wp2
   go_end0
   exact ⟨rfl,C9,L9,uh E9⟩
theorem FK (w:World) (v:Nat) (Cv Lv:Value) (V:aB) (h:aN w v Cv Lv V) (n:Nat) (hn:n≤1000) (data:aj) (hdl:data.length=64) (hC:V.C.length≤1000) (hL:V.L.length≤1000000000):
  Calls Tryz.prog 70 #[.pointer (some ⟨v,0,none⟩),.int .i64 (n:Nat),.agg (cv data).toArray] w fun e w'=>e= .returned (.tuple #[])∧ ∃ qB qC,bZ w w' v Cv Lv qB qC (bT V n data):=by
 by_cases hlt:n<V.C.length
 ·by_cases hd:cl V.C n=data
  ·rw [show bT V n data=V from au ⟨hlt,hd⟩];exact ar2 w v Cv Lv V h n hlt data hd hC
  ·rw [show bT V n data=_ from ak (fun x=>hd x.2)];exact ar1 w v Cv Lv V h n hn data hdl hlt hd hC hL
 ·rw [show bT V n data=_ from ak (fun x=>hlt x.1)];exact ar0 w v Cv Lv V h n hn data hdl om hC hL
end
section
attribute [local go_sem ↓] dw fP fZ kS mP mV jJ kJ jY jU lD lH kQ ku kT mQ mW lZ ny jG
attribute [local go_sem] dK fO fV gK gy aV kX mG mM mJ mF gI jK kH jX kZ kW iJ jW lq lC lu kF jc jd lY l7 kG kY mO nI lT mD nH
theorem aoF (L:List iU): ∀ v ∈ iY L,v.oneCell'=true:=by
 intro v hv;obtain ⟨x,_,hx⟩:=Ae.1 hv;exact OE x v hx
theorem acR (w:World) (base:Nat) (e:TypeId) (size:Nat) (hb:base≤w.heap.size):(w.alloc (.cells #[] e)).ownsRow base e size (.slice (some ⟨w.heap.size,0,none⟩) 0 0) 0 []:=by
 refine ⟨sm,ay ⟨w.heap.size,0,#[],rfl,hb,aW w _,om,?_⟩⟩;simp [maxLen]
theorem anB (w:World) (g cap:Nat) (C:List aj) (hC: ∀ c ∈ C,c.length=64) (hr:w.ownsRow 0 38 64 (.slice (some ⟨g,0,none⟩) C.length cap) C.length (aQ C)) (h0:0<C.length) (h1:C.length≤1000):
  Calls Tryz.prog 135 #[.slice (some ⟨g,0,none⟩) C.length cap] w fun e w'=> ∃ v,e= .returned v∧w'.ownsRow w.heap.size 38 64 v C.length (aQ C)∧aC w w':=by
 obtain ⟨i0,hi0,hz0,hz1,hz2⟩:=qy Tryz.J4;have Hr:=ah hr;have hq:=run_eql_slice_nil (P:=Tryz.prog) w 28 38 (some ⟨g,0,none⟩) C.length cap Tryz.underlying28;clear hr
 go_enter Tryz.func135,Tryz.ntmps135
 go_wp2_with (at_builtin;refine xZ _ rfl _ _ _ rfl w.heap.size 38 i0 _ 64 64 Tryz.underlying28 hi0 hz0 hz1 hz2 (by simp [Value.cells,bg,aV]) om (.slice (some ⟨w.heap.size,0,none⟩) 0 0) 0 [] rfl (acR w _ _ _ (aP _)) ⟨g,0,none⟩ C.length cap (aQ C) rfl (yC C hC) ((Hr.alloc _).cells (g:=g) rfl) (Wy C) om (by unfold maxLen;omega) om sm (w.heap.size+1) sm ?_;intro g5 cap5 w5 hown5 hgrow hat uP)
 go_ret;refine ⟨_,rfl,by simpa using hown5,((bG _ w).alloc (aP _) _).grown hgrow sm (fun k hk=> ?_)⟩;simp only [Value.ownBlock,jv] at hk;omega
theorem anD (w:World) (g cap:Nat) (L:List iU) (hL: ∀ x ∈ L,x.data.length=64) (hr:w.ownsRow 0 104 65 (.slice (some ⟨g,0,none⟩) L.length cap) L.length (iY L)) (h0:0<L.length) (h1:L.length≤1000000000):
  Calls Tryz.prog 159 #[.slice (some ⟨g,0,none⟩) L.length cap] w fun e w'=> ∃ v,e= .returned v∧w'.ownsRow w.heap.size 104 65 v L.length (iY L)∧aC w w':=by
 obtain ⟨i0,hi0,hz0,hz1,hz2⟩:=qy Tryz.Qd;have Hr:=ah hr;have hq:=run_eql_slice_nil (P:=Tryz.prog) w 58 104 (some ⟨g,0,none⟩) L.length cap Tryz.underlying58;clear hr
 go_enter Tryz.func159,Tryz.ntmps159
 go_wp2_with (at_builtin;refine xZ _ rfl _ _ _ rfl w.heap.size 104 i0 _ 65 72 Tryz.underlying58 hi0 hz0 hz1 hz2 (by simp [Value.cells,bM,bg,aV]) om (.slice (some ⟨w.heap.size,0,none⟩) 0 0) 0 [] rfl (acR w _ _ _ (aP _)) ⟨g,0,none⟩ L.length cap (iY L) rfl (Nw L hL) ((Hr.alloc _).cells (g:=g) rfl) (aoF L) om (by unfold maxLen;omega) om sm (w.heap.size+1) sm ?_;intro g5 cap5 w5 hown5 hgrow hat uP)
 go_ret;refine ⟨_,rfl,by simpa using hown5,((bG _ w).alloc (aP _) _).grown hgrow sm (fun k hk=> ?_)⟩;simp only [Value.ownBlock,jv] at hk;omega
end
section
attribute [local go_sem ↓] dw fP fZ LK Ou OH Ns
attribute [local go_sem] dK fO fV gK gy aV MF Oj Ol QJ
def kP (n:Int):Bool:=decide (0≤n) && decide (n<64)
theorem Xc (n:Int) (w:World):Calls Tryz.prog 115 #[.int .i64 n] w fun e w'=>e= .returned (.bool (kP n))∧w'=w:=by
 have H:Hid (kP n=(decide (0≤n) && decide (n<64))):=rfl
 by_cases h0:0≤n
 ·have d0:decide (0≤n)=true:=by simpa using h0
  rw [d0,tC] at H
  go_enter Tryz.func115,Tryz.ntmps115
  go_wp2;go_ret;exact ⟨by rw [uh H];rfl,rfl⟩
 ·have d0:decide (0≤n)=false:=by simpa using h0
  rw [d0,Jr] at H
  go_enter Tryz.func115,Tryz.ntmps115
  go_wp2;go_ret;exact ⟨by rw [uh H];rfl,rfl⟩
theorem eP.afg {w:World} {d:Nat} {Pv:Value} {D:dY} (h:eP w d Pv D) (k:Nat) (hk:k<64):w.rangeAt d (k*64) (cv (cl D.C k)):=fun j v hv=>by
 have hl:=iM h.cont.all (k:=k) (by have:=h.cont.len;omega);have hj:=(FW.1 hv).1;rw [bg,hl] at hj;have hf:=h.cont.flat
 have:=h.range (k*64+j) v (by rw [PO D.C h.cont.all k (by have:=h.cont.len;omega) j hj];exact hv)
 rw [qR] at this;exact this
def QG (D:dY) (n:Int):aj × Nat:=if kP n then (cl D.C n.toNat,0) else (zc,1)
theorem asu (w:World) (d:Nat) (Pv:Value) (D:dY) (h:eP w d Pv D) (n:Int):
  Calls Tryz.prog 126 #[.pointer (some ⟨d,0,none⟩),.int .i64 n] w fun e w'=>
   e= .returned (.tuple #[.agg (cv (QG D n).1).toArray,.int .i64 ((QG D n).2:Nat)])∧aC w w':=by
 have hB: ∀ c:List UInt8,aC w (w.alloc (.cells (cv c).toArray 38)):=fun c=>fC;have Hi:=ah (Xc n (w.alloc (.cells (cv zc).toArray 38)));have Hr:Hid (QG D n=if kP n then (cl D.C n.toNat,0) else (zc,1)):=rfl;cases hb:kP n with
 | false=>
  rw [hb] at Hi Hr;rw [ak dc] at Hr
  go_enter Tryz.func126,Tryz.ntmps126
  go_wp2_with fail
  refine Hi.mono ?_;rintro e w1 ⟨rfl,rfl⟩;go_wp2;rw [uh Hr];refine gV (v:= .tuple #[.agg (cv zc).toArray,.int .i64 1]) (by rw [EK Tryz.results126];simp only [dw];simp [asAddr,gy aV]) rfl ⟨rfl,hB zc⟩
 | true=>
  rw [hb] at Hi Hr;rw [au rfl] at Hr;have hn:0≤n∧n<64:=by simpa [kP] using hb
  obtain ⟨k,rfl⟩:=CP hn.1;rw [vC] at Hr;have hk:k<64:=om;have hki:(k:Int)<64:=om;have hW:=h.below (hB zc);have hcl:=iM h.cont.all (k:=k) (by have:=h.cont.len;omega);have l1:=sV (n:=64) (hW.afg k hk) (by rw [bg,hcl]);have l2:=qX (n:=64) (hW.afg k hk) (by rw [bg,hcl]);clear hb hn hW;generalize cl D.C k=c at*
  go_enter Tryz.func126,Tryz.ntmps126
  go_wp2_with fail
  refine Hi.mono ?_;rintro e w1 ⟨rfl,rfl⟩;go_wp2;rw [uh Hr];refine gV (v:= .tuple #[.agg (cv c).toArray,.int .i64 0]) (by rw [EK Tryz.results126];simp only [dw];simp [asAddr,gy hcl]) rfl ⟨rfl,hB c⟩
end
section
attribute [local go_sem ↓] dw fP fZ kS mP mV jJ kJ jY jU lD lH kQ ku kT mQ mW lZ ny jG
attribute [local go_sem] dK fO fV gK gy aV kX mG mM mJ mF gI jK kH jX kZ kW iJ jW lq lC lu kF jc jd lY l7 kG kY mO nI lT mD nH
theorem atP (w:World) (v:Nat) (Cv Lv:Value) (V:aB) (h:aN w v Cv Lv V) (h0:0<V.C.length) (h1:V.C.length≤1000):
  Calls Tryz.prog 73 #[.pointer (some ⟨v,0,none⟩)] w fun e w'=> ∃ x,e= .returned x∧w'.ownsRow w.heap.size 38 64 x V.C.length (aQ V.C)∧aC w w':=by
 obtain ⟨g,cap,rfl,_⟩:=gB h.jA om;have c0:=h.c0;have Hc:=ah (anB w g cap V.C h.kE h.jA h0 h1)
 go_enter Tryz.func73,Tryz.ntmps73
 go_wp2_with fail
 refine Hc.mono ?_;rintro e w1 ⟨x,rfl,hr,hb⟩;go_wp2;go_ret;exact ⟨x,rfl,hr,hb⟩
theorem auQ (w:World) (v:Nat) (Cv Lv:Value) (V:aB) (h:aN w v Cv Lv V) (h0:0<V.C.length) (h1:V.C.length≤1000):
  Calls Tryz.prog 38 #[.pointer (some ⟨v,0,none⟩)] w fun e w'=> ∃ x,e= .returned x∧w'.ownsRow w.heap.size 38 64 x V.C.length (aQ V.C)∧aC w w':=by
 have Hc:=ah (atP w v Cv Lv V h h0 h1)
 go_enter Tryz.func38,Tryz.ntmps38
 go_wp2_with fail
 refine Hc.mono ?_;rintro e w1 ⟨x,rfl,hr,hb⟩;go_wp2;go_ret;exact ⟨x,rfl,hr,hb⟩
structure pq (w:World) (d v:Nat) (Cv Lv:Value) (V:aB):Prop where
 aF:w.heap[d]? = some (.cells #[.pointer (some ⟨v,0,none⟩)] 85 (0,0))
 bP:aN w v Cv Lv V
def Lu (d v:Nat) (Cv Lv:Value) (k:Nat):Prop:=k=d∨eX v Cv Lv k
section
variable {w w':World} {d v:Nat} {Cv Lv:Value} {V:aB}
theorem pq.c0 (h:pq w d v Cv Lv V):w.cell? ⟨d,0,none⟩=some (.pointer (some ⟨v,0,none⟩)):=by rw [aG h.aF];rfl
theorem pq.aqM (h:pq w d v Cv Lv V): ¬ eX v Cv Lv d:=by
 rintro (rfl | hk | hk)
 ·have:=h.aF;rw [h.bP.aF] at this;cases this
 ·exact iw h.bP.jA h.aF dc d hk rfl
 ·exact iw h.bP.fF h.aF dc d hk rfl
theorem pq.kept {S:Nat→Prop} (h:pq w d v Cv Lv V) (hk:Kept S w w') (hs: ∀ k,Lu d v Cv Lv k→ ¬ S k):pq w' d v Cv Lv V:=
 ⟨hk.aF (hs d (aA rfl)) h.aF,h.bP.kept hk (fun k hf=>hs k (ay hf))⟩
theorem pq.below (h:pq w d v Cv Lv V) (hb:aC w w'):pq w' d v Cv Lv V:=h.kept (S:=fun _=>False) (Kept.dS hb) (fun _ _=>id)
theorem pq.step {C1 L1:Value} {V1:aB} (h:pq w d v Cv Lv V) (hs:bZ w w' v Cv Lv C1 L1 V1):pq w' d v C1 L1 V1:=⟨hs.kept.aF h.aqM h.aF,hs.at'⟩
theorem pq.qG (h:pq w d v Cv Lv V): ∀ k,Lu d v Cv Lv k→k<w.heap.size:=by
 rintro k (rfl | hk)
 ·exact aO h.aF
 ·exact h.bP.qG k hk
end
theorem G8 (w:World) (d v:Nat) (Cv Lv:Value) (V:aB) (h:pq w d v Cv Lv V):
  Calls Tryz.prog 37 #[.pointer (some ⟨d,0,none⟩)] w fun e w'=>e= .returned (.bool true)∧w'=w:=by
 have c0:=h.c0
 go_enter Tryz.func37,Tryz.ntmps37
 go_wp2;go_ret;exact ⟨rfl,rfl⟩
theorem Nv (w:World) (d v:Nat) (Cv Lv:Value) (V:aB) (h:pq w d v Cv Lv V) (h0:0<V.C.length) (h1:V.C.length≤1000):
  Calls Tryz.prog 12 #[.pointer (some ⟨d,0,none⟩)] w fun e w'=> ∃ x,e= .returned x∧w'.ownsRow w.heap.size 38 64 x V.C.length (aQ V.C)∧aC w w':=by
 have c0:=h.c0;have Hm:=ah (G8 w d v Cv Lv V h);have Hc:=ah (auQ w v Cv Lv V h.bP h0 h1)
 go_enter Tryz.func12,Tryz.ntmps12
 go_wp2_with fail
 refine Hm.mono ?_;rintro e w1 ⟨rfl,rfl⟩
 go_wp2_with fail
 refine Hc.mono ?_;rintro e w1 ⟨x,rfl,hr,hb⟩;go_wp2;go_ret;exact ⟨x,rfl,hr,hb⟩
theorem ak1 (n:Int) (w:World):Calls Tryz.prog 103 #[.int .i64 n] w fun e w'=>e= .returned (.bool (kP n))∧w'=w:=by
 have H:Hid (kP n=(decide (0≤n) && decide (n<64))):=rfl
 by_cases h0:0≤n
 ·have d0:decide (0≤n)=true:=by simpa using h0
  rw [d0,tC] at H
  go_enter Tryz.func103,Tryz.ntmps103
  go_wp2;go_ret;exact ⟨by rw [uh H];rfl,rfl⟩
 ·have d0:decide (0≤n)=false:=by simpa using h0
  rw [d0,Jr] at H
  go_enter Tryz.func103,Tryz.ntmps103
  go_wp2;go_ret;exact ⟨by rw [uh H];rfl,rfl⟩
end
end Go.Proofs.YtknjjjenklfeoaaGreatDoor
