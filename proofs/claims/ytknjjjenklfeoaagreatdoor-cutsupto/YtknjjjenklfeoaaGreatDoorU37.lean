import Derived.Test.YtknjjjenklfeoaaGreatDoorU36
import Derived.Deep.CutBlock
set_option maxHeartbeats 8000000
set_option maxRecDepth 100000
set_option linter.all false
namespace Go.Proofs.YtknjjjenklfeoaaGreatDoor
open Go.RowKit
attribute [local go_sem ↓] dw kV l9 ah4
attribute [local go_sem] dM kZ mM aV
def agX (parts:Array (Nat × Value)):Sem Value:=Instr.buildSlice 105 1 parts
def ag4 (parts:Array (Nat × Value)):Instr.buildSlice 105 1 parts=agX parts:=rfl
def al5 {w:World} {n:Int} {d:Nat}:(agX #[(0,.agg #[.int .i64 n,.pointer (some ⟨d,0,none⟩)])]).run Tryz.prog w= .ok (.slice (some ⟨w.heap.size,0,none⟩) 1 1) (w.alloc (.cells #[.int .i64 n,.pointer (some ⟨d,0,none⟩)] 109)):=
 VN w 105 109 2 (.agg #[.int .i64 0,.pointer none]) (.agg #[.int .i64 n,.pointer (some ⟨d,0,none⟩)]) Tryz.underlying105 kr om om (by rfl)
def Tryz.ajA:(Tryz.prog.info? 109).map (fun i=>(i.zero,i.size,i.bytes))=some (some (.agg #[.int .i64 0,.pointer none]),2,16):=kr
attribute [local go_sem ↓] ag4
attribute [local go_sem] al5
def TP (p:Nat) (Mv:Value) (y:Nat) (a:World):Prop:=a.cell? ⟨p,4,none⟩=some Mv∧a.cell? ⟨p,1,none⟩=some (.pointer (some ⟨y,0,none⟩))
structure nI (P:eP) (N0:Nat) (E:List aW):Prop where
 bH:aY P.B P.V N0 E
 jw:bD P.V.C N0 E=P.D
 exact:P.ex=true→wJ P.V.C (aH N0 E)
def iZ.ig {L:List aj} {N0:Nat} {E:List aW} (h:iZ E):(bD L N0 E).L.length≤4:=by
 unfold bD;simp only [tY];exact h.len
def nI.last {P:eP} {N0:Nat} {E:List aW} (h:nI P N0 E):P.V.L=[]∨(0<P.V.L.length∧rP P.V.L (P.V.L.length - 1)=zq):=by
 rcases h.bH.log.tail h.bH.Jy with e | ⟨l,e⟩
 ·exact aA e
 ·right
  refine ⟨by rw [e];simp,?_⟩;unfold rP;rw [e,aN,oL,aay,Nat.add_sub_cancel,nP (aO _),Bg];rfl
structure Std (w W:World) (p:Nat) (P:eP) (S:Nat→Prop) (fv lv:Value):Prop where
 at':dL W p P S
 below:aC w W
 file:kK W fv P.V.C
 log:Io W lv P.V.L
def Std.later {w W a:World} {p:Nat} {P:eP} {S:Nat→Prop} {c lv:Value} (h:Std w W p P S c lv) (b:aC W a):Std w a p P S c lv:=
 ⟨h.at'.below b,h.below.trans (b.mono h.below.size),h.file.kept (S:=fun _=>False) (Kept.dQ b) (fun _ _=>id),⟨bV (Kept.dQ (S:=fun _=>False) b) h.log.row (fun _ _=>id),h.log.lens⟩⟩
def Sz (w:World) (p:Nat) (P:eP) (S:Nat→Prop) (N0:Nat) (E:List aW) (h:dL w p P S) (s:nI P N0 E) (hL:P.V.L.length≤900000000) (hB:P.B.length≤1000) (bm:P.ms.length≤1000000000):
  Calls Tryz.prog 33 #[.pointer (some ⟨p,0,none⟩)] w fun e w'=>e= .returned (.bool true)∧
   ∃ a2 m,m.log=P.V.L.length∧m.D=P.D∧ ∃ S',dL w' p { P with Mv:=a2,ms:=P.ms++[m] } S'∧Kept S w w'∧ ∀ k,S' k→S k∨w.heap.size≤k:=by
 have a:=s.bH;obtain ⟨k1,M,O,k4,k5⟩:=a.look;have a3:D9 (look P.V.C)=P.D:=by rw [a.jw];exact s.jw
 have ae:=ah s.last;have h7:=a.file.seven;have qm:=a.file.most;have af:=a.log.rep;have ag:=a.log.low;have o7:=a.file.lens;have zB:=h.ig.bH.zZ;have bn:P.D.L.length≤4:=by rw [← s.jw];exact a.file.iR.ig
 have a4:(look P.V.C).roots.length≤5:=by rw [O];have:=a.file.iR.len;simp [aH];omega
 have a5:0<(look P.V.C).roots.length:=by rw [O];simp [aH]
 have Ik:Hid (∀ i,i<(look P.V.C).roots.length→rX (look P.V.C).L (rootOf (look P.V.C) i).N):=fun i hi=>by
  unfold rootOf;rw [M,O];rw [O] at hi;apply a.sound.KW;rw [aN,bJ hi];exact o9 hi
 have ai:Hid (P.ex=true→zW (look P.V.C)=true):=fun e=>a.zW (s.exact e);have c0:=h.c0;have H:=ah h;clear h a s
 go_enter Tryz.func33,Tryz.ntmps33
 go_wp2_with fail
 refine (OD w _ _ _ _ _ H.ig om om).mono ?_;rintro e w1 ⟨Y,rfl,al,b1⟩;have v:=ah (H.below b1);have c1:=v.c0;have Z:=ah b1;have R1:=ah al;clear b1 al c0
 go_wp2_with fail
 refine (XO w1 _ _ _ _ _ v.ig om).mono ?_;rintro e w2 ⟨lv,rfl,an,b2⟩;have Q2:Hid (Std w w2 p P S Y lv):=⟨v.below b2,Z.trans (b2.mono Z.size),⟨Ba (bV (Kept.dQ (S:=fun _=>False) b2) R1 (fun _ _=>id)) (lX _),o7⟩,⟨Ba an (lX _),zB⟩⟩;clear b2 v Z R1 an c1
 go_wp2_with fail
 refine (Pe w2 Y P.V.C Q2.file om).mono ?_;rintro e w3 ⟨rfl,fl,fr,J⟩;have Q3:=ah (Q2.later J.below);have R:=ah J.at';have cb:=J.at'.DX;rw [k1] at cb;clear J Q2;generalize w2.heap.size=f at*
 go_wp2_with fail
 refine (ahT w3 f fl fr (look P.V.C) R Ik (by rw [M];exact qm) a5 om).mono ?_;rintro e w4 ⟨d4,F,rfl,bo,T,bp,b4⟩;rw [a3] at T;have F:=ah (Q3.later b4);have ao:=ah (R.below b4);have c4:=F.at'.c1;have aq:=ah T;clear b4 Q3 R cb T
 go_wp2_with fail
 refine (aeA w4 d4 P.y _ _ _ _ aq F.at'.ref om om).mono ?_;rintro e z ⟨rfl,l⟩;rw [aez.2 rfl];have Q5:=ah (F.later l);have ar:=ah (ao.below l);clear l F ao c4 aq
 go_wp2_with fail
 refine (ah5 z f fl fr (look P.V.C) ar (by rw [M];exact qm) (by rw [M];omega) a4 Ik (fun n=>by have:=k5 n;omega)).mono ?_;rintro e w6 ⟨rfl,b6⟩;have q:=ah (Q5.later b6);have c3:=q.at'.c3;clear b6 Q5 ar;generalize zW (look P.V.C)=xb at*
 go_upto_region 9 with fail
 go_cut [49] from 38 to 48 (fun c W=>c= .bool false∧W=w6)
 case first=>
  have hex:=uh ai;generalize P.ex=pe at*;cases pe
  ·go_wp2;go_meet;exact ⟨rfl,rfl⟩
  ·obtain rfl:=hex rfl;go_wp2;go_meet;exact ⟨rfl,rfl⟩
 case rest=>
  obtain ⟨rfl,hw⟩:=hcut;subst hw;have c2:=q.at'.c2;obtain ⟨ba,bq,av⟩:=gQ q.at'.Dw.row;have a6:=ah av;clear c3 ai
  go_wp2_with fail
  refine (alS _ _ lv P.B P.V.L (by rw [← uh a6];exact q.at'.Dw) q.log hB om (fun x hx=>by have:=ag x hx;omega)).mono ?_;rintro e w7 ⟨rv,rfl,U,a7,b7⟩;rw [af] at U;have Q7:=ah (q.later b7);have aw:Hid (kK w7 rv P.V.C):=⟨Ba U (lX _),o7⟩;clear b7 q U a7 c2 av
  go_wp2_with fail
  refine (avE w7 rv Y P.V.C P.V.C aw Q7.file om om).mono ?_;rintro e G ⟨rfl,b8⟩;rw [dZ rfl];have A:=ah (Q7.later b8);clear b8 Q7 aw;obtain ⟨la,jh,rfl⟩:=gQ A.log.row
  go_upto_region 12 with fail
  go_cut [10] from 58 to 70 (fun c W=>c= .bool true∧W=G)
  case first=>
   rcases uh ae with e | ⟨ax,aa⟩
   ·have d0:((P.V.L.length:Int) == 0)=true:=by rw [e];rfl
    clear e;go_wp2;go_meet;exact ⟨rfl,rfl⟩
   ·obtain ⟨lg,lc,az,_⟩:=gy A.log.row ax;obtain ⟨rfl,rfl⟩:la=some ⟨lg,0,none⟩∧jh=lc:=by injection az with x1 x2 x3;exact ⟨x1,x3⟩
    have rg:=A.log.range (P.V.L.length - 1) om;rw [aa,show zq=⟨-1,zc⟩ from rfl] at rg;have l1:dU G lg ((P.V.L.length - 1)*65) 65:=sU (w:=G) rg (tN aV);have l2:dO G lg ((P.V.L.length - 1)*65) 65=bT ⟨-1,zc⟩:=qU (w:=G) rg (tN aV);have heq:=al7 (x:=⟨-1,zc⟩) aV;have bs:(0:Int)<(P.V.L.length:Int):=om;have d0:((P.V.L.length:Int) == 0)=false:=by rw [lY];omega
    clear rg az aa;go_wp2;go_meet;exact ⟨rfl,rfl⟩
  case rest=>
   obtain ⟨rfl,hw⟩:=hcut;subst hw;have d:=ah A.at';have I:=ah A.below;obtain ⟨i0,a8,a9,bb,bd⟩:=qw Tryz.ajA;have bt:P.ms.length<9223372036854775807:=om;clear A ae;have c4:=(d.below ((bG _ wc).drew)).c4;have c1:=(d.below ((bG _ wc).drew)).c1;have z4:=d.fz 4;have Hc:=ah (fun (W:World) (hb:aC wc W)=>XE W P.y P.Pv P.D (d.below hb).ref om)
   go_wp2_with fail
   have j:TP p P.Mv P.y wc.drew:=⟨c4,c1⟩;refine xZ (TP p P.Mv P.y) 17 kr ?_;refine tk 0 j ?_;refine tk 1 j ?_;refine tk 2 j ?_;refine tk 3 j ?_;refine tk 4 j ?_;refine tk 5 j ?_;refine tk 6 j ?_;refine tk 7 j ?_;refine tk 8 j ?_;refine tk 9 j ?_;refine tk 10 j ?_;refine wo 11 fun bw aD=> ?_;go_simp;go_at_call 58;refine (uh Hc _ ((bG _ wc).drew)).mono ?_;rintro e r ⟨Q9,rfl,aE,aL,b9⟩;have b:Hid (aC wc r):=((bG _ wc).drew).trans b9;have bf:=ah aE;have bh:=ah aL;have X:TP p P.Mv P.y r:=⟨(d.below b).c4,(d.below b).c1⟩;have aM: ∀ o,TP p P.Mv P.y (r.alloc o):=fun o=>⟨(d.below (b.alloc b.size o)).c4,(d.below (b.alloc b.size o)).c1⟩;clear b9 aE aL;refine aD _ _ (ay X) ?_;refine tk 12 X ?_;refine wo 13 fun bx aR=> ?_;go_simp;refine aR _ _ (ay (aM _)) ?_;refine wo 14 fun bA a0=> ?_
   refine JZ _ (by rfl) _ _ _ (by rfl) 0 109 i0 _ 2 16 Tryz.underlying105 a8 a9 bb bd (by rfl) om P.Mv P.ms.length (P.ms.flatMap Rn) (by rfl) ((d.below b).BP.alloc _) ⟨r.heap.size,0,none⟩ 1 1 [.int .i64 (P.V.L.length:Nat),.pointer (some ⟨wc.heap.size,0,none⟩)] (by rfl) (by rfl) (pJ (cs:= #[.int .i64 (P.V.L.length:Nat),.pointer (some ⟨wc.heap.size,0,none⟩)]) (t:=109) (fr:=(0,0)) (aX r _)) (by intro u hu;simp at hu;rcases hu with rfl | rfl <;> rfl) om (by unfold maxLen;omega) om om (r.heap.size+1) sm ?_;intro g5 cap5 z ab Q bj uP;have l:=ah (qW Q (d.below (b.alloc b.size _)).aG d.YS);have c5:z.cell? ⟨p,4,none⟩=some P.Mv:=(aF l 4).trans rfl;have bl:z.cell? ⟨p,1,none⟩=some (.pointer (some ⟨P.y,0,none⟩)):=(aF l 1).trans rfl;have z5: ∀ i,z.frozen? ⟨p,i,none⟩=false:=fun i=>eY l i;have K:TP p P.Mv P.y z:=⟨c5,bl⟩
   have ad:=dL.aiH (m:=⟨P.V.L.length,wc.heap.size,Q9,P.D⟩) (d.below (b.alloc b.size _)) Q ab (by
    rcases bj with x | x
    ·exact aA x
    ·right;rw [x];simp) uP (bf.below ((bG _ r).alloc (aO _) _)) (fun e=>by have:=d.ref.lt;simp only at e;omega) w (by have v:=I.size;have h2:=b.size;simp;omega) ⟨I.size,fun g a=>by have v:=I.size;have h2:=uh bh g a;have h3:wc.drew.heap.size=wc.heap.size:=rfl;omega⟩
   have CO:=ah ad;clear Q ab ad;refine a0 _ _ (ay K) ?_;refine wv 15 K ?_;refine wv 16 K ?_;refine wo 17 fun bB a1=> ?_;go_simp;refine a1 _ _ (aA rfl) ?_;refine sH kr ?_ _;clear j X aM K;go_wp2;go_ret;obtain ⟨f1,f2,f3⟩:=uh CO;refine ⟨rfl,.slice (some ⟨g5,0,none⟩) (P.ms.length+1) cap5,⟨P.V.L.length,wc.heap.size,Q9,P.D⟩,rfl,rfl,_,f1,(Kept.dQ (I.trans ((b.alloc b.size _).mono I.size))).trans f2,f3⟩
end Go.Proofs.YtknjjjenklfeoaaGreatDoor
