import Derived.Test.YtknjjjenklfeoaaGreatDoorU47
set_option maxHeartbeats 8000000
set_option maxRecDepth 100000
set_option linter.all false
namespace Go.Proofs.YtknjjjenklfeoaaGreatDoor
open Go.RowKit
section
attribute [local go_sem ↓] dw fP fV IZ
attribute [local go_sem] dM fO fU gW gB aV Jd jc jd
def TS (p c y:Nat) (s:ByteArray) (a:World):Prop:=a.cell? ⟨p,1,none⟩=some (.pointer (some ⟨y,0,none⟩))∧a.cell? ⟨c,2,none⟩=some (.string s)
def alL (a:List kD) (s:ByteArray): ∀ m k,-1≤BO a s m k∧BO a s m k≤((k+m:Nat):Int)
 | 0,k=>by show -1≤(-1:Int)∧(-1:Int)≤_;omega
 | m+1,k=>by
  have:=alL a s m (k+1)
  rw [BO]
  split <;> omega
def auP (D:dR) (s:ByteArray): -1≤yL D s∧yL D s≤(D.L.length:Int):=by
 have:=alL D.L s D.L.length 0
 unfold yL;omega
def alY {R:aU} {N0:Nat} {E:List aW} {i:Nat} (h:R.roots=aH N0 E) (hi:i<E.length):rootOf R (i+1)=lU (E.getD i ze):=by
 unfold rootOf aH at*;rw [h,J5,aN,aN,jK,bJ hi];rfl
def avT (w:World) (p:Nat) (P:eP) (S:Nat→Prop) (N0:Nat) (E:List aW) (h:dL w p P S) (ag:nI P N0 E) (hL:P.V.L.length≤400000000) (o:lM) (hn:o.name.size≤maxLen) (aL:o.kind=4):
  Calls Tryz.prog 63 #[.pointer (some ⟨p,0,none⟩),.agg (dI o).toArray] w fun e w'=>e= .returned (.bool true)∧ ∃ P' N1 E',nI P' N1 E'∧jo P.V P'.V P.D P'.D∧ ∃ S',wz w w' p P S P' S':=by
 have a:=ag.bH;obtain ⟨k1,u,Q,k4,k5⟩:=a.look;have h7:=a.file.seven;have qm:=a.file.most;have o7:=a.file.lens;have bA:(⟨N0,0,[]⟩:bI) ∈ aH N0 E:=by simp [aH]
 have aM: ∀ i,i<E.length→rX P.V.C (E.getD i ze).first:=fun i hi=>by
  obtain ⟨r,hr,e⟩:=gY.1 (a.Dv hi);rw [← e];exact a.sound.KW hr
 have aa:=a.au7 o.name;have bB:(aH N0 E).length≤5:=by have:=a.file.iR.len;simp [aH];omega
 have Uy:=fun he=>a.au8 (s:=o.name) he;have bE:P.D.L.length≤4:=by rw [← ag.jw,Jw];exact a.file.iR.len
 have aR:=auP P.D o.name;have aq:aC w (w.alloc (.cells (dI o).toArray 80)):=fC;have an:(w.alloc (.cells (dI o).toArray 80)).heap[w.heap.size]? = some (.cells (dI o).toArray 80 (0,0)):=aX _ _;have c0:=(h.below aq).c0;have H:=ah h;have HG:=ah a;have m:=ah ag;have B0:=ah aq;have X0:=ah an;have HC:=ah aa;have a0:=fun k hk=>H.lt k (H.Di k (ay hk));have Om:=ah a0;have Hk:=ah aL;have Qp:=ah Uy;clear h a aq an aa a0 ag aL Uy
 go_enter Tryz.func63,Tryz.ntmps63
 go_wp2_with fail
 generalize w.alloc (.cells (dI o).toArray 80)=w0 at*;refine (OD w0 _ _ _ _ _ (H.below B0).ig om om).mono ?_;rintro e w1 ⟨fv,rfl,a1,b1⟩;have B1:=ah (B0.trans (b1.mono B0.size));have X1:=ah ((b1.block _ (aK X0)).trans X0);have R1:Hid (kK w1 fv P.V.C):=⟨Ba a1 (lX _),o7⟩;clear B0 X0 a1 b1 c0
 go_wp2_with fail
 refine (Pe w1 fv P.V.C R1 om).mono ?_;rintro e w2 ⟨rfl,fl,fr,M⟩;have T:=ah (B1.trans (M.below.mono B1.size));have X2:=ah ((M.below.block _ (aK X1)).trans X1);have F2:=ah M.at';have a2: ∀ g,fl.ownBlock=some g→w.heap.size≤g:=fun g a=>jL B1.size (M.fresh g a);have MI:=ah a2;have bj:w.heap.size≤w1.heap.size:=B1.size;have c1:=(H.below T).c1;have bL:w1.heap.size<w2.heap.size:=aK M.at'.aG;have ar:w.heap.size≤w2.heap.size:=T.size;clear M B1 X1 R1 a2;generalize w1.heap.size=f at*
 go_wp2_with fail
 refine (XE w2 P.y P.Pv P.D (H.below T).ref om).mono ?_;rintro e l ⟨X,rfl,ai,av,b3⟩;have n:=ah (T.trans (b3.mono T.size));have A:=ah ((b3.block _ (aK X2)).trans X2);have Y:=ah (F2.below b3);have D3:=ah ai;have al:w2.heap.size<l.heap.size:=ai.lt;have hQ: ∀ g,X.ownBlock=some g→w.heap.size≤g∧g<l.heap.size:=fun g a=>⟨by have:=av g a;omega,(ai.row.lt g a).2⟩;have bl:Hid (∀ g,fl.ownBlock=some g→g<w2.heap.size):=fun g a=>(F2.fJ.lt g a).2;have bm:Hid (∀ g,fr.ownBlock=some g→g<w2.heap.size):=fun g a=>(F2.pG.lt g a).2;have Z:=ah hQ;have aw:=ah av;have ck:l.cell? ⟨w.heap.size,0,none⟩=some (.int .i64 4):=by rw [aF (uh A) 0,bZ];show some (Value.int .i64 o.kind)=_;rw [uh Hk]
 clear ai av b3 hQ X2 F2 c1 T;generalize w2.heap.size=z at*
 go_wp2_with fail
 have q:TS p w.heap.size P.y o.name l.drew:=⟨(H.below n.drew).c1,(aF (w:=l) A 2).trans rfl⟩;have Gj:=ah (aeh l.drew P.y P.Pv P.D (H.below n.drew).ref om o.name);rw [m.jw] at HC;generalize a3:yL P.D o.name=rf at*;have bN:=ah a3;clear a3;obtain ⟨bO,bR⟩:=aR;have bS:rf≤4:=om;refine xZ (TS p w.heap.size P.y o.name) 8 kr ?_;refine tk 0 q ?_;refine tk 1 q ?_;refine tk 2 q ?_;refine tk 3 q ?_;refine tk 4 q ?_;refine tk 5 q ?_;refine wo 6 fun K6 ax=> ?_;go_simp;go_at_call 120;refine Gj.mono ?_;rintro e bX ⟨rfl,rfl⟩;refine ax _ _ (ay q) ?_;refine tk 7 q ?_;refine wo 8 fun K8 bn=> ?_;go_simp;refine bn _ _ (aA rfl) ?_;refine sH kr ?_ _;clear q Gj ck;have a4:IntKind.i64.wrap (1+rf)=1+rf:=FY _ om
 try rw [a4]
 have az:aC l l.drew:=(bG _ l).drew;have a5:=ah (n.drew);have a6:=ah (show l.drew.heap[w.heap.size]? = _ from uh A);have a7:=ah (Y.below az);have a8:=ah (D3.below az);have ao:z<l.drew.heap.size:=al;have a9:Hid (∀ g,X.ownBlock=some g→w.heap.size≤g∧g<l.drew.heap.size):=uh Z;clear n A Y D3 az a4 al Z;generalize l.drew=l at*;have n:=a5;have A:=a6;have Y:=a7;have D3:=a8;have al:=ao;have Z:=a9;clear a5 a6 a7 a8 ao a9
 go_wp2_with fail
 have G:Ku p w.heap.size P.d o.name l.drew:=⟨(H.below n.drew).c0,(aF (w:=l) A 2).trans rfl⟩;have Hw:=ah (aqg l.drew P.d P.v P.Cv P.Lv P.V (H.below n.drew).ig om qm om o.name hn (fun he=>(uh Qp he).1) (fun he=>(uh Qp he).2));have EL:Hid (jo P.V (wW P.V o.name).1 P.D (Jb P.D o.name).1):=by
  have ht:=m.bH.awM o.name;rw [m.jw] at ht;exact ht
 generalize hR:wW P.V o.name=R at*;have HR:=ah hR;clear hR;refine xZ (Ku p w.heap.size P.d o.name) 7 kr ?_;refine tk 0 G ?_;refine tk 1 G ?_;refine tk 2 G ?_;refine tk 3 G ?_;refine tk 4 G ?_;refine tk 5 G ?_;refine wo 6 fun K6 ax=> ?_;go_simp;go_at_call 28;refine Hw.mono ?_;rintro e w4 ⟨rfl,C4,L4,t⟩;have I:Hid (dF l w4 P.v P.Cv P.Lv C4 L4 R.1):=⟨t.at',⟨t.kept.os,t.kept.tape,t.kept.output,t.kept.size,t.kept.block⟩,t.new⟩;have O: ∀ k,w.heap.size≤k→ ¬ eX P.v P.Cv P.Lv k:=fun k hk hf=>by have:=uh Om k hf;omega
 have X4:=ah (I.kept.aG (O _ (aO _)) A);have F4:=ah (Y.kept I.kept (O _ bj) (fun g a=>O g (uh MI g a)) (fun g a=>by obtain ⟨cs,b4,hb⟩:=LG Y.pG a;exact (H.below n).OG hb dc dc dc));have D4:=ah (D3.kept I.kept (O _ ar) (fun g a=>O g (uh Z g a).1));have b5:l.heap.size≤w4.heap.size:=I.kept.size;have ba:=((H.below n).step I).c0;have bb:Ku p w.heap.size P.d o.name w4:=⟨ba,(aF X4 2).trans rfl⟩;clear t O;refine ax _ _ (ay bb) ?_;refine wo 7 fun K7 bo=> ?_;go_simp;refine bo _ _ (aA rfl) ?_;refine sH kr ?_ _;clear G bb ba Hw A Y D3;have bp:w4.cell? ⟨w.heap.size,2,none⟩=some (.string o.name):=(aF X4 2).trans rfl;have Hw:=ah (auT w4 z X P.D D4 om o.name hn);generalize bq:Jb P.D o.name=R' at*;clear bq
 go_wp2_with fail
 refine Hw.mono ?_;rintro e w5 ⟨rfl,bd,bf⟩;have aD:Kept (fun x=>x=z∨X.ownBlock=some x) w4 w5:=bf.mono fun x e=>aA e;have D5:=ah bd;have bs:Hid (∀ g,X.ownBlock=some g→w.heap.size≤g):=fun g a=>(uh Z g a).1;have F5:=ah (F4.kept aD (fun x=>by
  rcases x with x | x
  ·omega
  ·have:=uh aw _ x;omega) (fun g a x=>by
  have:=uh bl g a
  rcases x with x | x
  ·omega
  ·have:=uh aw _ x;omega) (fun g a x=>by
  have:=uh bm g a
  rcases x with x | x
  ·omega
  ·have:=uh aw _ x;omega))
 have F:=ah (fun hl=>wz.other H n I aD ⟨ar,al⟩ Z hl);have bh: ¬ (S z∨eX P.v C4 L4 z):=fun x=>by
  rcases (H.below n).SA I z x with y | y
  ·have:=H.lt z y;omega
  ·omega
 have bt:=ah bh;clear bd bf aD bh;clear Hw X4 F4 D4 bp;have bw:=F5.DX;rw [k1] at bw;rcases uh HC with ⟨c,hc,e1,e2⟩ | ⟨e2,i,hi,e3,⟨ab,e1⟩ | ⟨ab,e1,hl,hm,N1,aE⟩⟩
 ·subst e1;subst e2;dsimp only at F D5 ⊢;have J:=ah (uh F om);have gq:Hid (nI { P with Cv:=C4,Lv:=L4,V:=P.V } N0 E):=⟨m.bH,m.jw,m.exact⟩;have d0:(((c:Nat):Int) == 0)=false:=by rw [lY];omega
  have ad:=ah (fun W=>Ei ((c:Nat):Int) W);clear F D5 F5 HC
  go_wp2_with fail
  refine (uh ad _).mono ?_;rintro e w9 ⟨rfl,rfl⟩;go_wp2;go_ret;exact ⟨rfl,_,_,_,uh gq,m.still,_,uh J⟩
 ·subst e1;dsimp only at F ⊢;rw [e2];have J:=ah (uh F om);have gq:Hid (nI { P with Cv:=C4,Lv:=L4,V:=P.V } N0 E):=⟨m.bH,m.jw,m.exact⟩;have ae:rootOf (look P.V.C) (i+1)=lU (E.getD i ze):=alY Q hi;rw [e3];have K:=ah (fun (W:World) (hB:aC w5 W)=>Zm W f fl fr (look P.V.C) (F5.below hB) (i+1) (by rw [Q];simp [aH];omega) (by rw [Q];omega) (by rw [u];exact qm) (by rw [u];omega) (by rw [ae,u];exact aM i hi));rw [ae,u,show (lU (E.getD i ze)).N=(E.getD i ze).first from rfl,ab,show ((i+1:Nat):Int)=1+(i:Int) by omega] at K;clear F D5 F5 HC ab e2
  go_wp2_with fail
  refine (uh K _ (bG _ _)).mono ?_;rintro e w6 ⟨rfl,b6⟩;have af:=ah (J.below b6);clear b6 J K;go_wp2;go_ret;exact ⟨rfl,_,_,_,uh gq,m.still,_,uh af⟩
 ·rw [e2,e1];have J:=ah (uh F hl);have b7:=m.jw;have ae:rootOf (look P.V.C) (i+1)=lU (E.getD i ze):=alY Q hi;rw [e3];have K:=ah (fun (W:World) (hB:aC w5 W)=>Zm W f fl fr (look P.V.C) (F5.below hB) (i+1) (by rw [Q];simp [aH];omega) (by rw [Q];omega) (by rw [u];exact qm) (by rw [u];omega) (by rw [ae,u];exact aM i hi));rw [ae,u,show (lU (E.getD i ze)).N=(E.getD i ze).first from rfl,ab,show ((i+1:Nat):Int)=1+(i:Int) by omega] at K;have gq:Hid (nI { P with Cv:=C4,Lv:=L4,V:=R.1,y:=z,D:=R'.1,Pv:=X } N1 E):=⟨aE.bH,aE.holds,fun hx=>aE.exact (m.exact hx)⟩;have ad:=ah (fun W=>Ei 0 W);clear F F5 HC ab e2 e1
  go_wp2_with fail
  refine (uh K _ (bG _ _)).mono ?_;rintro e w6 ⟨rfl,b6⟩;have af:=ah (J.below b6);have bx:=ah (D5.below b6);have HN:=ah (wz.YT H af bx ar bt bs);have f6:=fun j=>eY af.at'.aG j;have b8:=af.at'.c1;clear b6 J K
  go_wp2_with fail
  refine (uh ad _).mono ?_;rintro e w9 ⟨rfl,rfl⟩;go_wp2;go_ret;exact ⟨rfl,_,_,_,uh gq,uh EL,_,uh HN⟩
end
section
attribute [local go_sem ↓] dw fP fV IZ jE
attribute [local go_sem] dM fO fU gW gB aV Jd jc jd
structure Stepped (w w':World) (p b:Nat) (P:eP) (S:Nat→Prop) (B:nG) (U:Nat→Prop) (P':eP) (S':Nat→Prop) (V':oM) (B':nG) (U':Nat→Prop):Prop where
 at':dL w' p P' S'
 book:iY w' b V' B' U'
 base:P'.B=P.B
 log:P'.V.L.length≤P.V.L.length+100
 marks:P'.ms.length≤P.ms.length+1
 next:B'.next≤B.next+2
 files:B'.files.length≤B.files.length+4
 writes:B'.writes.length≤B.writes.length+4
 names:B'.names.length≤B.names.length+4
 Vp: ∀ x ∈ B'.files,x ∈ B.files∨x.n≤258
 Vs: ∀ x ∈ B'.writes,x ∈ B.writes∨x.n≤P.V.L.length+2
 Vq: ∀ x ∈ B'.names,x ∈ B.names∨x.n≤8
 kept:Kept (fun k=>S k∨U k) w w'
 YU: ∀ k,S' k→S k∨w.heap.size≤k
 YV: ∀ k,U' k→U k∨w.heap.size≤k
 apart: ∀ k,S' k→ ¬ U' k
def Bc (p b:Nat) (o:lM):Array Value:= #[.pointer (some ⟨p,0,none⟩),.pointer (some ⟨b,0,none⟩),.agg (dI o).toArray]
section
variable (w:World) (o:lM)
def RH:(w.alloc (.cells (dI o).toArray 80)).heap[w.heap.size]? = some (.cells (dI o).toArray 80 (0,0)):=aX _ _
def qG:aC w (w.alloc (.cells (dI o).toArray 80)):=fC
def Lp:(w.alloc (.cells (dI o).toArray 80)).cell? ⟨w.heap.size,0,none⟩=some (.int .i64 o.kind):=by rw [aF (RH w o) 0,bZ];rfl
def Y5:dU (w.alloc (.cells (dI o).toArray 80)) w.heap.size 0 6:=fun j hj=>by rw [rE,aF (RH w o),bZ,bJ (by rw [Nw];exact hj)];rfl
def Y4:dO (w.alloc (.cells (dI o).toArray 80)) w.heap.size 0 6=dI o:=qU (fun j v hv=>by rw [rE,aF (RH w o),bZ];exact hv) (Nw o)
def atz:(w.alloc (.cells (dI o).toArray 80)).heap.size=w.heap.size+1:=sm
end
def O1 {k n:Int} (h:k=n): ∀ j,(k == j)=(n == j):=fun j=>by rw [h]
def av7 (w:World) (p b:Nat) (o:lM) (hk:o.kind≤0):
  Calls Tryz.prog 34 (Bc p b o) w fun e a=>e= .returned (.tuple #[.pointer (some ⟨p,0,none⟩),.bool true])∧aC w a:=by
 unfold Bc;have c:=Lp w o;have hj: ∀ j:Int,0<j→(o.kind == j)=false:=fun j hj=>by rw [lY];omega
 clear hk
 go_enter Tryz.func34,Tryz.ntmps34
 go_wp2;go_ret2;exact ⟨rfl,qG w o⟩
def Stepped.none {w c:World} {p b:Nat} {P:eP} {S:Nat→Prop} {V:oM} {B:nG} {U:Nat→Prop} (h:dL w p P S) (d:iY w b V B U) (e: ∀ k,S k→ ¬ U k) (hB:aC w c):Stepped w c p b P S B U P S V B U:=
 ⟨h.below hB,d.below hB,rfl,om,om,om,om,om,om,fun x a=>aA a,fun x a=>aA a,fun x a=>aA a,Kept.dQ hB,fun k hk=>aA hk,fun k hk=>aA hk,e⟩
def VW (w:World) (p b:Nat) (o:lM) (R:World→Prop) (hk:o.kind=1∨o.kind=6∨o.kind=7∨o.kind=9∨o.kind=10)
  (c:Calls Tryz.prog 67 #[.pointer (some ⟨p,0,none⟩),.pointer (some ⟨b,0,none⟩),.agg (dI o).toArray] (w.alloc (.cells (dI o).toArray 80)) fun e a=>e= .returned (.bool true)∧R a):
  Calls Tryz.prog 34 (Bc p b o) w fun e a=>e= .returned (.tuple #[.pointer (some ⟨p,0,none⟩),.bool true])∧R a:=by
 unfold Bc;have h:=Lp w o;have i:=Y5 w o;have j:=Y4 w o;have f:=ah c;clear c;rcases hk with hk | hk | hk | hk | hk
 all_goals
  have hj:=O1 hk;clear hk
  go_enter Tryz.func34,Tryz.ntmps34
  go_wp2_with fail
  refine f.mono ?_;rintro e w1 ⟨rfl,d⟩;have g:=ah d;clear d;go_wp2;go_ret2;exact ⟨rfl,uh g⟩
section
variable {w w1 w2:World} {p b:Nat} {P P1:eP} {S U S1 S2:Nat→Prop} {N1:Nat} {E1:List aW} {V V1:oM} {B B1:nG} {U1:Nat→Prop} {o:lM}
def Qm.amr (a:Qm (w.alloc (.cells (dI o).toArray 80)) w1 b B U V1 B1 U1 (P.V.L.length+2)) (h:dL w p P S) (d: ∀ k,S k→ ¬ U k):Stepped w w1 p b P S B U P S V1 B1 U1:=by
 have e:=h.lt;have hs:=atz w o;have c: ∀ k,U1 k→U k∨w.heap.size≤k:=fun k hk=>by
  rcases a.new k hk with x | x
  ·exact aA x
  ·exact ay om
 refine ⟨(h.below (qG w o)).kept a.kept d,a.at',rfl,om,om,a.next,a.files,a.writes,a.names,a.Vp,a.Vs,a.Vq,(Kept.dQ (qG w o)).trans (a.kept.mono fun k hk=>ay hk),fun k hk=>aA hk,c,fun k hk hu=> ?_⟩;rcases c k hu with x | x
 ·exact d k hk x
 ·have:=e k hk;omega
def Stepped.asked (h:dL w p P S) (a:iY w b V B U) (c: ∀ k,S k→ ¬ U k) (hB:Below (w.alloc (.cells (dI o).toArray 80)).heap.size (w.alloc (.cells (dI o).toArray 80)) w1):Stepped w w1 p b P S B U P S V B U:=
 Stepped.none h a c ((qG w o).trans (hB.mono (qG w o).size))
structure MC (w w':World) (p:Nat) (P:eP) (S:Nat→Prop) (P':eP) (S':Nat→Prop):Prop where
 at':dL w' p P' S'
 base:P'.B=P.B
 marks:P'.ms=P.ms
 log:P'.V.L.length≤P.V.L.length+100
 cut:MB P.V P'.V P.D P'.D
 kept:Kept S w w'
 new: ∀ k,S' k→S k∨w.heap.size≤k
def wz.made {P':eP} {a:Nat→Prop} (h:wz w w1 p P S P' a) (hc:MB P.V P'.V P.D P'.D):MC w w1 p P S P' a:=⟨h.at',h.base,h.marks,h.log,hc,h.kept,h.new⟩
def MC.aiF {P':eP} {a:Nat→Prop} (h:MC (w.alloc (.cells (dI o).toArray 80)) w1 p P S P' a):MC w w1 p P S P' a:=
 ⟨h.at',h.base,h.marks,h.log,h.cut,(Kept.dQ (qG w o)).trans h.kept,fun k hk=>(h.new k hk).elim aA fun x=>ay (jL (qG w o).size x)⟩
def Ends (w a:World) (p b:Nat) (P:eP) (S:Nat→Prop) (B:nG) (U:Nat→Prop):Prop:= ∃ P' N1 c,nI P' N1 c∧MB P.V P'.V P.D P'.D∧(∃ m,P'.ms=P.ms++[m]∧m.log=P'.V.L.length∧m.D=P'.D)∧ ∃ d e f g,Stepped w a p b P S B U P' d e f g
def MC.ends {j:Value} {d:yV} (a:MC w w1 p P S P1 S1) (g:nI P1 N1 E1) (q:d.log=P1.V.L.length) (r:d.D=P1.D) (m:iY w b V B U) (n: ∀ k,S k→ ¬ U k)
  (z:dL w2 p { P1 with Mv:=j,ms:=P1.ms++[d] } S2) (e:Kept S1 w1 w2) (A: ∀ k,S2 k→S1 k∨w1.heap.size≤k):Ends w w2 p b P S B U:=by
 have s:=m.lt;have f:=a.kept;have t:=f.size;have h:=a.new;have i: ∀ k,S2 k→S k∨w.heap.size≤k:=fun k hk=>by
  rcases A k hk with x | x
  ·exact h k x
  ·exact ay om
 have l:Kept S w w2:=by
  refine ⟨e.os.trans f.os,e.tape.trans f.tape,e.output.trans f.output,jL t e.size,fun k hk hn=> ?_⟩;rw [e.block k om (fun c=>by
   rcases h k c with y | y
   ·exact hn y
   ·omega)]
  exact f.block k hk hn
 have u:iY w2 b V B U:=m.kept l (fun k hu v=>n k v hu);refine ⟨{ P1 with Mv:=j,ms:=P1.ms++[d] },N1,E1,⟨g.bH,g.jw,g.exact⟩,a.cut,⟨d,by rw [← a.marks],q,r⟩,S2,V,B,U,z,u,a.base,a.log,?_,om,om,om,om,fun x c=>aA c,fun x c=>aA c,fun x c=>aA c,l.mono fun k hk=>aA hk,i,fun k hk=>aA hk,fun k hk hu=> ?_⟩
 ·show (P1.ms++[d]).length≤_;rw [a.marks];simp
 ·rcases i k hk with x | x
  ·exact n k x hu
  ·have:=s k hu;omega
end
def aeO (w:World) (p b:Nat) (P:eP) (S U:Nat→Prop) (V:oM) (B:nG) (i:iY w b V B U) (u: ∀ k,S k→ ¬ U k) (hL:P.V.L.length≤300000000) (q:P.B.length≤1000) (r:P.ms.length≤1000000000) (v:P.V.loose=false) (o:lM) (g:FuncId) (hk:o.kind=2∧g=62∨o.kind=3∧g=63∨o.kind=4∧g=63)
  (j:Calls Tryz.prog g #[.pointer (some ⟨p,0,none⟩),.agg (dI o).toArray] (w.alloc (.cells (dI o).toArray 80)) fun e c=>e= .returned (.bool true)∧ ∃ P' N1 x,nI P' N1 x∧jo P.V P'.V P.D P'.D∧ ∃ y,wz (w.alloc (.cells (dI o).toArray 80)) c p P S P' y):
  Calls Tryz.prog 34 (Bc p b o) w fun e c=>e= .returned (.tuple #[.pointer (some ⟨p,0,none⟩),.bool true])∧Ends w c p b P S B U:=by
 unfold Bc;have G:=Lp w o;have H:=Y5 w o;have I:=Y4 w o;have z:=ah i;have A:=ah j;clear j i;rcases hk with ⟨hk,rfl⟩ | ⟨hk,rfl⟩ | ⟨hk,rfl⟩
 all_goals
  have hj:=O1 hk;clear hk
  go_enter Tryz.func34,Tryz.ntmps34
  go_wp2_with fail
  refine A.mono ?_;rintro e w1 ⟨rfl,P1,N1,E1,d,f,S1,a⟩;have H1:=ah (a.made (f.Ul v)).aiF;have h:=ah d;have E:=a.log;clear a d f
  go_wp2_with fail
  refine (Sz w1 p P1 S1 N1 E1 H1.at' h om (by rw [H1.base];exact q) (by rw [H1.marks];exact r)).mono ?_;rintro e w2 ⟨rfl,F,J,s,t,S2,l,m,n⟩;have C:=ah (H1.ends h s t z u l m n);clear l m n;go_wp2;go_ret2;exact ⟨rfl,uh C⟩
end
def aoT (w:World) (p b:Nat) (P:eP) (S:Nat→Prop) (N0:Nat) (E:List aW) (h:dL w p P S) (r:nI P N0 E) (o:lM) (hk:o.kind=10):
  Calls Tryz.prog 67 #[.pointer (some ⟨p,0,none⟩),.pointer (some ⟨b,0,none⟩),.agg (dI o).toArray] w fun e M=>e= .returned (.bool true)∧aC w M:=by
 have a:=r.bH;obtain ⟨O,d,g,t,u⟩:=a.look;have h7:=a.file.seven;have v:=a.file.most;have J:yx P.V=Dz (look P.V.C):=a.state d g t;have K:(look P.V.C).roots.length≤5:=by rw [g];have:=a.file.iR.len;simp [aH];omega
 have Q:Hid (∀ i,i<(look P.V.C).roots.length→rX (look P.V.C).L (rootOf (look P.V.C) i).N):=fun i hi=>by
  unfold rootOf;rw [d,g];rw [g] at hi;apply a.sound.KW;rw [aN,bJ hi];exact o9 hi
 have R:Hid (vk 1000000 (look P.V.C)):=fun n=>by have:=u n;omega
 have T:Hid (∀ f ∈ bP P.V,gU P.V f):=fun f x=>by rw [a.yE] at x;exact a.sound.BF x
 have W:=a.file.lens;have y:=Lp w o;rw [hk] at y;have H:=ah (h.below (qG w o));have j:=ah (qG w o);have c0:=H.c0;clear h r a hk t u
 go_enter Tryz.func67,Tryz.ntmps67
 go_wp2_with fail
 generalize w.alloc (.cells (dI o).toArray 80)=X at*;refine (OD X _ _ _ _ _ H.ig om om).mono ?_;rintro e w1 ⟨z,rfl,s,b1⟩;have H1:=ah (H.below b1);have B1:=ah (j.trans (b1.mono j.size));have A:Hid (kK w1 z P.V.C):=⟨Ba s (lX _),W⟩;clear b1 s H j c0 y
 go_wp2_with fail
 refine (Pe w1 z P.V.C A om).mono ?_;rintro e w2 ⟨rfl,Y,fr,c⟩;have k:=ah (H1.below c.below);have l:=ah (B1.trans (c.below.mono B1.size));have D:=ah c.at';have F:=c.at'.DX;rw [O] at F;have c0:=k.c0;clear c A H1 B1;generalize w1.heap.size=f at*
 go_wp2_with fail
 refine (XL w2 _ _ _ _ _ k.ig om v T).mono ?_;rintro e Z ⟨rfl,m⟩;rw [J];have G:=ah (D.below m);have q:=ah (l.trans (m.mono l.size));clear m D l k F c0
 go_wp2_with fail
 refine (aeN Z f Y fr (look P.V.C) G (by rw [d];exact v) (by rw [d];omega) K Q R).mono ?_;rintro e w4 ⟨rfl,I⟩;have B4:=ah (q.trans (I.mono q.size));clear I G q;unfold jG;go_wp2;go_ret;exact ⟨rfl,uh B4⟩
def dL.avG {w:World} {p:Nat} {P:eP} {S:Nat→Prop} (h:dL w p P S) (x:Bool):dL (w.setCell ⟨p,3,none⟩ (.bool x)) p { P with ex:=x } S:=by
 have hk:=Kept.only w p 3 (.bool x);have key: ∀ {k:Nat} {cs:Array Value} {t:TypeId} {fr:Nat × Nat},w.heap[k]? = some (.cells cs t fr)→t≠107→k≠p:=by
  intro k cs t fr c d e;subst e;exact d (QD c h.aG)
 have a: ∀ {base:Nat} {e:TypeId} {size:Nat} {v:Value} {n:Nat} {xs:List Value},w.ownsRow base e size v n xs→e≠107→ ∀ g,v.ownBlock=some g→g≠p:=by
  intro base e size v n xs f d g j;obtain ⟨cs,fr,c⟩:=LG f j;exact key c d
 refine ⟨?_,h.ig.kept hk ?_,h.ref.kept hk (key h.ref.aG dc) (a h.ref.row dc),h.Dw.kept hk (a h.Dw.row dc),bV hk h.BP (a h.BP dc),fun m hm=>(h.eM m hm).kept hk (key (h.eM m hm).aG dc) (a (h.eM m hm).row dc),h.Nr,h.Ky,h.AL,h.Di,h.KX,h.iI,h.Dj,fun k i=>iL (h.lt k i) hk.size⟩
 ·rw [heap_setCell_same _ _ _ _ _ _ _ h.aG];rfl
 ·rintro k (e | e | e | e)
  ·rw [e];exact key h.ig.aG dc
  ·rw [e];exact key h.ig.bH.aG dc
  ·exact a h.ig.bH.jS dc k e
  ·exact a h.ig.bH.fJ dc k e
def aY.au4 {base:List aj} {V:aB} {N0:Nat} {E:List aW} (h:aY base V N0 E):(uV V).L.length≤V.L.length+100:=by
 obtain ⟨_,a⟩:=h.Zp;obtain ⟨o1,o2,c⟩:=h.complete;have d:=o1.Vh o2 c;have e:(iG V).L.length≤V.L.length+1:=by
  unfold iG;split
  ·show (V.L++[_]).length≤_;simp
  ·omega
 rw [a];omega
def alQ {w w1:World} {p:Nat} {P:eP} {S:Nat→Prop} {N0:Nat} {E:List aW} {c d:Value} (h:dL w p P S) (a:nI P N0 E) (hs:dF w w1 P.v P.Cv P.Lv c d (uV P.V)):
  nI { P with Cv:=c,Lv:=d,V:=uV P.V,ex:=true } N0 E∧MC w (w1.setCell ⟨p,3,none⟩ (.bool true)) p P S { P with Cv:=c,Lv:=d,V:=uV P.V,ex:=true } (fun k=>S k∨eX P.v c d k):=by
 have hm:=a.bH.YO;have g:=a.bH.au4;have hcut:=a.bH.ap7;rw [a.jw] at hcut;have hk:=(h.aeP hs).trans ((Kept.only w1 p 3 (.bool true)).mono (T:=S) fun k e=>by rw [e];exact h.AL);have i:=(h.step hs).avG true;have f:=h.SA hs;have hv:=hm.bH;have j:=hm.holds.trans a.jw;have l:=hm.exact;clear hm;generalize uV P.V=V1 at*;exact ⟨⟨hv,j,fun _=>l⟩,i,rfl,rfl,g,hcut,hk,f⟩
def av9 (w:World) (p b:Nat) (P:eP) (S U:Nat→Prop) (N0:Nat) (E:List aW) (V:oM) (B:nG) (h:dL w p P S) (c:nI P N0 E) (l:iY w b V B U) (D: ∀ k,S k→ ¬ U k) (hL:P.V.L.length≤300000000) (u:P.B.length≤1000) (x:P.ms.length≤1000000000) (o:lM) (hk:o.kind=11):
  Calls Tryz.prog 34 (Bc p b o) w fun e F=>e= .returned (.tuple #[.pointer (some ⟨p,0,none⟩),.bool true])∧Ends w F p b P S B U:=by
 unfold Bc;have G:=Lp w o;have hj:=O1 hk;have a:=c.bH;have R:=a.file.seven;have I:=a.file.most;have J:Hid (∀ f ∈ bP P.V,gU P.V f):=fun f m=>by rw [a.yE] at m;exact a.sound.BF m
 have y:=ah a.YO.yE;have H:=ah (h.below (qG w o));have K:=ah l;have M:=ah c;have c0:=H.c0;clear h c hk l a
 go_enter Tryz.func34,Tryz.ntmps34
 go_wp2_with fail
 refine (ahS _ _ _ _ _ P.V H.ig om I om J y).mono ?_;rintro e w1 ⟨rfl,n,q,hs⟩;obtain ⟨g,d⟩:=alQ H M hs;have i:=ah g;have H1:=ah d.aiF;have c3:=(H.step hs).c3;have T:=(H.step hs).fz 3;have z:(uV P.V).L.length≤P.V.L.length+100:=d.log;clear hs g d G c0;generalize j:({ P with Cv:=n,Lv:=q,V:=uV P.V,ex:=true }:eP)=P1 at*;have O:P1.V.L.length≤P.V.L.length+100:=by rw [← j];exact z
 clear j;generalize (fun k=>S k∨eX P.v n q k)=S1 at*
 go_wp2_with fail
 generalize w1.setCell ⟨p,3,none⟩ (.bool true)=w2 at*;refine (Sz w2 p P1 S1 N0 E H1.at' i om (by rw [H1.base];exact u) (by rw [H1.marks];exact x)).mono ?_;rintro e W ⟨rfl,Q,X,A,C,S2,r,s,t⟩;have N:=ah (H1.ends i A C K D r s t);clear r s t;go_wp2;go_ret2;exact ⟨rfl,uh N⟩
section
attribute [local go_sem ↓] dw fP fV kQ
attribute [local go_sem] dM fO fU aV kW
structure Ov (w:World) (a:Option Addr) (n:Nat) (ss:Nat→ByteArray):Prop where
 some:0<n→ ∃ g o,a=some ⟨g,o,none⟩∧g<w.heap.size∧ ∀ i,i<n→w.cell? ⟨g,o+i,none⟩=some (.string (ss i))
 fits: ∀ i,i<n→(ss i).size≤maxLen
def Ov.below {w c:World} {a:Option Addr} {n:Nat} {d:Nat→ByteArray} (h:Ov w a n d) (e:aC w c):Ov c a n d:=
 ⟨fun h0=>by
  obtain ⟨g,o,j,f,hc⟩:=h.some h0;exact ⟨g,o,j,iL f e.size,fun i hi=>(e.cell f).trans (hc i hi)⟩,h.fits⟩
def FP (a:Nat→ByteArray) (k:Nat):List aj:=(List.range k).map fun i=>Gs (a i).data.toList
def auK (a:Nat→ByteArray) (k:Nat):FP a (k+1)=FP a k++[Gs (a k).data.toList]:=by simp [FP,aav]
def alI (a:Nat→ByteArray) (k:Nat):(FP a k).length=k:=by simp [FP]
def aht (l:List UInt8):(Gs l).length=64:=Xy l _ (Nat.min_le_left _ _) (Nat.min_le_right _ _)
def aef (a:Nat→ByteArray) (k:Nat): ∀ c ∈ FP a k,c.length=64:=by
 intro c hc;obtain ⟨i,_,rfl⟩:=gY.1 hc;exact aht _
def auL (w:World) (a:Option Addr) (n cap:Nat) (d:Nat→ByteArray) (hs:Ov w a n d) (hn:n≤maxLen):
  Calls Tryz.prog 14 #[.slice a n cap] w fun e A=> ∃ v,e= .returned v∧kK A v (FP d (min n 300))∧(∀ g,v.ownBlock=some g→w.heap.size≤g)∧aC w A:=by
 obtain ⟨W,J,K,L,M⟩:=qw Tryz.KY;have C:=ah hs;unfold maxLen at hn;clear hs
 go_enter Tryz.func14,Tryz.ntmps14
 go_wp2
 go_loopw [3,4] (fun v i wr=> ∃ k:Nat,k≤min n 300∧i= .int .i64 k∧wr.ownsRow 0 38 64 v k (aS (FP d k))∧(∀ g,v.ownBlock=some g→w.heap.size≤g)∧aC w wr) (fun _ i _=>300 - (intOf i).toNat)
 case atStart=>exact ⟨0,lX _,rfl,wH _ _ _ _,fun g h=>(by cases h),bG _ _⟩
 case round=>
  obtain ⟨k,hk,rfl,hR,hv,hB⟩:=hrel
  by_cases N:k<n∧k<300
  ·obtain ⟨r,aa⟩:=N;have D:decide ((k:Int)<(n:Int))=true:=dZ om;have X:decide ((k:Int)<300)=true:=dZ om;have ab:(k:Int)<(n:Int):=om;obtain ⟨g,o,rfl,h,hc⟩:=(C.below hB).some om;have Y:=hc k r;have y:=C.fits k r;have E:=ah (ahu (d k) wr y);have O:=aht (d k).data.toList;have j:=ah hR;have l:=ah hv;have f:=ah hB;obtain ⟨F,G,s⟩:=gQ hR;have ad:=hB.size;subst s;have Q:=auK d k;have ae:=zi (FP d k) (aef d k);generalize Gs (d k).data.toList=c at*;clear hR hv hB hc y
   go_wp2_with fail
   refine E.mono ?_;rintro e w2 ⟨rfl,m⟩;have R:=ah (bV (Kept.dQ (S:=fun _=>False) m) j (fun _ _=>id));have u:=ah (f.trans (m.mono f.size));have af:=m.size;clear m j f E Y
   go_wp2_with (at_builtin;refine yc _ rfl _ _ _ rfl 0 38 W _ 64 64 Tryz.underlying28 J K L M (by simp [Value.cells,bC,aV]) om (.slice F k G) k (aS (FP d k)) rfl (R.alloc _) ⟨w2.heap.size,0,none⟩ 1 1 (cv c) rfl (by rw [bC,O]) (pJ (cs:=(cv c).toArray) (t:=38) (fr:=(0,0)) (aX w2 _)) (Au _) om (by unfold maxLen;omega) om om (w2.heap.size+1) sm ?_;intro g5 cap5 w5 H I T uP)
   go_roundw
   case rel=>
    refine ⟨k+1,om,gn,?_,?_,?_⟩
    ·rw [Q,QN];exact H
    ·intro g h;simp only [Value.ownBlock,jH] at h;subst h;rcases T with x | x
     ·exact uh l _ x
     ·omega
    ·exact (u.alloc u.size (.cells (cv c).toArray 38)).grown I (by have:=u.size;simp;omega) (fun q Z=>uh l q Z)
   case measure=>exact bW
  ·have z:Hid (k=min n 300):=by show k=min n 300;omega
   have j:=ah hR;have l:=ah hv;have f:=ah hB;obtain ⟨F,G,s⟩:=gQ hR;subst s;clear hR hv hB
   by_cases r:k<n
   ·have D:decide ((k:Int)<(n:Int))=true:=dZ om;have X:decide ((k:Int)<300)=false:=gK om;go_wp2;go_ret;exact ⟨_,rfl,by rw [← uh z];exact ⟨by rw [alI];exact uh j,aef d k⟩,uh l,uh f⟩
   ·have D:decide ((k:Int)<(n:Int))=false:=gK om;go_wp2;go_ret;exact ⟨_,rfl,by rw [← uh z];exact ⟨by rw [alI];exact uh j,aef d k⟩,uh l,uh f⟩
end
end Go.Proofs.YtknjjjenklfeoaaGreatDoor
