import Derived.Test.YtknjjjenklfeoaaGreatDoorU37
import Derived.Test.YtknjjjenklfeoaaGreatDoorU32
set_option maxHeartbeats 8000000
set_option maxRecDepth 100000
set_option linter.all false
namespace Go.Proofs.YtknjjjenklfeoaaGreatDoor
open Go.RowKit
section
attribute [local go_sem ↓] dw fP fV IZ
attribute [local go_sem] dM fO fU gW gB aV Jd jc jd
def nI.still {P:eP} {N0:Nat} {E:List aW} (h:nI P N0 E):jo P.V P.V P.D P.D:=jo.nil ⟨_,_,_,_,aA h.jw,h.bH.ok⟩
structure wz (w w':World) (p:Nat) (P:eP) (S:Nat→Prop) (P':eP) (S':Nat→Prop):Prop where
 at':dL w' p P' S'
 base:P'.B=P.B
 marks:P'.ms=P.ms
 ex:P'.ex=P.ex
 log:P'.V.L.length≤P.V.L.length+100
 kept:Kept S w w'
 new: ∀ k,S' k→S k∨w.heap.size≤k
def wz.did {w j l w6:World} {p:Nat} {P:eP} {S:Nat→Prop} {b c a:Value} {d:aB} {D':dR} (h:dL w p P S) (f:aC w j) (hs:dF j l P.v P.Cv P.Lv b c d) (hk:Kept (fun k=>k=P.y) l w6) (hr:fB w6 P.y a D') (n: ∀ g,a.ownBlock=some g→S g∨w.heap.size≤g)
  (o:d.L.length≤P.V.L.length+100):wz w w6 p P S { P with Cv:=b,Lv:=c,V:=d,D:=D',Pv:=a } (fun k=>(S k∨eX P.v b c k)∨a.ownBlock=some k):=by
 have i:=h.below f;have q:=i.step hs;refine ⟨q.auU hk hr,rfl,rfl,rfl,o,((Kept.dQ f).trans (i.aeP hs)).trans (hk.mono fun k e=>by rw [e];exact h.KX),fun k m=> ?_⟩;rcases m with x | x
 ·rcases i.SA hs k x with y | y
  ·exact aA y
  ·have:=f.size;exact ay om
 ·exact n k x
def abu (p b c d:Nat) (n:Int) (data:aj) (a:World):Prop:=a.cell? ⟨p,0,none⟩=some (.pointer (some ⟨d,0,none⟩))∧a.cell? ⟨b,1,none⟩=some (.int .i64 n)∧dU a c 0 64∧dO a c 0 64=cv data
def abv (p b c y:Nat) (n:Int) (data:aj) (a:World):Prop:=a.cell? ⟨p,1,none⟩=some (.pointer (some ⟨y,0,none⟩))∧a.cell? ⟨b,1,none⟩=some (.int .i64 n)∧dU a c 0 64∧dO a c 0 64=cv data
def dL.aiB {w:World} {p:Nat} {P:eP} {S:Nat→Prop} (h:dL w p P S):p≠P.y:=fun e=>by
 have a:=h.aG;rw [e] at a;exact absurd (QD a h.ref.aG) dc
def axD (w:World) (p:Nat) (P:eP) (S:Nat→Prop) (N0:Nat) (E:List aW) (h:dL w p P S) (ag:nI P N0 E) (hL:P.V.L.length≤400000000) (o:lM) (U:o.text.size≤maxLen):
  Calls Tryz.prog 62 #[.pointer (some ⟨p,0,none⟩),.agg (dI o).toArray] w fun e w'=>e= .returned (.bool true)∧ ∃ P',nI P' N0 E∧jo P.V P'.V P.D P'.D∧ ∃ S',wz w w' p P S P' S':=by
 have a:=ag.bH;obtain ⟨k1,B,k3,k4,k5⟩:=a.look;have h7:=a.file.seven;have qm:=a.file.most;have o7:=a.file.lens;have bd:(⟨N0,0,[]⟩:bI) ∈ aH N0 E:=by simp [aH]
 have av:=a.sound.KW bd;have l:(Gs o.text.data.toList).length=64:=Xy _ _ (Nat.min_le_left _ _) (Nat.min_le_right _ _);have aa:=a.write (data:=Gs o.text.data.toList) o.n l;have zB:=a.axC (data:=Gs o.text.data.toList) o.n l;have bS:=(auD P.V o.n (Gs o.text.data.toList)).zZ;have ai:aC w (w.alloc (.cells (dI o).toArray 80)):=fC;have ae:(w.alloc (.cells (dI o).toArray 80)).heap[w.heap.size]? = some (.cells (dI o).toArray 80 (0,0)):=aX _ _;have c0:=(h.below ai).c0;have H:=ah h;have HG:=ah a;have j:=ah ag;have X:=ah ai;have X0:=ah ae;have HC:=ah aa;have aw:=fun k hk=>H.lt k (H.Di k (ay hk));have Om:=ah aw;clear h a ai ae aa aw ag
 go_enter Tryz.func62,Tryz.ntmps62
 go_wp2_with fail
 generalize w.alloc (.cells (dI o).toArray 80)=w0 at*;refine (OD w0 _ _ _ _ _ (H.below X).ig om om).mono ?_;rintro e Y ⟨fv,rfl,ax,b1⟩;have O:=ah (X.trans (b1.mono X.size));have X1:=ah ((b1.block _ (aK X0)).trans X0);have R1:Hid (kK Y fv P.V.C):=⟨Ba ax (lX _),o7⟩;clear X X0 ax b1 c0
 go_wp2_with fail
 refine (Pe Y fv P.V.C R1 om).mono ?_;rintro e w2 ⟨rfl,fl,fr,M⟩;have Z:=ah (O.trans (M.below.mono O.size));have G:=ah ((M.below.block _ (aK X1)).trans X1);have F2:=ah M.at';have az: ∀ g,fl.ownBlock=some g→w.heap.size≤g:=fun g a=>jL O.size (M.fresh g a);have MI:=ah az;have bf:w.heap.size≤Y.heap.size:=O.size;have ct:w2.cell? ⟨w.heap.size,3,none⟩=some (.string o.text):=(aF G 3).trans rfl;clear M O X1 R1 az;generalize Y.heap.size=f at*
 go_wp2_with fail
 refine (ahu o.text w2 U).mono ?_;rintro e I ⟨rfl,t⟩;generalize Gs o.text.data.toList=data at*;have aD:=(Z.trans (t.mono Z.size)).alloc (by have:=Z.size;have:=t.size;omega) (.cells (cv data).toArray 38);have aE:(I.alloc (.cells (cv data).toArray 38)).heap[w.heap.size]? = some (.cells (dI o).toArray 80 (0,0)):=(jX _ _ _ (by have:=aK G;have:=t.size;omega)).trans ((t.block _ (aK G)).trans G);have aL:(I.alloc (.cells (cv data).toArray 38)).heap[I.heap.size]? = some (.cells (cv data).toArray 38 (0,0)):=aX _ _;have aM:=F2.below (t.alloc t.size (.cells (cv data).toArray 38));have bh:w.heap.size<I.heap.size:=by have:=aK G;have:=t.size;omega
 have F:=ah aD;have X4:=ah aE;have D4:=ah aL;have F4:=ah aM;clear aD aE aL aM t Z G F2 ct;go_wp2;generalize bj:I.alloc (.cells (cv data).toArray 38)=u at*;generalize I.heap.size=c at*;clear bj;have c0:=(H.below F.drew).c0;have cn:u.drew.cell? ⟨w.heap.size,1,none⟩=some (.int .i64 o.n):=(aF (w:=u) X4 1).trans rfl;have l1:dU u.drew c 0 64:=iD (w:=u) D4 l;have l2:dO u.drew c 0 64=cv data:=iC (w:=u) D4 l;have Hw:=ah (HG.aqi (data:=data) (H.below F.drew).ig om o.n l);have EL:Hid (jY o.n=true→jo P.V (DC P.V o.n data).1 P.D (wZ P.D o.n.toNat data)):=fun b=>by
  have bl:0≤o.n∧o.n<64:=by unfold jY at b;simpa using b
  obtain ⟨m,hm⟩:=Cj bl.1;have U:=j.bH.awP (data:=data) m om l;rw [j.jw] at U;rw [hm,tZ];exact U
 generalize hR:DC P.V o.n data=R at*;have HR:=ah hR;clear hR;have z:abu p w.heap.size c P.d o.n data u.drew:=⟨c0,cn,l1,l2⟩;refine xZ (abu p w.heap.size c P.d o.n data) 8 kr ?_;refine tk 0 z ?_;refine tk 1 z ?_;refine tk 2 z ?_;refine tk 3 z ?_;refine tk 4 z ?_;refine tk 5 z ?_;refine tk 6 z ?_;refine wo 7 fun K7 bm=> ?_;go_simp;go_at_call 26;refine Hw.mono ?_;rintro e i ⟨rfl,C5,L5,s⟩;have A:Hid (dF u i P.v P.Cv P.Lv C5 L5 R.1):=⟨s.at',⟨s.kept.os,s.kept.tape,s.kept.output,s.kept.size,s.kept.block⟩,s.new⟩;have J:=ah ((H.below F).step A);have N: ∀ k,w.heap.size≤k→ ¬ eX P.v P.Cv P.Lv k:=fun k hk hf=>by have:=uh Om k hf;omega
 have X5:=ah (A.kept.aG (N _ (aO _)) X4);have D5:=ah (A.kept.aG (N _ (SN bh)) D4);have F5:=ah (F4.kept A.kept (N _ bf) (fun g a=>N g (uh MI g a)) (fun g a=>by obtain ⟨cs,bX,b⟩:=LG F4.pG a;exact (H.below F).OG b dc dc dc));have bn:=J.c0;have al:i.cell? ⟨w.heap.size,1,none⟩=some (.int .i64 o.n):=(aF X5 1).trans rfl;have aR:dU i c 0 64:=iD D5 l;have a0:dO i c 0 64=cv data:=iC D5 l;have a1:abu p w.heap.size c P.d o.n data i:=⟨bn,al,aR,a0⟩;clear s N;refine bm _ _ (ay a1) ?_;refine wo 8 fun K8 bo=> ?_;go_simp;refine bo _ _ (aA rfl) ?_;refine sH kr ?_ _;clear z a1 l1 l2 cn c0 Hw X4 D4 F4;have bp:=j.jw
 have ad:(((R.2:Nat):Int) == 5)=false∧(GY P.D o.n data).2=R.2∧nI { P with Cv:=C5,Lv:=L5,V:=R.1,D:=(GY P.D o.n data).1 } N0 E∧jo P.V R.1 P.D (GY P.D o.n data).1∨(jY o.n=true∧R=(P.V,5)∧ ∀ R:aU,R.L=P.V.C→R.roots=aH N0 E→Fb P.V.C<Ns R o.n.toNat):=by
  rcases uh HC with ⟨b,Q⟩ | ⟨b,e2,hW⟩ | T
  ·left
   have bq:GY P.D o.n data=(P.D,1):=by unfold GY;rw [ak (by rw [b];decide)]
   rw [Q,bq];exact ⟨rfl,rfl,⟨j.bH,j.jw,j.exact⟩,j.still⟩
  ·left
   rw [avF _ _ _ b,e2];exact ⟨rfl,rfl,⟨hW.bH,by rw [hW.holds,bp],fun hx=>hW.exact (j.exact hx)⟩,uh EL b⟩
  ·exact ay T
 clear HC EL;have bs:=ah j.still;rcases ad with ⟨b4,ab,af,a2⟩ | ⟨b,Q,T⟩
 ·have gq:=ah af;have EL:=ah a2;clear a2;have bt:=ah ab;have a3:=J.c1;clear af ab
  go_wp2_with fail
  have q:abv p w.heap.size c P.y o.n data i.drew:=⟨a3,al,aR,a0⟩;have bR:=H.ref.lt;have Nj:=H.lt _ H.AL;have bw:=ah (fun W=>Ei ((R.2:Nat):Int) W);have TN:=ah (auW i.drew P.y P.Pv P.D (J.ref.below ((bG _ i).drew)) o.n data l);have Xf:=ah (fun (w6:World) (hr:fB w6 P.y P.Pv (GY P.D o.n data).1) (hk:Kept (fun x=>x=P.y) i.drew w6)=>wz.did (w6:=w6) (D':=(GY P.D o.n data).1) H F A ⟨hk.os,hk.tape,hk.output,hk.size,hk.block⟩ hr (fun g a=>aA (H.iI g (aA a))) om);have a4:=J.aiB;have a5:p<i.heap.size:=iL Nj (jL F.size A.kept.size);have bx:=ah (fun (w6:World) (hk:Kept (fun x=>x=P.y) i.drew w6)=>(show abv p w.heap.size c P.y o.n data w6 from
   ⟨(Md (hk.block p a5 a4)).trans a3,(aF (hk.aG (show ¬ w.heap.size=P.y by omega) X5) 1).trans rfl,iD (hk.aG (show ¬ c=P.y by omega) D5) l,iC (hk.aG (show ¬ c=P.y by omega) D5) l⟩))
  clear a4 a5;refine xZ (abv p w.heap.size c P.y o.n data) 11 kr ?_;refine tk 0 q ?_;refine tk 2 q ?_;refine tk 3 q ?_;refine tk 4 q ?_;refine tk 5 q ?_;refine tk 6 q ?_;refine tk 7 q ?_;refine tk 8 q ?_;refine wo 1 fun K1 bA=> ?_;go_simp;go_at_call 64;refine (uh bw _).mono ?_;rintro e b5 ⟨rfl,rfl⟩;refine bA _ _ (ay q) ?_;refine wo 9 fun K9 bB=> ?_;go_simp;go_at_call 118;refine TN.mono ?_;rintro e w6 ⟨rfl,a6,an⟩;have bE:=ah (uh Xf w6 a6 an);have ao:=uh bx w6 an;rw [uh bt];clear a6 an;refine bB _ _ (ay ao) ?_;refine tk 10 ao ?_;refine wo 11 fun b6 a7=> ?_;go_simp;refine a7 _ _ (aA rfl) ?_;refine sH kr ?_ _;clear q ao;go_wp2;go_ret;exact ⟨rfl,_,uh gq,uh EL,_,uh bE⟩
 ·have e2:R.2=5:=by rw [Q]
  have e3:R.1=P.V:=by rw [Q]
  have a8:=Oz b;have a9:0≤o.n:=by unfold jY at b;simp at b;omega
  obtain ⟨K,aq⟩:=Cj a9;have ba:=T (look P.V.C) B k3;rw [aq,tZ] at ba a8;rw [e3] at A J;rw [e2];have r:=wz.did H F A (Kept.refl _ i) J.ref (fun g a=>aA (H.iI g (aA a))) (afA _ _);have bL:=ah r;have gq:Hid (nI { P with Cv:=C5,Lv:=L5,V:=P.V,D:=P.D } N0 E):=⟨j.bH,j.jw,j.exact⟩;have ar:rootOf (look P.V.C) 0=⟨N0,0,[]⟩:=by unfold rootOf;rw [k3];rfl
  have uM:=ah (fun (W:World) (hB:aC i W)=>asX W f fl fr (look P.V.C) (F5.below hB) K a8 (by rw [k3];simp [aH]) (by rw [ar,B];exact av.at') (by
   rw [ar,B]
   by_cases hz:num (cl P.V.C N0) (2*(K / 32))=0
   ·rw [hz];omega
   ·exact av.second (K / 32) om hz) (by rw [B];exact qm))
  have bb:=ah (fun (W:World) (hB:aC i W)=>aiD W f fl fr (look P.V.C) (F5.below hB) (by rw [B];exact qm) (by rw [B];omega));rw [aq] at al b;have bN:=ah (fun W=>Yw (K:Int) W);clear aq a9;have bO:=F5.DX;rw [k1] at bO;rw [B] at bb;have b8:decide ((Fb P.V.C:Int)<(Ns (look P.V.C) K:Int))=true:=by simp;exact ba
  clear r Q e2 e3 T ar
  go_wp2_with fail
  refine (uh bN _).mono ?_;rintro e w6 ⟨rfl,rfl⟩;rw [b]
  go_wp2_with fail
  refine (uh uM _ (bG _ _)).mono ?_;rintro e w7 ⟨rfl,b7⟩;have B7:=ah b7;clear b7
  go_wp2_with fail
  refine (uh bb _ B7).mono ?_;rintro e w8 ⟨rfl,rfl⟩;generalize Fb P.V.C=b9 at*;generalize Ns (look P.V.C) K=ca at*;go_wp2;go_ret;have r:=uh bL;exact ⟨rfl,_,uh gq,uh bs,_,⟨r.at'.below B7,r.base,r.marks,r.ex,r.log,r.kept.trans (Kept.dQ B7),r.new⟩⟩
attribute [local go_sem ↓] jE
structure Qm (w w':World) (b:Nat) (B:nG) (U:Nat→Prop) (V':oM) (B':nG) (U':Nat→Prop) (m:Nat):Prop where
 at':iY w' b V' B' U'
 next:B'.next≤B.next+2
 files:B'.files.length≤B.files.length+4
 writes:B'.writes.length≤B.writes.length+4
 names:B'.names.length≤B.names.length+4
 Vp: ∀ x ∈ B'.files,x ∈ B.files∨x.n≤258
 Vs: ∀ x ∈ B'.writes,x ∈ B.writes∨x.n≤m
 Vq: ∀ x ∈ B'.names,x ∈ B.names∨x.n≤8
 kept:Kept U w w'
 new: ∀ k,U' k→U k∨w.heap.size≤k
def aoU (w:World) (p b:Nat) (P:eP) (S U:Nat→Prop) (N0:Nat) (E:List aW) (V:oM) (B:nG) (h:dL w p P S) (I:nI P N0 E) (z:iY w b V B U) (oZ: ∀ k,S k→ ¬ U k) (hL:P.V.L.length≤900000000) (ao:B.next≤900000000) (aq:B.files.length≤9000000000) (ar:B.writes.length≤9000000000) (o:lM) (hk:o.kind=9):
  Calls Tryz.prog 67 #[.pointer (some ⟨p,0,none⟩),.pointer (some ⟨b,0,none⟩),.agg (dI o).toArray] w fun e w'=>e= .returned (.bool true)∧
   ∃ V' B' U',Qm w w' b B U V' B' U' (P.V.L.length+2):=by
 have a:=I.bH;have h7:=a.file.seven;have qm:=a.file.most;have o7:=a.file.lens;have zB:=h.ig.bH.zZ;have q:aC w (w.alloc (.cells (dI o).toArray 80)):=fC;have F:(w.alloc (.cells (dI o).toArray 80)).heap[w.heap.size]? = some (.cells (dI o).toArray 80 (0,0)):=aX _ _;have ck:(w.alloc (.cells (dI o).toArray 80)).cell? ⟨w.heap.size,0,none⟩=some (.int .i64 9):=by rw [aF F 0,bZ];show some (Value.int .i64 o.kind)=_;rw [hk]
 have c0:=(h.below q).c0;have H:=ah h;have HB:=ah z;have j:=ah q;have aa:=z.lt;have ad:=h.lt;clear h z q F a I
 go_enter Tryz.func67,Tryz.ntmps67
 go_wp2_with fail
 generalize w.alloc (.cells (dI o).toArray 80)=R at*;refine (OD R _ _ _ _ _ (H.below j).ig om om).mono ?_;rintro e w1 ⟨T,rfl,r,b1⟩;have A:=ah (j.trans (b1.mono j.size));have ae:w.heap.size≤R.heap.size:=j.size;have s: ∀ g,T.ownBlock=some g→w.heap.size≤g:=fun g a=>jL ae (r.lt g a).1;have W:=ah (Ba r (lX _));clear b1 j c0 ck r
 go_wp2_with fail
 refine (atT w1 b V B U T P.V.C (HB.below A) W o7 (fun g a hu=>by have:=s g a;have:=aa g hu;omega) om om om).mono ?_;rintro e D ⟨rfl,V2,l,X,t,n2,l2,m,n,Y,Z,s2⟩;have f:Hid (Kept (fun k=>U k∨w.heap.size≤k) w D):=(Kept.dQ A).trans (Z.mono fun k hk=>by
  rcases hk with x | x
  ·exact aA x
  ·exact ay (s k x))
 have H2:=ah (H.kept f (fun k hk hu=>by
  rcases hu with x | x
  ·exact oZ k hk x
  ·have:=ad k hk;omega))
 have af:=ah t;have ag:=H2.c0;have ab:=f.size;have an:=A.size;have J: ∀ k,X k→U k∨w.heap.size≤k:=fun k hk=>by
  rcases s2 k hk with x | x | x
  ·exact aA x
  ·exact ay (s k x)
  ·exact ay om
 have K:=t.lt;have M:=ah J;have ai:=ah K;have al:=ah Y;have He:=ah (And.intro m n);have av:l.next≤B.next+1:=om;have aw:l.files.length≤B.files.length+3:=om;have ax:l.writes.length≤B.writes.length:=by rw [m];exact aO _
 have az:l.names.length≤B.names.length:=by rw [n];exact aO _
 clear t Z s2 J Y m n n2 l2 K W
 go_wp2_with fail
 refine (XO D _ _ _ _ _ H2.ig om).mono ?_;rintro e w3 ⟨lv,rfl,u,b3⟩;have v: ∀ g,lv.ownBlock=some g→D.heap.size≤g:=fun g a=>(u.lt g a).1;have c:=ah b3;have R3:=ah (Ba u (lX _));clear b3 u ag
 go_wp2_with fail
 refine (atV w3 b V2 l X lv P.V.L (af.below c) R3 zB (fun g a hu=>by have:=v g a;have:=uh ai g hu;omega) om om om).mono ?_;rintro e w4 ⟨rfl,V4,B4,U4,N,n4,l4,Us,O,m4,i,s4⟩;have G:Qm w w4 b B U V4 B4 U4 (P.V.L.length+2):=by
  obtain ⟨m,n⟩:=uh He;refine ⟨N,om,by rw [Us];omega,om,by rw [O];omega,fun x d=> ?_,fun x d=> ?_,fun x d=>aA (by rw [O,n] at d;exact d),?_,fun k hk=> ?_⟩
  ·rw [Us] at d;rcases uh al x d with y | y
   ·exact aA y
   ·exact ay om
  ·rcases m4 x d with y | y
   ·exact aA (by rw [← m];exact y)
   ·exact ay y
  ·refine ⟨i.os.trans (c.os.trans f.os),i.tape.trans (c.tape.trans f.tape),i.output.trans (c.output.trans f.output),jL ab (jL c.size i.size),fun k hk Q=> ?_⟩;rw [i.block k (by have:=c.size;omega) (fun hu=> ?_),c.block k om,f.block k hk (fun hu=>by
    rcases hu with x | x
    ·exact Q x
    ·omega)]
   rcases hu with x | x
   ·rcases uh M k x with y | y
    ·exact Q y
    ·omega
   ·have:=v k x;omega
  ·rcases s4 k hk with x | x | x
   ·exact uh M k x
   ·have:=v k x;exact ay om
   ·have:=c.size;exact ay om
 have CO:=ah G;clear G N i s4 m4;go_wp2;go_ret;exact ⟨rfl,_,_,_,uh CO⟩
end
end Go.Proofs.YtknjjjenklfeoaaGreatDoor
