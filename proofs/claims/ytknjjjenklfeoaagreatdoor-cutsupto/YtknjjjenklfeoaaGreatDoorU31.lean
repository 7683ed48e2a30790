import Derived.Test.YtknjjjenklfeoaaGreatDoorU30
set_option maxHeartbeats 8000000
set_option maxRecDepth 100000
set_option linter.all false
namespace Go.Proofs.YtknjjjenklfeoaaGreatDoor
open Go.RowKit
section
attribute [local go_sem ↓] dw fP fV Np PS Qa OB Ut Yy Xt XT Xv
attribute [local go_sem] dM fO fU gW gB aV NM PI PK RZ Zw Zt Si
def Ep (D:dR) (s:ByteArray):dR × Nat:=
 if nZ s.data.toList=false then (D,2) else if 0≤yL D s then (D,3) else if 4≤D.L.length then (D,5) else (⟨D.C,D.L++[⟨s.data.toList,D.C⟩]⟩,0)
structure DStep (w w':World) (d:Nat) (Pv Qv:Value) (D':dR):Prop where
 at':fB w' d Qv D'
 kept:Kept (fun x=>x=d∨Pv.ownBlock=some x) w w'
 new: ∀ g,Qv.ownBlock=some g→Pv.ownBlock=some g∨w.heap.size≤g
def DStep.refl {w:World} {d:Nat} {Pv:Value} {D:dR} (h:fB w d Pv D):DStep w w d Pv Pv D:=⟨h,Kept.refl _ _,fun _ a=>aA a⟩
def auV (w:World) (d:Nat) (Pv:Value) (D:dR) (h:fB w d Pv D) (I:D.L.length≤1000) (s:ByteArray) (hs:s.size≤maxLen):
  Calls Tryz.prog 119 #[.pointer (some ⟨d,0,none⟩),.string s] w fun e Y=>e= .returned (.int .i64 ((Ep D s).2:Nat))∧ ∃ Z,DStep w Y d Pv Z (Ep D s).1:=by
 have q:=ah (ade s w hs);have r:=ah (aeh w d Pv D h I s);have j:Hid (Ep D s=if nZ s.data.toList=false then (D,2) else if 0≤yL D s then (D,3) else if 4≤D.L.length then (D,5) else (⟨D.C,D.L++[⟨s.data.toList,D.C⟩]⟩,0)):=rfl;generalize nZ s.data.toList=b at*;generalize yL D s=f at*;have H:=ah h;cases b with
 | false=>
  rw [au rfl] at j;clear h
  go_enter Tryz.func119,Tryz.ntmps119
  go_wp2_with fail
  refine q.mono ?_;rintro e y ⟨rfl,rfl⟩;go_wp2;go_ret;rw [uh j];exact ⟨rfl,_,DStep.refl H⟩
 | true=>
  rw [ak dc] at j
  by_cases u:0≤f
  ·rw [au u] at j;have df:decide (f≥0)=true:=dZ u;clear h
   go_enter Tryz.func119,Tryz.ntmps119
   go_wp2_with fail
   refine q.mono ?_;rintro e y ⟨rfl,rfl⟩
   go_wp2_with fail
   refine r.mono ?_;rintro e c ⟨rfl,rfl⟩;go_wp2;go_ret;rw [uh j];exact ⟨rfl,_,DStep.refl H⟩
  ·rw [ak u] at j;have df:decide (f≥0)=false:=gK u;obtain ⟨C,L⟩:=D;obtain ⟨a,cap,Df⟩:=gQ h.row;subst Df;simp only at I j;have c0:w.cell? ⟨d,4096,none⟩=some (.slice a L.length cap):=h.xE
   by_cases J:4≤L.length
   ·rw [au J] at j;have dl:decide (((L.length:Nat):Int)≥4)=true:=dZ om;clear h
    go_enter Tryz.func119,Tryz.ntmps119
    go_wp2_with fail
    refine q.mono ?_;rintro e y ⟨rfl,rfl⟩
    go_wp2_with fail
    refine r.mono ?_;rintro e c ⟨rfl,rfl⟩;go_wp2;go_ret;rw [uh j];exact ⟨rfl,_,DStep.refl H⟩
   ·rw [ak J] at j;have dl:decide (((L.length:Nat):Int)≥4)=false:=gK om;obtain ⟨i0,Q,R,T,U⟩:=qw Tryz.Yu;have l1:dU w.drew d 0 4096:=h.has;have l2:dO w.drew d 0 4096=aS C:=h.cells;have hA:=h.cont.all;have JF:=h.cont.len;have B:uJ (⟨s.data.toList,C⟩:kD).C:=h.cont;have c1:w.drew.cell? ⟨d,4096,none⟩=some (.slice a L.length cap):=h.xE;have c3: ∀ o,(w.alloc o).drew.cell? ⟨d,4096,none⟩=some (.slice a L.length cap):=fun o=>(NY w o _ h.lt).trans h.xE;have W:=Si (w:=w.drew) (nm:=s.data.toList) hA JF;rw [afg] at W;have v:=h.row;simp only at v;have fA:=ah v;have z:=ah h.neP;have aa:=h.lt;clear v h
    go_enter Tryz.func119,Tryz.ntmps119
    go_wp2_with fail
    refine q.mono ?_;rintro e y ⟨rfl,rfl⟩
    go_wp2_with fail
    refine r.mono ?_;rintro e c ⟨rfl,rfl⟩;clear q r;go_wp2
    go_region_law (
     refine JZ _ (by rfl) _ _ _ (by rfl) 0 139 i0 _ 4097 4112 Tryz.underlying68 Q R T U (by rw [show (Value.agg (gu ⟨[],zD⟩).toArray).cells.size=(gu ⟨[],zD⟩).length from by simp [Value.cells]];exact zJ (p:=⟨[],zD⟩) ⟨NV,NW⟩) om (.slice a L.length cap) L.length (L.flatMap gu) (by rfl) ((bV (S:=fun _=>False) ((Kept.refl _ c).drew) fA (fun _ _=>id)).alloc _) ⟨c.heap.size,0,none⟩ 1 1 (gu ⟨s.data.toList,C⟩) (by rfl) (by rw [zJ B]) (pJ (cs:=(gu ⟨s.data.toList,C⟩).toArray) (t:=139) (fr:=(0,0)) (aX c.drew _)) (Zd ⟨s.data.toList,C⟩) om (by unfold maxLen;omega) om om (c.heap.size+1) sm ?_;intro g5 cap5 m A l F uP;have K:=ah (qW l (H.below (((bG _ c).drew).alloc (aO _) _)).aG z);have c5:m.cell? ⟨d,4096,none⟩=some (.slice a L.length cap):=(aF K 4096).trans (by rw [← aF H.aG];exact H.xE);have z5: ∀ i,m.frozen? ⟨d,i,none⟩=false:=fun i=>eY K i)
    all_goals
     have X:g5≠d:=by
      rcases F with x | x
      ·exact uh z g5 x
      ·omega
     have G:fB (m.setCell ⟨d,4096,none⟩ (.slice (some ⟨g5,0,none⟩) (L.length+1) cap5)) d (.slice (some ⟨g5,0,none⟩) (L.length+1) cap5) ⟨C,L++[⟨s.data.toList,C⟩]⟩:=
      (H.below (((bG _ c).drew).alloc (aO _) (.cells (gu ⟨s.data.toList,C⟩).toArray 139))).acK (g5:=g5) (cap5:=cap5) B z l A X
     have M:Kept (fun x=>x=d∨(Value.slice a L.length cap).ownBlock=some x) c (c.drew.alloc (.cells (gu ⟨s.data.toList,C⟩).toArray 139)):=((Kept.refl _ _).drew).alloc _;have N:Kept (fun x=>x=d∨(Value.slice a L.length cap).ownBlock=some x) (c.drew.alloc (.cells (gu ⟨s.data.toList,C⟩).toArray 139)) m:=⟨l.os,l.tape,l.output,l.size,fun k hk hs=>l.block k hk (fun e=>hs (ay e.symm))⟩;have O:Kept (fun x=>x=d∨(Value.slice a L.length cap).ownBlock=some x) m (m.setCell ⟨d,4096,none⟩ (.slice (some ⟨g5,0,none⟩) (L.length+1) cap5)):=(Kept.only m d 4096 _).mono (fun _ e=>aA e);have HS:Hid (DStep c (m.setCell ⟨d,4096,none⟩ (.slice (some ⟨g5,0,none⟩) (L.length+1) cap5)) d (.slice a L.length cap) (.slice (some ⟨g5,0,none⟩) (L.length+1) cap5) ⟨C,L++[⟨s.data.toList,C⟩]⟩):=
      ⟨G,(M.trans N).trans O,fun g P=>by
       simp only [Value.ownBlock,jH] at P;subst P;rcases F with x | x
       ·exact aA x
       ·exact ay om⟩
     clear G l A M N O;go_wp2;go_ret;rw [uh j];exact ⟨rfl,_,uh HS⟩
def fB.asY {w:World} {d:Nat} {Pv a:Value} {C:List aj} {L L':List kD} (h:fB w d Pv ⟨C,L⟩) (c:w.ownsRow 0 139 4097 a L'.length (L'.flatMap gu)) (j: ∀ p ∈ L',uJ p.C) (e: ∀ g,a.ownBlock=some g→g≠d):
  fB (w.setCell ⟨d,4096,none⟩ a) d a ⟨C,L'⟩:=by
 have hk:Kept (fun x=>x=d) w (w.setCell ⟨d,4096,none⟩ a):=Kept.only _ _ _ _;refine ⟨?_,bV hk c e,h.cont,j⟩;rw [heap_setCell_same _ _ _ _ _ _ _ h.aG]
 congr 2
 have b:=h.cont.flat;simp only at b;show (aS C++[Pv]).toArray.setIfInBounds 4096 a=(aS C++[a]).toArray;rw [Bh,J7 _ _ om,b];rfl
def CZ (L:List kD) (a k:Nat):List kD:=(L.take k).eraseIdx a
def aqy (L:List kD) (a:Nat) (b:a<L.length):CZ L a (a+1)=CZ L a a:=by
 unfold CZ;have e:(L.take a).length=a:=by simp;omega
 have c:(L.take a++[L[a]]).eraseIdx a=L.take a:=by
  rw [anz om,show a - (L.take a).length=0 by omega]
  simp
 have d:(L.take a).eraseIdx a=L.take a:=afx om;rw [x9 b,c,d]
def aqw (L:List kD) (a k:Nat) (hk:k<L.length) (c:k≠a):CZ L a (k+1)=CZ L a k++[iU L k]:=by
 unfold CZ;have d:(L.take k).length=k:=by simp;omega
 have b:iU L k=L[k]:=by unfold iU;rw [aN,bJ hk];rfl
 rw [x9 hk,b]
 by_cases h:a<k
 ·rw [anA om]
 ·rw [anz om,afx (l:=L.take k) om,afx (by simp;omega)]
def aqx (L:List kD) (a k:Nat):(CZ L a k).length≤k:=by
 have:=List.length_eraseIdx_le (L.take k) a
 unfold CZ;simp only [yg] at this;omega
structure WR (w w':World) (d:Nat) (Pv Qv:Value) (D':dR):Prop where
 at':fB w' d Qv D'
 kept:Kept (fun x=>x=d) w w'
 new: ∀ g,Qv.ownBlock=some g→Pv.ownBlock=some g∨w.heap.size≤g
def A8 (D:dR) (s:ByteArray):dR × Nat:=if (qh D s).2=0 then (⟨D.C,D.L.eraseIdx (qh D s).1.toNat⟩,0) else (D,(qh D s).2)
def auO (w:World) (d:Nat) (Pv:Value) (D:dR) (h:fB w d Pv D) (O:D.L.length≤1000) (s:ByteArray) (hs:s.size≤maxLen):
  Calls Tryz.prog 65 #[.pointer (some ⟨d,0,none⟩),.string s] w fun e y=>e= .returned (.int .i64 ((A8 D s).2:Nat))∧ ∃ Qv,WR w y d Pv Qv (A8 D s).1:=by
 obtain ⟨C,L⟩:=D;have l:=ah (ae1 w d Pv ⟨C,L⟩ h O s hs);have H:=ah h;obtain ⟨a,cap,Df⟩:=gQ h.row;subst Df;simp only at O;have ae:=h.lt;have o:Hid (A8 ⟨C,L⟩ s=if (qh ⟨C,L⟩ s).2=0 then (⟨C,L.eraseIdx (qh ⟨C,L⟩ s).1.toNat⟩,0) else (⟨C,L⟩,(qh ⟨C,L⟩ s).2)):=rfl;clear h;rcases (show (∃ m,m≠0∧qh ⟨C,L⟩ s=(-1,m))∨ ∃ i,i<L.length∧qh ⟨C,L⟩ s=(((i:Nat):Int),0) by
  rcases ae0 ⟨C,L⟩ s with (e | e) | ⟨i,hi,e⟩
  ·exact aA ⟨2,dc,e⟩
  ·exact aA ⟨4,dc,e⟩
  ·exact ay ⟨i,hi,e⟩) with ⟨m,hm,e⟩ | ⟨i,hi,e⟩
 ·rw [e,ak hm] at o;rw [e] at l;dsimp only at l o;have d0:(((m:Nat):Int) != 0)=true:=by rw [ou];omega
  clear e
  go_enter Tryz.func65,Tryz.ntmps65
  go_wp2_with fail
  refine l.mono ?_;rintro e P ⟨rfl,r⟩;have J:Hid (WR w P d (.slice a L.length cap) (.slice a L.length cap) ⟨C,L⟩):=⟨H.below r,Kept.dQ r,fun g v=>aA v⟩;clear r l;go_wp2;go_ret;rw [uh o];exact ⟨rfl,_,uh J⟩
 ·rw [e,au rfl] at o;rw [e] at l;dsimp only at l o;rw [tZ] at o;obtain ⟨i0,X,Y,Z,aa⟩:=qw Tryz.Yu;obtain ⟨K,W,Q,_⟩:=gy H.row (show 0<L.length by omega);obtain ⟨rfl,rfl⟩:a=some ⟨K,0,none⟩∧cap=W:=by injection Q with x1 x2 x3;exact ⟨x1,x3⟩
  clear e Q
  go_enter Tryz.func65,Tryz.ntmps65
  go_wp2_with fail
  refine l.mono ?_;rintro e P ⟨rfl,r⟩;have B1:=ah r;clear r l;go_wp2
  go_loopw [7,8] (fun f j y=> ∃ k:Nat,k≤L.length∧j= .int .i64 k∧y.ownsRow w.heap.size 139 4097 f (CZ L i k).length ((CZ L i k).flatMap gu)∧aC w y) (fun _ j _=>L.length - (intOf j).toNat)
  case atStart=>exact ⟨0,om,rfl,by rw [show CZ L i 0=[] by simp [CZ]];exact wH _ _ _ _,uh B1⟩
  case round=>
   obtain ⟨k,hk,rfl,b,q⟩:=hrel;obtain ⟨z,A,rfl⟩:=gQ b;have c:=H.below q;have c0:wr.cell? ⟨d,4096,none⟩=some (.slice (some ⟨K,0,none⟩) L.length cap):=c.xE;have ab:=aqx L i k
   by_cases x:k<L.length
   ·have af:(k:Int)<(L.length:Int):=om
    by_cases R:k=i
    ·subst R;have dn:(((k:Nat):Int) != ((k:Nat):Int))=false:=sm;have hs:=aqy L k x;have B:=ah b;have u:=ah q;clear b q c;go_wp2;go_roundw
     case rel=>exact ⟨k+1,om,gn,by rw [hs];exact uh B,uh u⟩
     case measure=>exact bW
    ·have dn:(((k:Nat):Int) != ((i:Nat):Int))=true:=by rw [ou];omega
     have rg:=NC c.row c.zK k x;have I:=c.zK _ (Nz x);have m1:=sU (n:=4097) rg (zJ I);have m2:=qU (n:=4097) rg (zJ I);have hs:=aqw L i k x R;generalize iU L k=G at*;have B:=ah b;have u:=ah q;clear b q c rg;generalize CZ L i k=F at*
     go_wp2_with (at_builtin;refine yc _ rfl _ _ _ rfl w.heap.size 139 i0 _ 4097 4112 Tryz.underlying68 X Y Z aa (by rw [show (Value.agg (gu ⟨[],zD⟩).toArray).cells.size=(gu ⟨[],zD⟩).length from by simp [Value.cells]];exact zJ (p:=⟨[],zD⟩) ⟨NV,NW⟩) om (.slice z F.length A) F.length (F.flatMap gu) rfl (B.alloc _) ⟨wr.heap.size,0,none⟩ 1 1 (gu G) rfl (by rw [zJ I]) (pJ (cs:=(gu G).toArray) (t:=139) (fr:=(0,0)) (aX wr _)) (Zd G) om (by unfold maxLen;omega) om (by have:=u.size;simp;omega) (wr.heap.size+1) sm ?_;intro g5 cap5 w5 T U ag uP)
     have S5:=ah ((u.alloc u.size (.cells (gu G).toArray 139)).grown U (by have:=u.size;simp;omega) (fun k hk=>(B.lt k hk).1));go_roundw
     case rel=>exact ⟨k+1,om,gn,by rw [hs,oL,Td,qx,Qi,sN];exact T,uh S5⟩
     case measure=>exact bW
   ·have ad:k=L.length:=om;have S:CZ L i k=L.eraseIdx i:=by unfold CZ;rw [ad,H7]
    rw [S] at b ⊢;have M: ∀ g,(Value.slice z (L.eraseIdx i).length A).ownBlock=some g→g≠d:=fun g v=>by have:=(b.lt g v).1;omega
    have f0:=fun j=>eY c.aG j;have N:=c.asY (Ba b (lX _)) (fun p hp=>c.zK p (aaM hp)) M;have J:Hid (WR w (wr.setCell ⟨d,4096,none⟩ (.slice z (L.eraseIdx i).length A)) d (.slice (some ⟨K,0,none⟩) L.length cap) (.slice z (L.eraseIdx i).length A) ⟨C,L.eraseIdx i⟩):=
     ⟨N,(Kept.dQ q).trans (Kept.only wr d 4096 _),fun g v=>ay (b.lt g v).1⟩
    clear N c b q S ab M;generalize (L.eraseIdx i).length=nl at*;go_wp2;go_ret;rw [uh o];exact ⟨rfl,_,uh J⟩
end
section
section
variable {base:List aj} {V:aB} {N0:Nat} {E:List aW} {s:ByteArray}
def aY.iR (h:aY base V N0 E):aZ (cl V.C 5)=jy E∧lenOf (aZ (cl V.C 5))=E.length:=by
 rw [h.file.list,h.file.iR.aZ];exact ⟨rfl,h.file.iR.lenOf⟩
def amV {a b:List UInt8} (h:bM a=bM b):a=b:=by
 have:=H9 (fun x:ByteArray=>x.data.toList) h
 simpa [bM] using this
def ahV (L:List aj) (k:Nat) (hk:k<E.length):(iU (bD L N0 E).L k).name=((jy E).getD k ze).name∧(iU (bD L N0 E).L k).C=eu L ((jy E).getD k ze).first:=by
 rw [Ej k hk];unfold iU;rw [QJ,aN,aN,jK,bJ hk];exact ⟨rfl,rfl⟩
def aii (L:List aj): ∀ m k,k+m=E.length→BO (bD L N0 E).L s m k=yD (jy E) s m k
 | 0,_,_=>rfl
 | m+1,k,h=>by
  rw [BO,yD,(ahV L k om).1,aii L m (k+1) om]
def Jw (L:List aj):(bD L N0 E).L.length=E.length:=by rw [QJ,tY]
def aY.find (h:aY base V N0 E):yL (bD V.C N0 E) s=rY (aZ (cl V.C 5)) s:=by
 unfold yL rY;rw [h.iR.2,h.iR.1,Jw];exact aii V.C E.length 0 om
def aie: ∀ m k,k+m=E.length→yD (jy E) s m k<0→ ∀ j,k≤j→j<E.length→((jy E).getD j ze).name≠s.data.toList
 | 0,k,h,_,j,c,b=>om
 | m+1,k,h,a,j,c,b=>by
  rw [yD] at a
  split at a
  ·omega
  ·rename_i hn
   by_cases e:k=j
   ·subst e;intro he;exact hn (by rw [he];exact afg s)
   ·exact aie m (k+1) om a j om b
def aY.fresh (h:aY base V N0 E) (a:rY (aZ (cl V.C 5)) s<0):s.data.toList ∉ E.map (·.name):=by
 unfold rY at a;rw [h.iR.2,h.iR.1] at a;intro hm;obtain ⟨e,he,b⟩:=gY.1 hm;obtain ⟨j,hj,rfl⟩:=Tf he
 have:=aie E.length 0 om a j om hj
 rw [Ej j hj,aN,bJ hj] at this;exact this b
def aY.there (h:aY base V N0 E):(∃ m,m≠0∧m≠5∧oz V s=(0,m)∧qh (bD V.C N0 E) s=(-1,m))∨ ∃ i,i<E.length∧oz V s=(((i:Nat):Int),0)∧qh (bD V.C N0 E) s=(((i:Nat):Int),0)∧yL (bD V.C N0 E) s=(i:Int):=by
 unfold qh oz;rw [h.find]
 by_cases hn:nZ s.data.toList=false
 ·rw [au hn,au hn];exact aA ⟨2,dc,dc,rfl,rfl⟩
 ·rw [ak hn,ak hn]
  by_cases a:rY (aZ (cl V.C 5)) s<0
  ·rw [au a,au a];exact aA ⟨4,dc,dc,rfl,rfl⟩
  ·rw [ak a,ak a];obtain ⟨i,_,b,c⟩:=acA (aZ (cl V.C 5)) s (lenOf (aZ (cl V.C 5))) 0 (by unfold rY at a;omega);have d:rY (aZ (cl V.C 5)) s=(i:Int):=c;rw [d];exact ay ⟨i,by rw [h.iR.2] at b;omega,rfl,rfl,rfl⟩
def ak9 (e:aW) (h:E.length<4):(jy E).set E.length e=jy (E++[e]):=by
 unfold jy;rw [J7 _ _ (aO _),Bg,show 4 - E.length=(4 - (E++[e]).length)+1 by simp;omega,Wu,oq,tV];rfl
def atZ (i:Nat) (hi:i<E.length) (a:E.length≤4):jJ (jy E) i=jy (E.eraseIdx i):=by
 unfold jJ jy;rw [anA hi,tV]
 congr 1
 have:(E.eraseIdx i).length=E.length - 1:=by rw [List.length_eraseIdx,au hi]
 rw [this,show 4 - (E.length - 1)=(4 - E.length)+1 by omega,LV]
def alX (L:List aj) (M:List Nat): ∀ m n,JQ L M m n=true↔ ∀ j,n≤j→j<n+m→aQ L j+M.getD j 0≤254
 | 0,n=>by simp [JQ];intro j a b;omega
 | m+1,n=>by
  rw [JQ]
  by_cases c:254<aQ L n+M.getD n 0
  ·rw [au c];constructor
   ·intro h;cases h
   ·intro h;have:=h n om om;omega
  ·rw [ak c,alX L M m (n+1)];constructor
   ·intro h j a b
    by_cases e:n=j
    ·subst e;omega
    ·exact h j om om
   ·intro h j a b;exact h j om om
def ag8 (M:List Nat) (n m:Nat) (hn:n<M.length):(bump M n).getD m 0=M.getD m 0+if n=m then 1 else 0:=by
 unfold bump;rw [aN,uI]
 by_cases e:n=m
 ·subst e;rw [au rfl,au hn,au rfl,LZ]
 ·rw [ak e,ak e,aN];rfl
def amv (f:Nat→Nat): ∀ m k,tC f (m+1) k=tC f m k+f (k+m)
 | 0,k=>by simp [tC]
 | m+1,k=>by
  rw [tC,amv f m (k+1),tC,show k+1+m=k+(m+1) by omega];omega
def akz (L:List aj) (t:Nat) (M:List Nat) (a:M.length=256) (n:Nat): ∀ k,k≤32→(∀ q,q<k→nm L t q≠0→nm L t q%32768<256)→(AU L t M k).getD n 0=M.getD n 0+tC (fun q=>iT (nm L t q) n) k 0
 | 0,_,_=>by simp [AU,tC]
 | k+1,hk,b=>by
  have ih:=akz L t M a n k om (fun q h=>b q om);rw [AU,amv]
  by_cases h0:num (cl L t) (2*k)=0
  ·rw [au h0,ih]
   have:iT (nm L t (0+k)) n=0:=by rw [rE];unfold nm;rw [h0,UW]
   rw [this];omega
  ·rw [ak h0,ag8 _ _ _ (by rw [Vy,a];exact b k om h0),ih]
   have:iT (nm L t (0+k)) n=if num (cl L t) (2*k)%32768=n then 1 else 0:=by
    rw [rE]
    by_cases e:num (cl L t) (2*k)%32768=n
    ·rw [au e];exact IL h0 e
    ·rw [ak e];unfold iT;rw [ak (fun z=>e z.2)]
   rw [this];omega
def dH.more {L:List aj} {rs:List bI} (h:dH L rs) {r:bI} (hr:r ∈ rs) (n:Nat):(zG L r.N 2).getD n 0=oh L r.N 0 n+oh L r.N 1 n:=by
 have hlen:=h.len;have step: ∀ i,i<2→(zG L r.N (i+1)).getD n 0=(zG L r.N i).getD n 0+oh L r.N i n:=by
  intro i hi;rw [zG];unfold oh
  by_cases h0:num (cl L r.N) (2*i)=0
  ·rw [au h0,au h0];rfl
  ·rw [ak h0,ak h0];have a:fD L rs (nm L r.N i%32768):=⟨r,hr,i,hi,h0,rfl⟩;have hs:=h.sec _ a;have b:num (cl L r.N) (2*i)%32768<256:=iL hs.2 hlen;rw [akz L _ _ (by rw [QG];exact Ro L r.N i) n 32 (aO _) (fun q c d=>iL (h.Ad (ay a) q c d).2 hlen),ag8 _ _ _ (by rw [Ro];exact b)]
   have:iT (nm L r.N i) n=if num (cl L r.N) (2*i)%32768=n then 1 else 0:=by
    by_cases e:num (cl L r.N) (2*i)%32768=n
    ·rw [au e];exact IL h0 e
    ·rw [ak e];unfold iT;rw [ak (fun z=>e z.2)]
   rw [this];unfold zC;exact LW _ _ _
 rw [step 1 om,step 0 om]
 have:(zG L r.N 0).getD n 0=0:=by have:=anc n;show zI.getD n 0=0;omega
 omega
def aY.room (h:aY base V N0 E) {f:Nat} (p:f ∈ (aH N0 E).map (·.N)):Du V.C f=true↔(0<(dD (aJ V.C) 1).length∧oH (aJ V.C) (jA V.C f)=true):=by
 obtain ⟨r,hr,rfl⟩:=gY.1 p;obtain ⟨q,g⟩:=h.ok.Gu rfl;have hlen:=h.sound.len;have a: ∀ u ∈ jA V.C r.N,u<V.C.length:=fun u hu=>(h.sound.acU hr u (cO.2 (ay hu))).2;have o:0<Fb V.C↔0<(dD (aJ V.C) 1).length:=by
  constructor
  ·intro t
   by_cases b:0<(dD (aJ V.C) 1).length
   ·exact b
   ·have:=acJ h.sound h.file.lens 1 om;omega
  ·intro b;obtain ⟨n,_,hn,h0⟩:=Nq b;rw [h.sound.aiC h.file.lens];have key: ∀ k,n<k→0<bF (fun m=>aI (aJ V.C) m == 0) k:=by
    intro k
    induction k with
    | zero=>intro h;omega
    | succ k ih=>
     intro hk;rw [bF]
     by_cases e:n=k
     ·subst e;rw [au (by simp [h0])];omega
     ·have:=ih om;omega
   exact key 256 hn
 unfold Du;rw [wI,DI,o,alX,acE _ _ (fun u hu=>by rw [q];have:=a u hu;omega)];constructor
 ·rintro ⟨c,d⟩;refine ⟨d,fun u hu=> ?_⟩;have l:=c u om (by have:=a u hu;omega);rw [h.sound.more hr,← XH (h.sound.zero r hr)] at l;rw [g u (by have:=a u hu;omega)];exact l
 ·rintro ⟨c,d⟩;refine ⟨fun j _ hj=> ?_,c⟩;rw [h.sound.more hr,← XH (h.sound.zero r hr)]
  by_cases hm:j ∈ jA V.C r.N
  ·have:=d j hm
   rw [g j om] at this;exact this
  ·rw [H8.2 hm]
   have:=h.sound.top j om
   omega
end
section
variable {base:List aj} {V:aB} {N0:Nat} {E:List aW} {s:ByteArray} {f n i:Nat}
def aY.ahJ (h:aY base V N0 E) (a:f ∈ (aH N0 E).map (·.N)) (hn:n<256) (h0:aQ V.C n=0) (b:oH (aJ V.C) (jA V.C f)=true):(copyV V f n).L.length≤V.L.length+21∧V.L.length≤(copyV V f n).L.length:=by
 obtain ⟨c,_⟩:=h.ab6 a hn;obtain ⟨d,_⟩:=h.copied a hn h0 b;have m:=(Zj V f n).zZ;have o:=ajQ V [n];obtain ⟨_,_,_,e,_⟩:=h.longer [n] (by rw [O6];exact hn);obtain ⟨r,hr,rfl⟩:=gY.1 a;have p:=h.sound.fst r hr;have g:=QK (dS V [n]) (EU (dS V [n]).C r.N);have q:(EU (dS V [n]).C r.N).length≤3:=by
  unfold EU;rw [e r.N om,tY,iO]
  have:=amJ (cl V.C r.N) (fun i j k=>h.sound.zero r hr i j k)
  omega
 rw [← c] at g;have l:=QK (jP V r.N n) (jv (sS V.C r.N n)++[(n,cl (jP V r.N n).C r.N)]);rw [← d] at l;have t:(jv (sS V.C r.N n)++[(n,cl (jP V r.N n).C r.N)]).length=5:=rfl;omega
def aY.Ac (h:aY base V N0 E):num (cl V.C 0) 6=N0:=h.file.Ac
def aY.NK (a:aY base V N0 E):N0 ∈ (aH N0 E).map (·.N):=by simp [aH]
def aY.Dv (b:aY base V N0 E) (hi:i<E.length):(E.getD i ze).first ∈ (aH N0 E).map (·.N):=by
 have a:(E.getD i ze)=E[i]:=by rw [aN,bJ hi];rfl
 rw [a];exact gY.2 ⟨lU E[i],Dx.2 (ay ⟨_,o9 hi,rfl⟩),rfl⟩
def aY.jf (h:aY base V N0 E) (hi:i<E.length) (he:oz V s=(((i:Nat):Int),0)):jf V s=(E.getD i ze).first:=by
 unfold Go.Proofs.YtknjjjenklfeoaaGreatDoor.jf;rw [he,h.iR.1];show ((jy E).getD i ze).first=_;rw [Ej i hi]
def aY.Uj (h:aY base V N0 E) (d:f ∈ (aH N0 E).map (·.N)) (hr:Du V.C f=true): ∃ n,n<256∧aQ V.C n=0∧oH (aJ V.C) (jA V.C f)=true∧iH V f=(copyV V f n,n,0):=by
 obtain ⟨b,c⟩:=(h.room d).1 hr;obtain ⟨n,hn,a,h0⟩:=Nq b;obtain ⟨g,e⟩:=h.ok.Gu rfl;refine ⟨n,a,by rw [← e n a];exact h0,c,?_⟩;unfold iH;rw [au ⟨b,c⟩,hn,EG]
def aY.Ui (h:aY base V N0 E) (a:f ∈ (aH N0 E).map (·.N)) (hr:Du V.C f=false):iH V f=(V,0,5):=by
 unfold iH;rw [ak (fun x=>by rw [(h.room a).2 x] at hr;cases hr)]
def aY.amC (h:aY base V N0 E) (s:ByteArray):
  (∃ c,c≠0∧vP V s=(V,c)∧Ep (bD V.C N0 E) s=(bD V.C N0 E,c))∨
   ((Ep (bD V.C N0 E) s).2=0∧Du V.C N0=false∧vP V s=(V,5))∨
   ((Ep (bD V.C N0 E) s).2=0∧Du V.C N0=true∧(vP V s).2=0∧(vP V s).1.L.length≤V.L.length+100∧V.L.length≤(vP V s).1.L.length∧ ∃ o,Qn base V N0 E (vP V s).1 N0 o (Ep (bD V.C N0 E) s).1):=by
 have r:=h.file.iR.len;unfold vP Ep;rw [h.find,Jw,h.iR.2,h.iR.1,h.Ac]
 by_cases a:nZ s.data.toList=false
 ·rw [au a,au a];exact aA ⟨2,dc,rfl,rfl⟩
 rw [ak a,ak a];have j:nZ s.data.toList=true:=by cases e:nZ s.data.toList;exact absurd e a;rfl
 by_cases b:0≤rY (jy E) s
 ·rw [au b,au b];exact aA ⟨3,dc,rfl,rfl⟩
 rw [ak b,ak b]
 by_cases k:E.length=4
 ·rw [au k,au (show 4≤E.length by omega)];exact aA ⟨5,dc,rfl,rfl⟩
 rw [ak k,ak (show ¬ 4≤E.length by omega)]
 right
 cases hr:Du V.C N0 with
 | false=>
  left
  rw [h.Ui h.NK hr];exact ⟨rfl,rfl,rfl⟩
 | true=>
  right
  obtain ⟨n,hn,h0,d,e⟩:=h.Uj h.NK hr;have g:=h.fresh (s:=s) (by rw [h.iR.1];omega);have t:=h.sound.Fe hn h0;have m:=h.file.iR.snoc j g om (show n≠0 by omega) om;obtain ⟨t1,t2⟩:=h.take j g om hn h0 d;have u:=h.ahJ h.NK hn h0 d;have l:=QK (copyV V N0 n) [(5,og (E++[⟨s.data.toList,n⟩]))];rw [← t1] at l;have p:=(NH (iJ.refl (copyV V N0 n)) [(5,og (E++[⟨s.data.toList,n⟩]))]).zZ;rw [← t1] at p;simp only [iO,vV] at l;have q:fF (bQ (copyV V N0 n) 5 (mJ ((jy E).set E.length ⟨s.data.toList,n⟩) 4))=G7 V N0 n (E++[⟨s.data.toList,n⟩]):=by
   rw [ak9 _ om,m.Uh];rfl
  rw [e,au rfl];dsimp only;rw [q];generalize G7 V N0 n (E++[⟨s.data.toList,n⟩])=W at*;refine ⟨rfl,rfl,rfl,om,om,E++[⟨s.data.toList,n⟩],t2.bH,?_,t2.exact⟩;rw [t2.holds];rfl
def Ok.goes {W:aB} {T a:Nat} {b:List aW} {D:dR} (ok:Ok W.C T a b D) (d:W.C.length=T) (hs:dH W.C (aH N0 E)) (e:f ∈ (aH N0 E).map (·.N)) (h:Lets W a b (mF W.C f)):J9 W f:=by
 refine ⟨hs.len,hs.BF e,fun g c=> ?_⟩;obtain ⟨o1,o2,_⟩:=ok.Nl d h;have s1:=o1.sound;rw [sG o2] at s1;rw [o1.yE] at c;exact s1.BF c
def aY.Aw (h:aY base V N0 E) (hi:i<E.length):Aw V i=y9 V (E.eraseIdx i):=by
 unfold Go.Proofs.YtknjjjenklfeoaaGreatDoor.Aw;rw [h.iR.1,atZ i hi h.file.iR.len,(h.file.iR.erase i).Uh];rfl
def aY.aqo (h:aY base V N0 E) (he:(oz V s).2=0):J9 (Go.Proofs.YtknjjjenklfeoaaGreatDoor.Aw V (oz V s).1.toNat) (Go.Proofs.YtknjjjenklfeoaaGreatDoor.jf V s):=by
 rcases h.there (s:=s) with ⟨m,hm,_,e,_⟩ | ⟨i,hi,e,_⟩
 ·rw [e] at he;exact absurd he hm
 ·rw [h.jf hi e,e];show J9 (Go.Proofs.YtknjjjenklfeoaaGreatDoor.Aw V i) _;rw [h.Aw hi];obtain ⟨_,a,b,c,d,_⟩:=h.drop hi;exact a.goes b c (h.Dv hi) d
def aY.aqn (h:aY base V N0 E) (s:ByteArray):
  (∃ c,c≠0∧zf V s=(V,c)∧A8 (bD V.C N0 E) s=(bD V.C N0 E,c))∨
   ((A8 (bD V.C N0 E) s).2=0∧(zf V s).2=0∧(zf V s).1.L.length≤V.L.length+100∧V.L.length≤(zf V s).1.L.length∧ ∃ l,Qn base V N0 E (zf V s).1 N0 l (A8 (bD V.C N0 E) s).1):=by
 unfold zf A8;rcases h.there (s:=s) with ⟨m,hm,_,a,b⟩ | ⟨i,hi,a,b,_⟩
 ·left
  refine ⟨m,hm,?_,?_⟩
  ·rw [a,ak hm]
  ·rw [b,ak hm]
 ·right
  have k:=h.jf hi a;rw [k,a,b];dsimp only;rw [au rfl,au rfl,tZ,h.Aw hi];obtain ⟨e,o,p,r,q,d⟩:=h.drop hi;have g:=QK V [(5,og (E.eraseIdx i))];rw [← e] at g;simp only [iO,vV] at g;have t:=o.Vh p q;have j:=(LD (NH (iJ.refl V) [(5,og (E.eraseIdx i))]) (mF (y9 V (E.eraseIdx i)).C (E.getD i ze).first)).zZ;rw [← e] at j;generalize y9 V (E.eraseIdx i)=W at*;generalize jQ W (mF W.C (E.getD i ze).first)=u at*;refine ⟨rfl,rfl,by dsimp only;omega,j,E.eraseIdx i,d.bH,?_,d.exact⟩;rw [d.holds];rfl
def aY.au8 (h:aY base V N0 E) (he:(oz V s).2=0):gU V (Go.Proofs.YtknjjjenklfeoaaGreatDoor.jf V s)∧((iH V (Go.Proofs.YtknjjjenklfeoaaGreatDoor.jf V s)).2.2=0→J9 (FT (iH V (Go.Proofs.YtknjjjenklfeoaaGreatDoor.jf V s)).1 (iH V (Go.Proofs.YtknjjjenklfeoaaGreatDoor.jf V s)).2.1) (num (cl (iH V (Go.Proofs.YtknjjjenklfeoaaGreatDoor.jf V s)).1.C 0) 6)):=by
 rcases h.there (s:=s) with ⟨m,hm,_,e,_⟩ | ⟨i,hi,e,_⟩
 ·rw [e] at he;exact absurd he hm
 ·rw [h.jf hi e];refine ⟨h.sound.BF (h.Dv hi),fun hc=> ?_⟩;cases hr:Du V.C (E.getD i ze).first with
  | false=>rw [h.Ui (h.Dv hi) hr] at hc;cases hc
  | true=>
   obtain ⟨n,hn,h0,a,b⟩:=h.Uj (h.Dv hi) hr;obtain ⟨_,_,o1,_⟩:=h.copied (h.Dv hi) hn h0 a;obtain ⟨_,c,d,g,j,_⟩:=h.ret hi hn h0 a;rw [b];dsimp only;rw [o1.file.Ac];exact c.goes d g h.NK j
def aY.au7 (h:aY base V N0 E) (s:ByteArray):
  (∃ c,c≠0∧wW V s=(V,c)∧Jb (bD V.C N0 E) s=(bD V.C N0 E,c))∨
   ((Jb (bD V.C N0 E) s).2=0∧ ∃ i,i<E.length∧yL (bD V.C N0 E) s=(i:Int)∧((Du V.C (E.getD i ze).first=false∧wW V s=(V,5))∨
    (Du V.C (E.getD i ze).first=true∧(wW V s).2=0∧(wW V s).1.L.length≤V.L.length+100∧V.L.length≤(wW V s).1.L.length∧ ∃ q,Qn base V N0 E (wW V s).1 q E (Jb (bD V.C N0 E) s).1))):=by
 unfold wW Jb;rcases h.there (s:=s) with ⟨m,hm,_,a,d⟩ | ⟨i,hi,a,d,r⟩
 ·left
  refine ⟨m,hm,?_,?_⟩
  ·rw [a,ak hm]
  ·rw [d,ak hm]
 ·right
  have l:=h.jf hi a;rw [l,a,d];dsimp only;rw [au rfl,au rfl,tZ];refine ⟨rfl,i,hi,r,?_⟩;cases hr:Du V.C (E.getD i ze).first with
  | false=>
   left
   rw [h.Ui (h.Dv hi) hr];exact ⟨rfl,rfl⟩
  | true=>
   right
   obtain ⟨n,hn,h0,b,t⟩:=h.Uj (h.Dv hi) hr;obtain ⟨_,_,o1,_⟩:=h.copied (h.Dv hi) hn h0 b;obtain ⟨g,u,v,y,w,e⟩:=h.ret hi hn h0 b;have o:(iU (bD V.C N0 E).L i).C=(PE (bD V.C N0 E) i).C:=by
    show _=((bD V.C N0 E).L.getD i ⟨[],[]⟩).C;unfold iU;have p:i<(bD V.C N0 E).L.length:=by rw [Jw];exact hi
    rw [aN,aN,bJ p];rfl
   have z:=h.ahJ (h.Dv hi) hn h0 b;have j:=QK (copyV V (E.getD i ze).first n) [(0,fG (jq V.C [n]) n)];rw [← g] at j;simp only [iO,vV] at j;have A:=u.Vh v w;have k:=(LD (NH (Zj V (E.getD i ze).first n) [(0,fG (jq V.C [n]) n)]) (mF (yM V (E.getD i ze).first n).C N0)).zZ;rw [← g] at k;rw [t];dsimp only;rw [au rfl,o1.file.Ac];dsimp only;have x:FT (copyV V (E.getD i ze).first n) n=yM V (E.getD i ze).first n:=rfl;rw [x];generalize yM V (E.getD i ze).first n=W at*;generalize jQ W (mF W.C N0)=B at*;refine ⟨rfl,rfl,om,k,n,e.bH,?_,e.exact⟩;rw [e.holds,o];rfl
end
section
variable {base:List aj} {V:aB} {N0:Nat} {E:List aW}
def abL: ∀ (us M:List Nat) (n:Nat),n<M.length→(Ar M us).getD n 0=M.getD n 0+us.count n
 | [],M,n,_=>by simp [Ar]
 | u :: r,M,n,hn=>by
  have ih:=abL r (bump M u) n (by rw [QG];exact hn);show (Ar (bump M u) r).getD n 0=_;rw [ih,EH];unfold bump;rw [aN,uI,aN]
  by_cases e:u=n
  ·subst e;rw [au rfl,au hn];simp [aN];omega
  ·rw [ak e];simp [e]
def ak3 (n:Nat):(FI 6).getD n 0=gZ n:=by
 rw [wK];unfold FI;rw [aN]
 by_cases h:n<6
 ·rw [nV (by simpa using h),rG,au h,au h];rfl
 ·rw [nP (by simpa using h),rG,ak h]
  split <;> rfl
def aY.arn (h:aY base V N0 E) (n:Nat):((bP V).flatMap (mF V.C)).count n=dN V.C (aH N0 E) n:=by
 rw [h.yE];have key: ∀ rs:List bI,(∀ r ∈ rs,r ∈ aH N0 E)→((rs.map (·.N)).flatMap (mF V.C)).count n=dN V.C rs n:=by
  intro rs
  induction rs with
  | nil=>intro _;rfl
  | cons r t ih=>
   intro hr;have a:=ih (fun x b=>hr x (LX _ b));have c:=XG (h.sound.zero r (hr r (Oa ..))) n;rw [jU,qx,Jj,a,c];simp [dN]
 exact key _ (fun _ hr=>hr)
def aY.Wp (h:aY base V N0 E) (n:Nat) (hn:n<256):(iw V).getD n 0=gZ n+dN V.C (aH N0 E) n:=by
 unfold iw Ag;rw [abL _ _ _ (by rw [Y0 6 om];exact hn),ak3 n,h.arn]
def abV {p q:Nat→Bool} (k:Nat) (h: ∀ n,n<k→p n=q n):bF p k=bF q k:=by
 induction k with
 | zero=>rfl
 | succ k ih=>rw [bF,bF,ih (fun n hn=>h n om),h k om]
def PY (V:aB) (N0:Nat) (E:List aW) (n:Nat):Bool:=decide (0<gZ n+dN V.C (aH N0 E) n)
def aY.used (h:aY base V N0 E):bF (xY (iw V)) 256=bF (PY V N0 E) 256:=abV 256 fun n hn=>by unfold xY PY;rw [h.Wp n hn]
def akw {c:aj} {x:Nat} (h:x ∈ BN (numsOf c)): ∃ j,j<32∧x=num c (2*j)∧x≠0:=by
 unfold BN at h;obtain ⟨a,b⟩:=SY.1 h;unfold numsOf at a;obtain ⟨j,hj,rfl⟩:=gY.1 a;exact ⟨j,G9.1 hj,rfl,by simpa using b⟩
def asM {C:List aj} {f x:Nat} (b: ∀ i,1<i→i<32→nm C f i=0) (h:x ∈ FN C f):
  (∃ j,j<2∧x=nm C f j∧x≠0)∨ ∃ j,j<2∧nm C f j≠0∧ ∃ k,k<32∧x=nm C (nm C f j%32768) k∧x≠0:=by
 unfold FN at h;obtain ⟨s,hs,c⟩:=zT.1 h;obtain ⟨j,hj,e,h0⟩:=akw hs;have a:j<2:=by
  by_cases d:j<2
  ·exact d
  ·exact absurd (e.trans (b j om hj)) h0
 rcases cO.1 c with y | y
 ·exact aA ⟨j,a,by rw [y];exact e,by rw [y];exact h0⟩
 ·obtain ⟨k,hk,g,l⟩:=akw y;refine ay ⟨j,a,fun x=>h0 (e.trans x),k,hk,?_,l⟩;rw [g,e]
def ahw {p:Nat→Bool} (k:Nat) (h: ∀ n,n<k→p n=false):bF p k=0:=by
 induction k with
 | zero=>rfl
 | succ k ih=>rw [bF,ih (fun n hn=>h n om),h k om];rfl
def aY.check (h:aY base V N0 E) (a:wJ V.C (aH N0 E)):yx V=⟨num (cl V.C 0) 4,bF (PY V N0 E) 256,0,0,0⟩:=by
 obtain ⟨z,d⟩:=h.ok.Gu rfl;have hlen:=h.sound.len;have hu:=h.Wp;have t:bF (uQ (iw V) (aJ V.C)) 256=0:=ahw 256 fun n hn=>by
  unfold uQ;rw [hu n hn,d n hn,← a.eq n hn];cases hc:aQ V.C n with
  | zero=>rfl
  | succ m=>rfl
 have u:bF (uT (iw V) (aJ V.C)) 256=0:=ahw 256 fun n hn=>by
  unfold uT;rw [hu n hn,d n hn,← a.eq n hn]
  simp
 have v:xJ V (iw V) (bP V)=0:=by
  unfold xJ wR;rw [aaF,aaL];intro x p;obtain ⟨f,g,hr⟩:=zT.1 p;rw [h.yE] at g;obtain ⟨r,b,rfl⟩:=gY.1 g;have w:=asM (h.sound.zero r b) hr;have key:x%32768<256→aQ V.C (x%32768)≠1∨32768≤x→ ¬ AP (iw V) x=true:=by
   intro c q;unfold AP;rw [hu _ c,← a.eq _ c];rcases q with y | y
   ·simp [y]
   ·simp [y]
  rcases w with ⟨j,hj,e,h0⟩ | ⟨j,hj,h0,k,hk,e,l⟩
  ·have hs:=h.sound.sec (x%32768) ⟨r,b,j,hj,by rw [← e];exact h0,by rw [e]⟩;refine key om ?_
   by_cases hc:aQ V.C (x%32768)=1
   ·right
    rw [e];exact a.Vk r b j hj (by rw [← e];exact h0) (by rw [← e];exact hc)
   ·exact aA hc
  ·have o:fD V.C (aH N0 E) (nm V.C r.N j%32768):=⟨r,b,j,hj,h0,rfl⟩;have A:=h.sound.aG (x%32768) ⟨nm V.C r.N j%32768,o,k,hk,by rw [← e];exact l,by rw [e]⟩;refine key om ?_
   by_cases hc:aQ V.C (x%32768)=1
   ·right
    rw [e];exact a.Vl _ o k hk (by rw [← e];exact l) (by rw [← e];exact hc)
   ·exact aA hc
 unfold yx;rw [t,u,v,h.used]
end
section
variable {base:List aj} {V:aB} {N0:Nat} {E:List aW} {data:aj}
end
end
end Go.Proofs.YtknjjjenklfeoaaGreatDoor
