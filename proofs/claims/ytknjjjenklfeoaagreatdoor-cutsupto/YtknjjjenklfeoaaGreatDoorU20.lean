import Derived.Test.YtknjjjenklfeoaaGreatDoorU19
set_option maxHeartbeats 8000000
set_option maxRecDepth 100000
set_option linter.all false
namespace Go.Proofs.YtknjjjenklfeoaaGreatDoor
open Go.RowKit
section
attribute [local go_sem ↓] dw fP fV Np PS Qa OB Ut Yy Xt XT Xv
attribute [local go_sem] dM fO fU gW gB aV NM PI PK RZ Zw Zt Si nH nK
def Lu (a b:List kD):Nat→Nat→Bool
 | 0,_=>true
 | m+1,k=>if Pq (iU a k) (iU b k) then Lu a b m (k+1) else false
def Sm (D E:dR):Bool:=if D.C=E.C∧D.L.length=E.L.length then Lu D.L E.L D.L.length 0 else false
def alf {p q:kD}:Pq p q=true↔p=q:=by
 obtain ⟨a,b⟩:=p;obtain ⟨c,d⟩:=q;simp [Pq]
def Ze (a b:List kD): ∀ m k,Lu a b m k=true↔ ∀ j,k≤j→j<k+m→iU a j=iU b j
 | 0,k=>⟨fun _ j c d=>om,fun _=>rfl⟩
 | m+1,k=>by
  rw [Lu];constructor
  ·intro h j c d
   split at h
   ·rename_i f
    by_cases e:j=k
    ·subst e;exact alf.1 f
    ·exact (Ze a b m (k+1)).1 h j om om
   ·cases h
  ·intro h;rw [au (alf.2 (h k om om))];exact (Ze a b m (k+1)).2 fun j c d=>h j om om
def aez {D E:dR}:Sm D E=true↔D=E:=by
 obtain ⟨C,L⟩:=D;obtain ⟨e,c⟩:=E;unfold Sm;simp only;constructor
 ·intro h
  split at h
  ·rename_i hc;obtain ⟨rfl,d⟩:=hc
   congr 1
   have:=(Ze L c L.length 0).1 h
   apply Wx d;intro i a b
   have:=this i om om
   unfold iU at this;rw [aN,aN,bJ a,bJ b] at this;exact this
  ·cases h
 ·intro h;injection h with a b;subst a;subst b;rw [au ⟨rfl,rfl⟩];exact (Ze L L L.length 0).2 fun _ _ _=>rfl
def aeA (w:World) (d m:Nat) (Pv Q:Value) (D E:dR) (h:fB w d Pv D) (k:fB w m Q E) (R:D.L.length≤1000) (S:E.L.length≤1000):
  Calls Tryz.prog 59 #[.pointer (some ⟨d,0,none⟩),.pointer (some ⟨m,0,none⟩)] w fun e s=>
   e= .returned (.bool (Sm D E))∧aC w s:=by
 obtain ⟨C,L⟩:=D;obtain ⟨j,b⟩:=E;obtain ⟨a,cap,U⟩:=gQ h.row;subst U;obtain ⟨I,z,W⟩:=gQ k.row;subst W;simp only at R S;have c0: ∀ n,(w.drewN n).cell? ⟨d,4096,none⟩=some (.slice a L.length cap):=fun n=>h.xE;have c1: ∀ n,(w.drewN n).cell? ⟨m,4096,none⟩=some (.slice I b.length z):=fun n=>k.xE;have l1: ∀ n,dU (w.drewN n) d 0 4096:=fun n=>h.has;have l2: ∀ n,dO (w.drewN n) d 0 4096=aS C:=fun n=>h.cells;have l3: ∀ n,dU (w.drewN n) m 0 4096:=fun n=>k.has;have l4: ∀ n,dO (w.drewN n) m 0 4096=aS j:=fun n=>k.cells;have he: ∀ w,(aco (.agg (aS C).toArray) (.agg (aS j).toArray)).run Tryz.prog w= .ok (decide (C=j)) w:=fun w=>avp h.cont.all k.cont.all h.cont.len k.cont.len w;have f:Hid (Sm ⟨C,L⟩ ⟨j,b⟩=if C=j∧L.length=b.length then Lu L b L.length 0 else false):=rfl;have H:=ah h;have K:=ah k;clear h k
 by_cases g:C=j
 ·by_cases l:L.length=b.length
  ·rw [au ⟨g,l⟩] at f;rw [dZ g] at he;have X:((L.length:Int) != (b.length:Int))=false:=by rw [l];simp
   have aa:=ah l;have hle:b.length≤L.length:=om;have ab:L.length≤b.length:=om;clear g l
   go_enter Tryz.func59,Tryz.ntmps59
   go_wp2
   go_quiet (fail)
   go_wp2
   go_loopw [5] (fun i s=> ∃ k nq:Nat,k≤L.length∧i= .int .i64 k∧s=w.drewN nq∧Lu L b L.length 0=Lu L b (L.length - k) k) (fun i _=>L.length - (intOf i).toNat)
   case atStart=>exact ⟨0,nq,om,rfl,rfl,rfl⟩
   case round=>
    obtain ⟨k,o,hk,rfl,rfl,c⟩:=hrel
    by_cases A:k<L.length
    ·have B:=H.drewN o;have F:=K.drewN o;obtain ⟨t,N,J,_⟩:=gy B.row (show 0<L.length by omega);obtain ⟨rfl,rfl⟩:a=some ⟨t,0,none⟩∧cap=N:=by injection J with u Y v;exact ⟨u,v⟩
     obtain ⟨y,O,M,_⟩:=gy F.row (show 0<b.length by omega);obtain ⟨rfl,rfl⟩:I=some ⟨y,0,none⟩∧z=O:=by injection M with u Y v;exact ⟨u,v⟩
     have rg:=NC H.row H.zK k A;have p:=NC K.row K.zK k (show k<b.length by omega);have q:uJ (iU L k).C:=H.zK _ (Nz A);have r:uJ (iU b k).C:=K.zK _ (Nz (show k<b.length by omega));have m1: ∀ n,dU (w.drewN n) t (k*4097) 4097:=fun n=>sU (w:=w) rg (zJ q);have m2: ∀ n,dO (w.drewN n) t (k*4097) 4097=gu (iU L k):=fun n=>qU (w:=w) rg (zJ q);have m3: ∀ n,dU (w.drewN n) y (k*4097) 4097:=fun n=>sU (w:=w) p (zJ r);have m4: ∀ n,dO (w.drewN n) y (k*4097) 4097=gu (iU b k):=fun n=>qU (w:=w) p (zJ r);have P:(k:Int)<(L.length:Int):=om;have Yj:(k:Int)<(b.length:Int):=om;have G: ∀ w,(acp (.agg (gu (iU L k)).toArray) (.agg (gu (iU b k)).toArray)).run Tryz.prog w= .ok (Pq (iU L k) (iU b k)) w:=fun w=>avr q r w;rw [show L.length - k=(L.length - (k+1))+1 by omega,Lu] at c;clear B F J M rg p;cases hq:Pq (iU L k) (iU b k) with
     | true=>
      rw [hq] at G c;rw [au rfl] at c;have Z:=ah c;clear c hq;generalize iU L k=pk at*;generalize iU b k=qk at*;go_wp2
      go_quiet (fail)
      go_wp2;go_roundw
      case rel=>exact ⟨k+1,_,om,gn,rfl,uh Z⟩
      case measure=>exact bW
     | false=>
      rw [hq] at G c;rw [ak dc] at c;rw [c] at f;clear c hq;generalize iU L k=pk at*;generalize iU b k=qk at*;go_wp2
      go_quiet (fail)
      go_wp2;go_ret;exact ⟨by rw [uh f];rfl,(((Kept.refl (fun _=>False) w).drewN o).drewN _).below⟩
    ·have P: ¬ (k:Int)<(L.length:Int):=om;rw [show L.length - k=0 by omega,Lu] at c;rw [c] at f;clear c;go_wp2;go_ret;exact ⟨by rw [uh f];rfl,((Kept.refl (fun _=>False) w).drewN o).below⟩
  ·rw [ak (fun x=>l x.2)] at f;rw [dZ g] at he;have X:((L.length:Int) != (b.length:Int))=true:=by rw [ou];omega
   clear g
   go_enter Tryz.func59,Tryz.ntmps59
   go_wp2
   go_quiet (fail)
   go_wp2;go_ret;exact ⟨by rw [uh f];rfl,((Kept.refl (fun _=>False) w).drewN nq).below⟩
 ·rw [ak (fun x=>g x.1)] at f;rw [gK g] at he;clear g
  go_enter Tryz.func59,Tryz.ntmps59
  go_wp2
  go_quiet (fail)
  go_wp2;go_ret;exact ⟨by rw [uh f];rfl,((Kept.refl (fun _=>False) w).drewN nq).below⟩
def JL (R:aU) (i:Nat):kD:=⟨(rootOf R i).name,eu R.L (rootOf R i).N⟩
def FK (R:aU) (k:Nat):List kD:=(List.range (k - 1)).map fun i=>JL R (i+1)
def aul (R:aU) (k:Nat) (hk:1≤k):FK R (k+1)=FK R k++[JL R k]:=by
 unfold FK;rw [show k+1 - 1=(k - 1)+1 by omega,aav,rQ];simp only [jU,LQ];rw [show k - 1+1=k by omega]
def auk (R:aU) (k:Nat):(FK R k).length=k - 1:=by simp [FK]
def ahQ (R:aU):D9 R=⟨eu R.L (rootOf R 0).N,FK R R.roots.length⟩:=rfl
def ahC {R:aU} {f:Nat} {Lv b:Value} {w:World} (h:bY w f Lv b R) {t:Nat} (a:rX R.L t):uJ (eu R.L t):=
 ⟨by rw [← ab3];exact ab5 h.lens a 64,by simp [eu]⟩
def TB (f b n c k d:Nat) (r:bI) (e:Value) (a:World):Prop:=a.cell? ⟨f,1,none⟩=some (.slice (some ⟨b,0,none⟩) n c)∧a.cell? ⟨b,k*3,none⟩=some (.int .i64 (r.N:Nat))∧a.cell? ⟨b,k*3+1,none⟩=some (.int .i64 (r.At:Nat))∧a.cell? ⟨b,k*3+2,none⟩=some (.string ⟨r.name.toArray⟩)∧a.cell? ⟨d,4096,none⟩=some e
def ahT (w:World) (f:Nat) (Lv Rv:Value) (R:aU) (h:bY w f Lv Rv R) (F: ∀ i,i<R.roots.length→rX R.L (rootOf R i).N) (jF:R.L.length≤256) (hr:0<R.roots.length) (a7:R.roots.length≤1000):
  Calls Tryz.prog 43 #[.pointer (some ⟨f,0,none⟩)] w fun e H=>
   ∃ d c,e= .returned (.pointer (some ⟨d,0,none⟩))∧w.heap.size≤d∧fB H d c (D9 R)∧(∀ g,c.ownBlock=some g→w.heap.size≤g)∧aC w H:=by
 obtain ⟨i0,aD,aE,aL,aM⟩:=qw Tryz.Yu;have X:=ahC h (F 0 hr);have af:=fun i hi=>ahC h (F i hi);have hA:Gi (eu R.L (rootOf R 0).N):=X.all;have a6:=X.len;obtain ⟨j,y,rfl,_⟩:=gy h.pG om;have c1:=h.CV;have r0:=yN h.pG 0 om 0 om;have n:=yN h.pG 0 om 1 om;have q:=yN h.pG 0 om 2 om;rw [show R.roots.getD 0 ⟨0,0,[]⟩=rootOf R 0 from rfl] at r0 n q;simp only [iE,J6,Gg,jW,zS,rE] at r0 n q;have a8:(0:Int)<(R.roots.length:Int):=om;have z:=ah (ahD w f Lv _ R (rootOf R 0) h (F 0 hr) jF);unfold iE at z;have I:=ah h;have aR:=ah af;have Ik:=ah F;clear h af F
 go_enter Tryz.func43,Tryz.ntmps43
 go_wp2_with fail
 refine z.mono ?_;rintro e Q ⟨rfl,m⟩;have hN:fB (Q.alloc (.cells (wP ⟨eu R.L (rootOf R 0).N,[]⟩ (.slice none 0 0)).toArray 70)) Q.heap.size (.slice none 0 0) ⟨eu R.L (rootOf R 0).N,[]⟩:=⟨aX _ _,wH _ _ _ _,X,fun p hp=>by cases hp⟩;have HN:=ah hN;have ag:=m.size;have HB:=ah (m.alloc m.size (.cells (wP ⟨eu R.L (rootOf R 0).N,[]⟩ (.slice none 0 0)).toArray 70));clear hN z r0 n q c1 m;generalize QO:eu R.L (rootOf R 0).N=C at*;have a0:=ah QO;clear QO;go_wp2;generalize Q.alloc (.cells (wP ⟨C,[]⟩ (.slice none 0 0)).toArray 70)=W1 at*;generalize Q.heap.size=d at*
 go_loopw [4] (fun i H=> ∃ (k:Nat) (c:Value),1≤k∧k≤R.roots.length∧i= .int .i64 k∧fB H d c ⟨C,FK R k⟩∧(∀ g,c.ownBlock=some g→w.heap.size≤g∧g≠d)∧aC w H) (fun i _=>R.roots.length - (intOf i).toNat)
 case atStart=>exact ⟨1,.slice none 0 0,om,om,rfl,uh HN,fun g r=>(by cases r),uh HB⟩
 case round=>
  obtain ⟨k,c,a1,hk,rfl,v,U,m⟩:=hrel;have s:=I.below m;have c1:=s.CV
  by_cases G:k<R.roots.length
  ·have r0:=yN s.pG k G 0 om;have n:=yN s.pG k G 1 om;have q:=yN s.pG k G 2 om;rw [show R.roots.getD k ⟨0,0,[]⟩=rootOf R k from rfl] at r0 n q;simp only [iE,J6,Gg,jW] at r0 n q;have Y:=auk R k;have ab:wr.ownsRow 0 139 4097 c (k - 1) ((FK R k).flatMap gu):=by have:=v.row;simp only [Y] at this;exact this
   have a9:(k:Int)<(R.roots.length:Int):=om;have Hp:Hid (FK R (k+1)=FK R k++[JL R k]):=aul R k a1;have M:uJ (JL R k).C:=uh aR k G;have ba:f≠d:=fun e=>by have:=I.lt;omega
   have bb:j≠d:=fun e=>by have:=(I.pG.lt j rfl).2;omega
   have bd:=v.lt;have bf:=s.lt;have a2:=(s.pG.lt j rfl).2;have z:=ah (fun (W:World) (hB:aC wr W)=>ahD W f Lv _ R (rootOf R k) (s.below hB) (uh Ik k G) jF);unfold iE at z;have HF:=ah s;have A:=ah v;have fA:=ah ab;have J:=ah m;have B:=ah U;have bh:=m.size;have ai: ∀ W,aC wr W→W.cell? ⟨d,4096,none⟩=some c:=fun W hB=>(v.below hB).xE;have al:=ah ai;have c7:wr.drew.cell? ⟨d,4096,none⟩=some c:=v.xE;clear s v ab m U ai;have bj: ∀ w,(abD #[(0,.string ⟨(rootOf R k).name.toArray⟩),(1,.agg (aS (eu R.L (rootOf R k).N)).toArray)]).run Tryz.prog w= .ok (.agg (gu (JL R k)).toArray) w:=fun w=>Si (nm:=(rootOf R k).name) M.all M.len;go_wp2;have b:TB f j R.roots.length y k d (rootOf R k) c wr.drew:=⟨c1,r0,n,q,c7⟩;refine xZ (TB f j R.roots.length y k d (rootOf R k) c) 27 kr ?_;refine tk 0 b ?_;refine tk 1 b ?_;refine tk 2 b ?_;refine tk 3 b ?_
   refine tk 4 b ?_;refine tk 5 b ?_;refine tk 6 b ?_;refine tk 7 b ?_;refine tk 8 b ?_;refine tk 9 b ?_;refine tk 10 b ?_;refine tk 11 b ?_;refine tk 12 b ?_;refine tk 13 b ?_;refine tk 14 b ?_;refine tk 15 b ?_;refine tk 16 b ?_;refine tk 17 b ?_;refine tk 18 b ?_;refine tk 19 b ?_;refine tk 20 b ?_;refine wo 21 fun bl an=> ?_;go_simp;go_at_call 80;refine (uh z _ ((bG _ _).drew)).mono ?_;rintro e u ⟨rfl,b2⟩;have a:Hid (aC wr u):=((bG _ wr).drew).trans b2;have d2:u.cell? ⟨d,4096,none⟩=some c:=uh al _ a;have d3: ∀ o,(u.alloc o).cell? ⟨d,4096,none⟩=some c:=fun o=>uh al _ (a.alloc a.size o);have f2:u.cell? ⟨f,1,none⟩=some (.slice (some ⟨j,0,none⟩) R.roots.length y):=(HF.below a).CV;have l: ∀ W,aC wr W→ ∀ i,W.cell? ⟨j,i,none⟩=wr.cell? ⟨j,i,none⟩:=fun W hB i=>Md (hB.block j a2)
   have Z:TB f j R.roots.length y k d (rootOf R k) c u:=⟨f2,(l _ a _).trans r0,(l _ a _).trans n,(l _ a _).trans q,d2⟩;have ao: ∀ o,TB f j R.roots.length y k d (rootOf R k) c (u.alloc o):=fun o=>⟨(HF.below (a.alloc a.size o)).CV,(l _ (a.alloc a.size o) _).trans r0,(l _ (a.alloc a.size o) _).trans n,(l _ (a.alloc a.size o) _).trans q,d3 o⟩;clear b2 l;refine an _ _ (ay Z) ?_;refine tk 22 Z ?_;refine wo 23 fun bm aq=> ?_;go_simp;refine aq _ _ (ay (ao _)) ?_;refine wo 24 fun bn ar=> ?_
   refine JZ _ (by rfl) _ _ _ (by rfl) 0 139 i0 _ 4097 4112 Tryz.underlying68 aD aE aL aM (by rw [show (Value.agg (gu ⟨[],zD⟩).toArray).cells.size=(gu ⟨[],zD⟩).length from by simp [Value.cells]];exact zJ (p:=⟨[],zD⟩) ⟨NV,NW⟩) om c (k - 1) ((FK R k).flatMap gu) (by rfl) (((bV (S:=fun _=>False) (Kept.dQ a) fA (fun _ _=>id))).alloc _) ⟨u.heap.size,0,none⟩ 1 1 (gu (JL R k)) (by rfl) (by rw [zJ M]) (pJ (cs:=(gu (JL R k)).toArray) (t:=139) (fr:=(0,0)) (aX u _)) (Zd _) om (by unfold maxLen;omega) om om (u.heap.size+1) sm ?_;intro g5 cap5 D aa K a3 uP;have b5:=ah (qW K (A.below (a.alloc a.size _)).aG (fun g r=>(uh B g r).2));have c5:D.cell? ⟨d,4096,none⟩=some c:=(aF b5 4096).trans (by rw [← aF A.aG];exact A.xE);have z5: ∀ i,D.frozen? ⟨d,i,none⟩=false:=fun i=>eY b5 i;have av:w.heap.size≤g5∧g5≠d:=by
    rcases a3 with x | x
    ·exact uh B g5 x
    ·have:=a.size;omega
   have S1:=ah ((J.trans (a.mono J.size)).alloc (by have:=a.size;omega) (.cells (gu (JL R k)).toArray 139));have O:aC w D:=S1.grown K (by have:=a.size;simp;omega) (fun k hk=>(uh B k hk).1);have S2:=ah (O.setCell (p:=⟨d,4096,none⟩) ag (.slice (some ⟨g5,0,none⟩) (k - 1+1) cap5));have ae:fB (D.setCell ⟨d,4096,none⟩ (.slice (some ⟨g5,0,none⟩) (k - 1+1) cap5)) d (.slice (some ⟨g5,0,none⟩) (k - 1+1) cap5) ⟨C,FK R (k+1)⟩:=by
    have:=(A.below (a.alloc a.size (.cells (gu (JL R k)).toArray 139))).acK (g5:=g5) (cap5:=cap5) M (fun g r=>(uh B g r).2) K (by rw [Y];exact aa) av.2
    rw [Y] at this;rw [uh Hp];exact this
   have ek:k - 1+1=k:=om;rw [ek] at ae S2;have a4:=ah ae;clear ek;have P:TB f j R.roots.length y k d (rootOf R k) c D:=by
    have a5:=I.below O;have l: ∀ i,D.cell? ⟨j,i,none⟩=wr.cell? ⟨j,i,none⟩:=fun i=>by
     have aw:=(I.pG.lt j rfl).2;exact (Md (O.block j aw)).trans (Md (J.block j aw)).symm
    exact ⟨a5.CV,(l _).trans r0,(l _).trans n,(l _).trans q,c5⟩
   clear ae K aa O;refine ar _ _ (ay P) ?_;refine wv 25 P ?_;refine wv 26 P ?_;refine wo 27 fun bo ax=> ?_;go_simp;refine ax _ _ (aA rfl) ?_;refine sH kr ?_ _;clear b Z ao P;go_wp2;go_roundw
   case rel=>exact ⟨k+1,.slice (some ⟨g5,0,none⟩) k cap5,om,om,gn,uh a4,fun g r=>(by simp only [Value.ownBlock,jH] at r;subst r;exact av),uh S2⟩
   case measure=>exact bW
  ·have az:k=R.roots.length:=om;have ad:fB wr d c (D9 R):=by rw [ahQ,uh a0,← az];exact v
   have A:=ah ad;have J:=ah m;have B:=ah U;clear v ad m az U s;go_wp2;go_ret;exact ⟨d,c,rfl,ag,uh A,fun g r=>(uh B g r).1,uh J⟩
end
section
def vw (C:List aj) (t:Nat):aj:=if t<C.length then cl C t else zc
def Iw (C:List aj) (n t:Nat) (a:t<n):cl (bg C n) t=vw C t:=by
 unfold cl bg vw;rw [aN,jK,yR a];rfl
def ny {C:List aj} {t:Nat} (h:t<C.length):vw C t=cl C t:=by unfold vw;rw [au h]
def D7 {C:List aj} {t:Nat} (h:C.length≤t):cl C t=[]:=by unfold cl;rw [aN,eG h];rfl
def aH (N0:Nat) (E:List aW):List bI:=⟨N0,0,[]⟩ :: E.map lU
def Dx {N0:Nat} {E:List aW} {r:bI}:r ∈ aH N0 E↔r=⟨N0,0,[]⟩∨ ∃ e ∈ E,r=lU e:=by
 unfold aH;rw [cO,gY];constructor
 ·rintro (h | ⟨e,he,h⟩)
  ·exact aA h
  ·exact ay ⟨e,he,h.symm⟩
 ·rintro (h | ⟨e,he,h⟩)
  ·exact aA h
  ·exact ay ⟨e,he,h.symm⟩
structure lK (C:List aj) (T N0:Nat) (E:List aW):Prop where
 lens: ∀ c ∈ C,c.length=64
 qp:6≤C.length
 le:C.length≤T
 seven:7≤T
 most:T≤256
 n0:N0<65536
 head:cl C 0=fG T N0
 list:cl C 5=og E
 iR:iZ E
section
variable {C:List aj} {T N0:Nat} {E:List aW}
def lK.Ll (h:lK C T N0 E):num (cl C 0) 4=T:=by rw [h.head];exact atf (by have:=h.most;omega) h.n0
def lK.Ac (h:lK C T N0 E):num (cl C 0) 6=N0:=by rw [h.head];exact atg (by have:=h.most;omega) h.n0
def lK.mD (h:lK C T N0 E):mD C=true:=by
 have a:=h.qp;have b:=h.le;have c:=h.most;have d:=h.seven;unfold Go.Proofs.YtknjjjenklfeoaaGreatDoor.mD;rw [h.Ll,h.head,ai7,ai5 om h.n0]
 simp
 omega
def lK.pad (h:lK C T N0 E):(gJ C).L=bg C T:=by show bg C (num (cl C 0) 4)=_;rw [h.Ll]
def lK.ji (h:lK C T N0 E):ji (gJ C)=(true,aH N0 E):=by
 have a:=h.qp;have b:=h.seven;show Go.Proofs.YtknjjjenklfeoaaGreatDoor.qX (cl (gJ C).L 5) 4 0 false [⟨num (cl C 0) 6,0,[]⟩]=_;rw [h.pad,Iw _ _ _ om,ny om,h.list,h.Ac];exact h.iR.qX ⟨N0,0,[]⟩ 4 0 rfl (lX _)
def lK.look (h:lK C T N0 E) (hs:dH (bg C T) (aH N0 E)):
  (look C).bad= -1∧(look C).L=bg C T∧(look C).roots=aH N0 E∧(∀ n,n<256→(look C).used.getD n 0=gZ n+dN (bg C T) (aH N0 E) n)∧vk 1000 (look C):=by
 have:=asG h.mD (by rw [h.ji]) (by rw [h.ji,h.pad];exact hs)
 rw [h.ji,h.pad] at this;exact this
def lK.exact (h:lK C T N0 E) (hs:dH (bg C T) (aH N0 E)) (a:wJ (bg C T) (aH N0 E)):zW (Go.Proofs.YtknjjjenklfeoaaGreatDoor.look C)=true:=by
 have:=asF h.mD (by rw [h.ji]) (by rw [h.ji,h.pad];exact hs.awC a)
 exact this.2.2.2.1
def bD (L:List aj) (N0:Nat) (E:List aW):dR:=⟨eu L N0,E.map fun e=>⟨e.name,eu L e.first⟩⟩
def lK.jw (h:lK C T N0 E) (hs:dH (bg C T) (aH N0 E)):D9 (Go.Proofs.YtknjjjenklfeoaaGreatDoor.look C)=bD (bg C T) N0 E:=by
 obtain ⟨_,a,b,_⟩:=h.look hs;rw [ahQ];unfold bD FK JL rootOf;rw [a,b];have c:((aH N0 E).getD 0 ⟨0,0,[]⟩).N=N0:=rfl;rw [c]
 congr 1
 apply uY;intro i;rw [jK,jK];have d:(aH N0 E).length - 1=E.length:=by simp [aH]
 rw [d]
 by_cases hi:i<E.length
 ·rw [yR hi,bJ hi,Gf,Gf];have e:(aH N0 E).getD (i+1) ⟨0,0,[]⟩=lU E[i]:=by
   unfold aH;rw [J5,aN,jK,bJ hi];rfl
  rw [e];rfl
 ·rw [eG (by simpa using hi),eG om];rfl
def sG (a:C.length=T):bg C T=C:=by rw [← a];exact Zb
structure aY (base:List aj) (V:aB) (N0:Nat) (E:List aW):Prop where
 file:lK V.C V.C.length N0 E
 sound:dH V.C (aH N0 E)
 Jy:V.loose=false
 log:uN base V
section
variable {base:List aj} {V:aB}
def aY.pad (a:aY base V N0 E):bg V.C V.C.length=V.C:=Zb
def aY.look (h:aY base V N0 E):(look V.C).bad= -1∧(look V.C).L=V.C∧(look V.C).roots=aH N0 E∧(∀ n,n<256→(look V.C).used.getD n 0=gZ n+dN V.C (aH N0 E) n)∧vk 1000 (look V.C):=by
 have:=h.file.look (by rw [h.pad];exact h.sound)
 rw [h.pad] at this;exact this
def aY.zW (h:aY base V N0 E) (a:wJ V.C (aH N0 E)):zW (Go.Proofs.YtknjjjenklfeoaaGreatDoor.look V.C)=true:=h.file.exact (by rw [h.pad];exact h.sound) (by rw [h.pad];exact a)
def aY.jw (h:aY base V N0 E):D9 (Go.Proofs.YtknjjjenklfeoaaGreatDoor.look V.C)=bD V.C N0 E:=by
 have:=h.file.jw (by rw [h.pad];exact h.sound)
 rw [h.pad] at this;exact this
def aY.yE (h:aY base V N0 E):bP V=(aH N0 E).map (·.N):=by
 unfold bP;rw [h.file.Ac,h.file.iR.AZ h.file.list];simp [aH,lU]
end
end
def iV (C:List aj) (x:Nat × aj):List aj:=(oW C (x.1+1)).set x.1 x.2
def dG (C:List aj) (a:List (Nat × aj)):List aj:=a.foldl iV C
def Pz (C:List aj) (x:Nat × aj) (a:List (Nat × aj)):dG C (x :: a)=dG (iV C x) a:=rfl
def LC (C:List aj) (x:Nat × aj):(iV C x).length=max C.length (x.1+1):=by simp only [iV,rV,Ec]
def axq (C:List aj) (n t:Nat):vw (oW C n) t=vw C t:=by
 unfold vw;rw [Ec]
 by_cases h:t<C.length
 ·rw [au om,au h,ahk _ _ h]
 ·rw [ak h]
  by_cases a:t<max C.length n
  ·rw [au a];unfold cl oW;rw [aN,nP om,rG,au om];rfl
  ·rw [ak a]
def zQ (C:List aj) (x:Nat × aj) (t:Nat):vw (iV C x) t=if x.1=t then x.2 else vw C t:=by
 have a:=LC C x
 by_cases e:x.1=t
 ·rw [au e,ny om];unfold iV;rw [Xx _ _ _ _ (by rw [Ec];omega),au e]
 ·rw [ak e,← axq C (x.1+1) t];unfold vw iV;rw [rV]
  by_cases h:t<(oW C (x.1+1)).length
  ·rw [au h,au h,Xx _ _ _ _ (by rw [Ec];omega),ak e]
  ·rw [ak h,ak h]
def FW (t:Nat): ∀ (a:List (Nat × aj)) (C:List aj),(∀ x ∈ a,x.1≠t)→vw (dG C a) t=vw C t
 | [],_,_=>rfl
 | x :: r,C,h=>by rw [Pz,FW t r _ (fun y b=>h y (by simp [b])),zQ,ak (h x sm)]
def aam (t:Nat): ∀ (a:List (Nat × aj)) (C:List aj),vw (dG C a) t=vw C t∨ ∃ x ∈ a,x.1=t∧vw (dG C a) t=x.2
 | [],_=>aA rfl
 | x :: r,C=>by
  rw [Pz];rcases aam t r (iV C x) with h | ⟨y,b,c,d⟩
  ·rw [zQ] at h
   by_cases e:x.1=t
   ·rw [au e] at h;exact ay ⟨x,sm,e,h⟩
   ·rw [ak e] at h;exact aA h
  ·exact ay ⟨y,by simp [b],c,d⟩
def am6 (new:Nat→aj) (t:Nat) (b:List (Nat × aj)) (C:List aj) (hn: ∀ x ∈ b,x.2=new x.1) (c: ∃ x ∈ b,x.1=t):vw (dG C b) t=new t:=by
 induction b generalizing C with
 | nil=>obtain ⟨x,c,_⟩:=c;simp at c
 | cons x r ih=>
  rw [Pz]
  by_cases hr: ∃ y ∈ r,y.1=t
  ·exact ih _ (fun y a=>hn y (by simp [a])) hr
  ·rw [FW t r _ (fun y a e=>hr ⟨y,a,e⟩),zQ];obtain ⟨y,a,e⟩:=c;rcases cO.1 a with z | z
   ·rw [← z,au e,hn y (by simp [z]),e]
   ·exact absurd ⟨y,z,e⟩ hr
def ND: ∀ (a:List (Nat × aj)) (C:List aj) (T:Nat),C.length≤T→(∀ x ∈ a,x.1<T)→C.length≤(dG C a).length∧(dG C a).length≤T
 | [],C,T,h,_=>⟨aO _,h⟩
 | x :: r,C,T,h,b=>by
  have d:=LC C x;have e:=b x sm
  have:=ND r (iV C x) T om (fun y c=>b y (by simp [c]))
  rw [Pz];omega
def RS: ∀ (a:List (Nat × aj)) (C:List aj),(∀ c ∈ C,c.length=64)→(∀ x ∈ a,x.2.length=64)→ ∀ c ∈ dG C a,c.length=64
 | [],_,h,_=>h
 | x :: r,C,h,b=>by
  rw [Pz];refine RS r _ (fun c hc=> ?_) (fun y d=>b y (by simp [d]));rcases Oc hc with y | y
  ·exact aqX h _ c y
  ·rw [y];exact b x sm
def jr (V:aB) (a:List (Nat × aj)):aB:=a.foldl (fun V x=>bQ V x.1 x.2) V
def eH (V:aB) (a:List (Nat × aj)):aB:=fF (jr V a)
def NG (a:List (Nat × aj)): ∀ V:aB,(jr V a).C=dG V.C a:=by
 induction a with
 | nil=>intro V;rfl
 | cons x r ih=>
  intro V;show (jr (bQ V x.1 x.2) r).C=dG (iV V.C x) r;rw [ih,VG];rfl
def uz (V:aB) (a:List (Nat × aj)):(eH V a).C=dG V.C a:=by unfold eH;rw [zX,NG]
def auB {V a:aB} (h:iJ V a) (b:List (Nat × aj)):iJ V (jr a b):=by
 unfold jr
 induction b generalizing a with
 | nil=>exact h
 | cons x r ih=>exact ih (h.put x.1 x.2)
def NH {V a:aB} (h:iJ V a) (b:List (Nat × aj)):iJ V (eH a b):=(auB h b).flush
section
variable {C:List aj} {T N0:Nat} {E:List aW}
def lK.jr (h:lK C T N0 E) (b:List (Nat × aj)) (c: ∀ x ∈ b,x.1<T∧x.1≠0∧x.1≠5∧x.2.length=64):lK (dG C b) T N0 E:=by
 have d:=ND b C T h.le (fun x a=>(c x a).1);have e:=h.qp;refine ⟨RS b C h.lens (fun x a=>(c x a).2.2.2),om,d.2,h.seven,h.most,h.n0,?_,?_,h.iR⟩
 ·have:=FW 0 b C (fun x a=>(c x a).2.1)
  rw [ny om,ny om] at this;rw [this];exact h.head
 ·have:=FW 5 b C (fun x a=>(c x a).2.2.1)
  rw [ny om,ny om] at this;rw [this];exact h.list
structure Ok (C:List aj) (T N0:Nat) (E:List aW) (D:dR):Prop where
 file:lK C T N0 E
 sound:dH (bg C T) (aH N0 E)
 holds:bD (bg C T) N0 E=D
def OC (C:List aj) (T n:Nat) (a:5≤T) (hn:n<256):aQ (bg C T) n=aI (vw C (1+n / 64)) (n%64):=by
 unfold aQ;rw [Iw _ _ _ om]
def GU (C:List aj) (T t k:Nat) (a:t<T):nm (bg C T) t k=num (vw C t) (2*k):=by
 unfold nm;rw [Iw _ _ _ a]
def acj {L L':List aj} {N0:Nat} {E:List aW} (h: ∀ r ∈ aH N0 E,eu L' r.N=eu L r.N):bD L' N0 E=bD L N0 E:=by
 unfold bD;have h0:=h ⟨N0,0,[]⟩ (by simp [aH]);simp only at h0;rw [h0]
 congr 1
 refine Ji fun e he=> ?_
 have:=h (lU e) (Dx.2 (ay ⟨e,he,rfl⟩))
 have:eu L' e.first=eu L e.first:=this
 rw [this]
def Ok.change {D:dR} (h:Ok C T N0 E D) (a:List (Nat × aj)) (d: ∀ x ∈ a,x.1<T∧x.1≠0∧x.1≠5∧x.2.length=64)
  (c: ∀ n,oU (bg C T) (aH N0 E) n→ ∀ x ∈ a,x.1≠n) (hs:Shape (bg C T) (bg (dG C a) T) (aH N0 E))
  (jI: ∀ n,n<256→gZ n+dN (bg C T) (aH N0 E) n≤aQ (bg (dG C a) T) n) (top: ∀ n,n<256→aQ (bg (dG C a) T) n<255) (none: ∀ n,n<256→T≤n→aQ (bg (dG C a) T) n=0)
  (e: ∀ r ∈ aH N0 E,∀ j,j<2→32768≤nm (bg (dG C a) T) r.N j→aQ (bg (dG C a) T) (nm (bg (dG C a) T) r.N j%32768)=1)
  (f: ∀ s,fD (bg C T) (aH N0 E) s→ ∀ k,k<32→32768≤nm (bg (dG C a) T) s k→aQ (bg (dG C a) T) (nm (bg (dG C a) T) s k%32768)=1):Ok (dG C a) T N0 E D:=by
 refine ⟨h.file.jr a d,h.sound.shape hs (by rw [kL,kL];exact aO _) (by rw [kL];exact h.file.most) jI top (by rw [kL];exact none) e f,?_⟩;rw [← h.holds];refine acj fun r hr=>hs.content (fun n hn=> ?_) hr;have b:=(h.sound.aG n hn).2;rw [kL] at b;rw [Iw _ _ _ b,Iw _ _ _ b,FW n a C (c n hn)]
def Ok.counts {D:dR} (h:Ok C T N0 E D) (k:List UInt8) (hk:k.length=256) (u:Nat→Prop)
  (i: ∀ n,u n→n<T∧6≤n∧ ¬ nX (aH N0 E) n∧ ¬ fD (bg C T) (aH N0 E) n∧ ¬ oU (bg C T) (aH N0 E) n)
  (jI: ∀ n,n<256→gZ n+dN (bg C T) (aH N0 E) n≤aI k n) (top: ∀ n,n<256→aI k n<255) (none: ∀ n,n<256→T≤n→aI k n=0)
  (B: ∀ r ∈ aH N0 E,∀ j,j<2→32768≤nm (bg C T) r.N j→aI k (nm (bg C T) r.N j%32768)=1)
  (F: ∀ s,fD (bg C T) (aH N0 E) s→ ∀ q,q<32→32768≤nm (bg C T) s q→aI k (nm (bg C T) s q%32768)=1)
  (b:List (Nat × aj)) (l: ∀ x ∈ b,(∃ p,p<4∧x=(1+p,partOf k p))∨(u x.1∧x.2.length=64)):Ok (dG C b) T N0 E D:=by
 have H:=h.file.seven;have c:=h.sound;have key: ∀ t,6≤t→ ¬ u t→vw (dG C b) t=vw C t:=by
  intro t I hu;refine FW t b C fun x f e=> ?_;rcases l x f with ⟨p,o,rfl⟩ | ⟨d,_⟩
  ·simp only at e;omega
  ·rw [e] at d;exact hu d
 have g: ∀ n,n<256→aQ (bg (dG C b) T) n=aQ (bg C T) n∨aQ (bg (dG C b) T) n=aI k n:=by
  intro n hn;rw [OC _ _ _ om hn,OC _ _ _ om hn];rcases aam (1+n / 64) b C with e | ⟨x,f,G,y⟩
  ·rw [e];exact aA rfl
  ·rcases l x f with ⟨p,o,rfl⟩ | ⟨d,_⟩
   ·simp only at G y;rw [y,show p=n / 64 by omega,ahd];exact ay rfl
   ·have:=(i _ d).2.1;omega
 have w: ∀ r ∈ aH N0 E,∀ j,nm (bg (dG C b) T) r.N j=nm (bg C T) r.N j:=by
  intro r hr j;have a:=c.fst r hr;rw [kL] at a;rw [GU _ _ _ _ a.2,GU _ _ _ _ a.2,key _ a.1 (fun hu=>(i _ hu).2.2.1 ⟨r,hr,rfl⟩)]
 have z: ∀ s,fD (bg C T) (aH N0 E) s→ ∀ q,nm (bg (dG C b) T) s q=nm (bg C T) s q:=by
  intro s hs q;have a:=c.sec s hs;rw [kL] at a;rw [GU _ _ _ _ a.2,GU _ _ _ _ a.2,key _ a.1 (fun hu=>(i _ hu).2.2.2.1 hs)]
 refine h.change b (fun x f=> ?_) (fun n hn x f e=> ?_) ⟨fun r hr j _=>by rw [w r hr j];exact lQ.refl _,fun s hs q _=>by rw [z s hs q];exact lQ.refl _⟩ (fun n hn=> ?_) (fun n hn=> ?_) (fun n hn m=> ?_) (fun r hr j hj hm=> ?_) (fun s hs q v hm=> ?_)
 ·rcases l x f with ⟨p,o,rfl⟩ | ⟨d,A⟩
  ·exact ⟨by simp only;omega,by simp only;omega,by simp only;omega,ad2 k p hk om⟩
  ·have:=i _ d;exact ⟨this.1,om,om,A⟩
 ·have a:=c.aG n hn;rcases l x f with ⟨p,o,rfl⟩ | ⟨d,_⟩
  ·simp only at e;omega
  ·rw [e] at d;exact (i _ d).2.2.2.2 hn
 ·rcases g n hn with e | e
  ·rw [e];exact c.jI n hn
  ·rw [e];exact jI n hn
 ·rcases g n hn with e | e
  ·rw [e];exact c.top n hn
  ·rw [e];exact top n hn
 ·rcases g n hn with e | e
  ·rw [e];exact c.none n hn (by rw [kL];exact m)
  ·rw [e];exact none n hn m
 ·rw [w r hr j] at hm ⊢;have a:=c.sec _ ⟨r,hr,j,hj,om,rfl⟩;have m:=h.file.most;rw [kL] at a;rcases g (nm (bg C T) r.N j%32768) om with e | e
  ·rw [e];exact c.Dl r hr j hj hm
  ·rw [e];exact B r hr j hj hm
 ·rw [z s hs q] at hm ⊢;have a:=c.aG _ ⟨s,hs,q,v,om,rfl⟩;have m:=h.file.most;rw [kL] at a;rcases g (nm (bg C T) s q%32768) om with e | e
  ·rw [e];exact c.BI s hs q v hm
  ·rw [e];exact F s hs q v hm
def Ok.marks {D:dR} (h:Ok C T N0 E D) (c:List (Nat × aj))
  (m: ∀ x ∈ c,(nX (aH N0 E) x.1∨fD (bg C T) (aH N0 E) x.1)∧x.2.length=64∧(∀ q,q<32→lQ (num x.2 (2*q)) (nm (bg C T) x.1 q))∧
   ∀ q,q<32→32768≤num x.2 (2*q)→aQ (bg C T) (nm (bg C T) x.1 q%32768)=1):Ok (dG C c) T N0 E D:=by
 have F:=h.file.seven;have a:=h.sound;have u: ∀ x ∈ c,6≤x.1∧x.1<T:=by
  intro x f;rcases (m x f).1 with ⟨r,hr,e⟩ | hs
  ·have:=a.fst r hr
   rw [kL] at this;omega
  ·have:=a.sec _ hs
   rw [kL] at this;exact this
 have i: ∀ n,n<256→aQ (bg (dG C c) T) n=aQ (bg C T) n:=by
  intro n hn;rw [OC _ _ _ om hn,OC _ _ _ om hn,FW _ c C (fun x f e=>by have:=u x f;omega)]
 have o: ∀ t,t<T→(∀ q,q<32→nm (bg (dG C c) T) t q=nm (bg C T) t q)∨((∀ q,q<32→lQ (nm (bg (dG C c) T) t q) (nm (bg C T) t q))∧ ∀ q,q<32→32768≤nm (bg (dG C c) T) t q→aQ (bg C T) (nm (bg C T) t q%32768)=1):=by
  intro t g;rcases aam t c C with e | ⟨x,f,B,v⟩
  ·exact aA fun q _=>by rw [GU _ _ _ _ g,GU _ _ _ _ g,e]
  ·obtain ⟨_,_,w,y⟩:=m x f;rw [B] at w y;refine ay ⟨fun q b=> ?_,fun q b hm=> ?_⟩
   ·rw [GU (dG C c) _ _ _ g,v];exact w q b
   ·rw [GU (dG C c) _ _ _ g,v] at hm;exact y q b hm
 have l: ∀ t,t<T→ ∀ q,q<32→lQ (nm (bg (dG C c) T) t q) (nm (bg C T) t q):=by
  intro t g q b;rcases o t g with e | e
  ·rw [e q b];exact lQ.refl _
  ·exact e.1 q b
 have z:=h.file.most;refine h.change c (fun x f=> ?_) (fun n hn x f e=> ?_) ⟨fun r hr j hj=> ?_,fun s hs q b=> ?_⟩ (fun n hn=>by rw [i n hn];exact a.jI n hn) (fun n hn=>by rw [i n hn];exact a.top n hn) (fun n hn z=>by rw [i n hn];exact a.none n hn (by rw [kL];exact z)) (fun r hr j hj hm=> ?_) (fun s hs q b hm=> ?_)
 ·have:=u x f
  exact ⟨this.2,om,om,(m x f).2.1⟩
 ·rcases (m x f).1 with A | hs
  ·rw [e] at A;exact a.fb n A hn
  ·rw [e] at hs;exact a.sb n hs hn
 ·have d:=a.fst r hr;rw [kL] at d;exact l _ d.2 j hj
 ·have d:=a.sec s hs;rw [kL] at d;exact l _ d.2 q b
 ·have d:=a.fst r hr;rw [kL] at d;have k:=l _ d.2 j om;have h0:nm (bg C T) r.N j≠0:=fun e=>by have:=k.1.2 e;omega
  have p:=a.sec _ ⟨r,hr,j,hj,h0,rfl⟩;rw [kL] at p;rw [k.2,i _ om];rcases o _ d.2 with e | e
  ·rw [e j om] at hm;exact a.Dl r hr j hj hm
  ·exact e.2 j om hm
 ·have d:=a.sec s hs;rw [kL] at d;have k:=l _ d.2 q b;have h0:nm (bg C T) s q≠0:=fun e=>by have:=k.1.2 e;omega
  have p:=a.aG _ ⟨s,hs,q,b,h0,rfl⟩;rw [kL] at p;rw [k.2,i _ om];rcases o _ d.2 with e | e
  ·rw [e q b] at hm;exact a.BI s hs q b hm
  ·exact e.2 q b hm
def Ok.longer {D:dR} (h:Ok C T N0 E D) (a:Nat) (o:T≤a) (l:a≤256):Ok (dG C [(0,fG a N0)]) a N0 E D:=by
 have A:=h.file.qp;have B:=h.file.seven;have hle:=h.file.le;have c:=h.sound;have p:dG C [(0,fG a N0)]=iV C (0,fG a N0):=rfl;have hv:=zQ C (0,fG a N0);have hlen:=LC C (0,fG a N0);rw [p];have f: ∀ t,t≠0→vw (iV C (0,fG a N0)) t=vw C t:=fun t u=>by rw [hv,ak (fun e=>u e.symm)]
 have v:lK (iV C (0,fG a N0)) a N0 E:=by
  refine ⟨RS [(0,fG a N0)] C h.file.lens (fun x w=>by rw [iP.1 w];exact JC _ _),om,by simp only at hlen;omega,om,l,h.file.n0,?_,?_,h.file.iR⟩
  ·have:=hv 0
   rw [au rfl,ny om] at this;exact this
  ·have:=f 5 om
   rw [ny om,ny om] at this;rw [this];exact h.file.list
 have g: ∀ t,6≤t→t<T→ ∀ q,nm (bg (iV C (0,fG a N0)) a) t q=nm (bg C T) t q:=fun t F y q=>by
  rw [GU _ _ _ _ om,GU _ _ _ _ y,f t om]
 have d: ∀ n,n<256→aQ (bg (iV C (0,fG a N0)) a) n=aQ (bg C T) n:=fun n hn=>by
  rw [OC _ _ _ om hn,OC _ _ _ om hn,f _ om]
 have k:Shape (bg C T) (bg (iV C (0,fG a N0)) a) (aH N0 E):=by
  refine ⟨fun r hr j _=> ?_,fun s hs q _=> ?_⟩
  ·have b:=c.fst r hr;rw [kL] at b;rw [g _ b.1 b.2];exact lQ.refl _
  ·have b:=c.sec s hs;rw [kL] at b;rw [g _ b.1 b.2];exact lQ.refl _
 refine ⟨v,c.shape k (by rw [kL,kL];exact o) (by rw [kL];exact l) (fun n hn=>by rw [d n hn];exact c.jI n hn) (fun n hn=>by rw [d n hn];exact c.top n hn) (fun n hn z=>by rw [kL] at z;rw [d n hn];exact c.none n hn (by rw [kL];omega)) (fun r hr j hj hm=> ?_) (fun s hs q m hm=> ?_),?_⟩
 ·have b:=c.fst r hr;rw [kL] at b;rw [g _ b.1 b.2] at hm ⊢;have i:=c.sec _ ⟨r,hr,j,hj,om,rfl⟩;rw [kL] at i;rw [d _ om];exact c.Dl r hr j hj hm
 ·have b:=c.sec s hs;rw [kL] at b;rw [g _ b.1 b.2] at hm ⊢;have i:=c.aG _ ⟨s,hs,q,m,om,rfl⟩;rw [kL] at i;rw [d _ om];exact c.BI s hs q m hm
 ·rw [← h.holds];refine acj fun r hr=>k.content (fun n hn=> ?_) hr;have b:=c.aG n hn;rw [kL] at b;rw [Iw _ _ _ om,Iw _ _ _ b.2,f n om]
end
end
end Go.Proofs.YtknjjjenklfeoaaGreatDoor
