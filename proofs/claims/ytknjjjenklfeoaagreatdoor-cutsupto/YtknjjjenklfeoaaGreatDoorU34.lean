import Derived.Test.YtknjjjenklfeoaaGreatDoorU08
set_option maxHeartbeats 8000000
set_option maxRecDepth 100000
set_option linter.all false
namespace Go.Proofs.YtknjjjenklfeoaaGreatDoor
open Go.RowKit
attribute [local go_sem ↓] kV ng nD l9 nJ apa
attribute [local go_sem] kZ nT mX mV mM nN avm aV
def GI (L:List fZ) (m:Int) (k:Nat):List fZ:=List.replicate k ⟨m,zc⟩++L.drop k
def akk (L:List fZ) (m:Int) (k:Nat) (h:k≤L.length):(GI L m k).length=L.length:=by simp [GI];omega
def asJ {L:List fZ} (a: ∀ c ∈ L,c.data.length=64) (m:Int) (k:Nat): ∀ c ∈ GI L m k,c.data.length=64:=by
 intro c hc;rcases fK.1 hc with h | h
 ·rw [Mc h];exact aV
 ·exact a c (List.mem_of_mem_drop h)
def asK (L:List fZ) (m:Int) (k:Nat) (h:k<L.length):(GI L m k).set k ⟨m,zc⟩=GI L m (k+1):=by
 unfold GI;rw [J7 _ _ sm,Ai,Bg,LU h,oq,LV,tV];rfl
def Zn (N:Nat) (c:fZ):jg (List.replicate N c)++bT c=jg (List.replicate (N+1) c):=by rw [LV,XY]
def JH {w W:World} {b:Nat} {V:oM} {B:nG} {S:Nat→Prop} (h:iY w b V B S) (hk:Kept (fun k=>k=b∨V.w.ownBlock=some k∨V.wm.ownBlock=some k) w W) {base:Nat} {e:TypeId} {size:Nat} {v:Value} {n:Nat} {xs:List Value}
  (hr:w.ownsRow base e size v n xs) (c:e≠77) (d:e≠58) (f:e≠3):W.ownsRow base e size v n xs:=
 bV hk hr fun g a x=>by
  rcases x with x | x | x
  ·exact iF hr h.aG c g a x
  ·exact yO hr h.rW d g a x
  ·exact yO hr h.xR f g a x
def atW {w w6 e o:World} {b:Nat} {V:oM} {B:nG} {S:Nat→Prop} {lv one two:Value} {N c i j q:Nat} {m:Int} {t X8:Obj}
  (h:iY w6 b V B S) (F:w6.ownsRow 0 104 65 lv N (jg (List.replicate N ⟨m,zc⟩))) (G:w6.ownsRow 0 104 65 one (N+1) (jg (List.replicate (N+1) ⟨m,zc⟩))) (H:w6.ownsRow 0 104 65 two (N+2) (jg (List.replicate (N+2) ⟨m,zc⟩)))
  (o1: ∀ g,one.ownBlock=some g→lv.ownBlock=some g∨w.heap.size≤g) (o2: ∀ g,two.ownBlock=some g→lv.ownBlock=some g∨w.heap.size≤g)
  (I:Kept (fun k=>S k∨lv.ownBlock=some k) w w6)
  (s:(w6.alloc t).grownBy e V.w.ownBlock) (J:e.ownsRow 0 58 1 (.slice (some ⟨c,0,none⟩) (B.writes.length+3) i) (B.writes.length+3) (B.writes.map (·.v)++[lv,one,two])) (P:V.w.ownBlock=some c∨c=w6.heap.size+1)
  (D:((e.setCell ⟨b,4,none⟩ (.slice (some ⟨c,0,none⟩) (B.writes.length+3) i)).alloc X8).grownBy o V.wm.ownBlock)
  (u:o.ownsRow 0 3 1 (.slice (some ⟨j,0,none⟩) (B.writes.length+3) q) (B.writes.length+3) ((B.writes.map fun x=> .int .i64 x.m)++[.int .i64 m,.int .i64 m,.int .i64 m])) (Q:V.wm.ownBlock=some j∨j=e.heap.size+1)
  (A:o.heap[b]? = some (.cells (y5 { V with w:= .slice (some ⟨c,0,none⟩) (B.writes.length+3) i } B.next).toArray 77 (0,0))):
  ∃ R r K,iY (o.setCell ⟨b,5,none⟩ (.slice (some ⟨j,0,none⟩) (B.writes.length+3) q)) b R r K∧r.next=B.next∧r.writes.length=B.writes.length+3∧r.files=B.files∧r.names=B.names∧(∀ x ∈ r.writes,x ∈ B.writes∨x.n≤N+2)∧
   Kept (fun k=>S k∨lv.ownBlock=some k) w (o.setCell ⟨b,5,none⟩ (.slice (some ⟨j,0,none⟩) (B.writes.length+3) q))∧(∀ k,K k→S k∨lv.ownBlock=some k∨w.heap.size≤k):=by
 have L:Kept (fun k=>k=b∨V.w.ownBlock=some k∨V.wm.ownBlock=some k) w6 (e.setCell ⟨b,4,none⟩ (.slice (some ⟨c,0,none⟩) (B.writes.length+3) i)):=
  Kept.setCell (S:=fun k=>k=b∨V.w.ownBlock=some k∨V.wm.ownBlock=some k) (((Kept.refl _ _).alloc t).grown s (fun g a=>aA (ay (aA a)))) (p:=⟨b,4,none⟩) (aA (aA rfl)) _
 have M:Kept (fun k=>k=b∨V.w.ownBlock=some k∨V.wm.ownBlock=some k) (e.setCell ⟨b,4,none⟩ (.slice (some ⟨c,0,none⟩) (B.writes.length+3) i)) (o.setCell ⟨b,5,none⟩ (.slice (some ⟨j,0,none⟩) (B.writes.length+3) q)):=
  Kept.setCell (S:=fun k=>k=b∨V.w.ownBlock=some k∨V.wm.ownBlock=some k) (((Kept.refl _ _).alloc X8).grown D (fun g a=>aA (ay (ay a)))) (p:=⟨b,5,none⟩) (aA (aA rfl)) _
 have l:=L.trans M;have O:e.heap[b]? = some (.cells (y5 V B.next).toArray 77 (0,0)):=qW s ((jX _ _ _ h.lt').trans h.aG) (iF h.rW h.aG dc);have s1:=I.size;have s2:=L.size;have s3:=M.size;have X:=size_setCell e ⟨b,4,none⟩ (.slice (some ⟨c,0,none⟩) (B.writes.length+3) i);have T:(e.setCell ⟨b,4,none⟩ (.slice (some ⟨c,0,none⟩) (B.writes.length+3) i)).ownsRow 0 3 1 V.wm B.writes.length (B.writes.map fun x=> .int .i64 x.m):=
  bV (Kept.only e b 4 _) (AA s (h.xR.alloc t) (yO h.xR h.rW dc)) (iF h.xR h.aG dc)
 have E:(e.setCell ⟨b,4,none⟩ (.slice (some ⟨c,0,none⟩) (B.writes.length+3) i)).ownsRow 0 58 1 (.slice (some ⟨c,0,none⟩) (B.writes.length+3) i) (B.writes.length+3) (B.writes.map (·.v)++[lv,one,two]):=
  bV (Kept.only e b 4 _) J (iF J O dc)
 have C:o.ownsRow 0 58 1 (.slice (some ⟨c,0,none⟩) (B.writes.length+3) i) (B.writes.length+3) (B.writes.map (·.v)++[lv,one,two]):=
  AA D (E.alloc X8) (yO E T dc)
 refine ⟨{ V with w:= .slice (some ⟨c,0,none⟩) (B.writes.length+3) i,wm:= .slice (some ⟨j,0,none⟩) (B.writes.length+3) q },{ B with writes:=B.writes++[⟨lv,N,m⟩,⟨one,N+1,m⟩,⟨two,N+2,m⟩] },
  fun k=>S k∨lv.ownBlock=some k∨(w.heap.size≤k∧k<(o.setCell ⟨b,5,none⟩ (.slice (some ⟨j,0,none⟩) (B.writes.length+3) q)).heap.size),?_,rfl,sm,rfl,rfl,fun x d=>akA (f:=Xl.n) d sm sm sm,?_,fun k hk=>by rcases hk with x | x | x;exact aA x;exact ay (aA x);exact ay (ay x.1)⟩
 ·exact {
   aG:=by rw [heap_setCell_same _ _ _ _ _ _ _ A];rfl
   rN:=JH h l h.rN dc dc dc
   uU:=JH h l h.uU dc dc dc
   rW:=by
    have:=bV (Kept.only o b 5 (.slice (some ⟨j,0,none⟩) (B.writes.length+3) q)) C (iF C A dc)
    simpa using this
   xR:=by
    have:=bV (Kept.only o b 5 (.slice (some ⟨j,0,none⟩) (B.writes.length+3) q)) u (iF u A dc)
    simpa using this
   rF:=JH h l h.rF dc dc dc
   xQ:=JH h l h.xQ dc dc dc
   eN:=fun x d=>JH h l (h.eN x d) dc dc dc
   eW:=fun x d=>by
    rcases fK.1 d with y | y
    ·exact JH h l (h.eW x y) dc dc dc
    ·simp only [cO,jM,jO] at y;rcases y with rfl | rfl | rfl
     ·exact JH h l F dc dc dc
     ·exact JH h l G dc dc dc
     ·exact JH h l H dc dc dc
   eF:=fun x d=>JH h l (h.eF x d) dc dc dc
   apart:=h.apart
   AB:=aA h.AB
   iI:=fun g a=>by
    have U:=(u.lt j rfl).2;have W:=(C.lt c rfl).2;rcases a with x | x | x | x | x | x
    ·exact aA (h.iI g (aA x))
    ·exact aA (h.iI g (ay (aA x)))
    ·exact aA (h.iI g (ay (ay (aA x))))
    ·exact aA (h.iI g (ay (ay (ay (aA x)))))
    ·simp only [Value.ownBlock,jH] at x;subst x;rcases P with y | y
     ·exact aA (h.iI _ (ay (ay (ay (ay (aA y))))))
     ·exact ay (ay ⟨om,by rw [size_setCell];exact W⟩)
    ·simp only [Value.ownBlock,jH] at x;subst x;rcases Q with y | y
     ·exact aA (h.iI _ (ay (ay (ay (ay (ay y))))))
     ·exact ay (ay ⟨om,by rw [size_setCell];exact U⟩)
   IU:=fun x d g a=>aA (h.IU x d g a)
   IV:=fun x d g a=>by
    rcases fK.1 d with y | y
    ·exact aA (h.IV x y g a)
    ·simp only [cO,jM,jO] at y;rcases y with rfl | rfl | rfl
     ·exact ay (aA a)
     ·rcases o1 g a with z | z
      ·exact ay (aA z)
      ·exact ay (ay ⟨z,by have:=(G.lt g a).2;omega⟩)
     ·rcases o2 g a with z | z
      ·exact ay (aA z)
      ·exact ay (ay ⟨z,by have:=(H.lt g a).2;omega⟩)
   IQ:=fun x d g a=>aA (h.IQ x d g a)
   lt:=fun k hk=>by
    rcases hk with x | x | x
    ·have:=h.lt k x;omega
    ·have:=(F.lt k x).2;omega
    ·exact x.2 }
 ·refine I.trans (l.mono fun k hk=> ?_);rcases hk with rfl | x | x
  ·exact aA h.AB
  ·exact aA (h.iI k (ay (ay (ay (ay (aA x))))))
  ·exact aA (h.iI k (ay (ay (ay (ay (ay x))))))
def atV (w:World) (b:Nat) (V:oM) (B:nG) (S:Nat→Prop) (lv:Value) (L:List fZ) (h:iY w b V B S) (U:w.ownsRow 0 104 65 lv L.length (jg L)) (bh: ∀ c ∈ L,c.data.length=64)
  (aD: ∀ g,lv.ownBlock=some g→ ¬ S g) (bO:B.next≤1000000000) (bR:B.writes.length≤10000000000) (hL:L.length≤1000000000):
  Calls Tryz.prog 131 #[.pointer (some ⟨b,0,none⟩),lv] w fun e r=>e= .returned (.tuple #[])∧
   ∃ V' K S',iY r b V' K S'∧K.next=B.next+1∧K.writes.length=B.writes.length+3∧K.files=B.files∧K.names=B.names∧(∀ x ∈ K.writes,x ∈ B.writes∨x.n≤L.length+2)∧
    Kept (fun k=>S k∨lv.ownBlock=some k) w r∧(∀ k,S' k→S k∨lv.ownBlock=some k∨w.heap.size≤k):=by
 have c6:=h.cell 6;rw [show (y5 V B.next)[6]? = some (.int .i64 (B.next:Int)) from rfl] at c6;have z6:=eY h.aG 6;have h1:=h.aeE (B.next+1);have bS:(B.next:Int)≤1000000000:=om;rw [show ((B.next+1:Nat):Int)=(B.next:Int)+1 by omega] at h1;have d6:(w.setCell ⟨b,6,none⟩ (.int .i64 ((B.next:Int)+1))).cell? ⟨b,6,none⟩=some (.int .i64 ((B.next:Int)+1)):=by
  rw [h1.cell 6];show some (Value.int .i64 ((B.next+1:Nat):Int))=_;rw [show ((B.next+1:Nat):Int)=(B.next:Int)+1 by omega]
 have J:=size_setCell w ⟨b,6,none⟩ (.int .i64 ((B.next:Int)+1));have bj: ∀ (x z:fZ),x.data.length=64→z.data.length=64→(VY ⟨w.heap.size,0,none⟩ (.agg (bT x).toArray)).run Tryz.prog ((w.setCell ⟨b,6,none⟩ (.int .i64 ((B.next:Int)+1))).alloc (.cells (bT z).toArray 104))= .ok () ((w.setCell ⟨b,6,none⟩ (.int .i64 ((B.next:Int)+1))).alloc (.cells (bT x).toArray 104)):=fun x z s hz=>by
  have:=mV (w:=w.setCell ⟨b,6,none⟩ (.int .i64 ((B.next:Int)+1))) hz s
  rwa [J] at this
 have Xh:=ah J;clear J
 go_enter Tryz.func131,Tryz.ntmps131
 go_wp2;have hm: ∃ m:Int,-((B.next:Int)+1)=m:=⟨_,rfl⟩;obtain ⟨m,hm⟩:=hm;rw [hm];have Hm:=ah hm;have al:((w.setCell ⟨b,6,none⟩ (.int .i64 ((B.next:Int)+1))).alloc (.cells (bT ⟨m,zc⟩).toArray 104)).heap[w.heap.size]? = some (.cells (bT ⟨m,zc⟩).toArray 104 (0,0)):=by
  have:=aX (w.setCell ⟨b,6,none⟩ (.int .i64 ((B.next:Int)+1))) (.cells (bT ⟨m,zc⟩).toArray 104)
  rwa [uh Xh] at this
 have aE:=ah (((Kept.only w b 6 (.int .i64 ((B.next:Int)+1))).mono (T:=fun k=>S k∨lv.ownBlock=some k) (fun k hk=>aA (by rw [hk];exact h.AB))).alloc (.cells (bT ⟨m,zc⟩).toArray 104));have aL:=ah ((bV (Kept.only w b 6 (.int .i64 ((B.next:Int)+1))) U (iF U h.aG dc)).alloc (.cells (bT ⟨m,zc⟩).toArray 104));have aM:=ah (h1.below ((bG _ _).alloc (aO _) (.cells (bT ⟨m,zc⟩).toArray 104)));have aR:=ah al;have an: ∀ g,lv.ownBlock=some g→g<w.heap.size:=fun g f=>(U.lt g f).2;have Kr:=ah an;have uM:=ah aD;have HS:=ah h.lt;obtain ⟨j,a,bl⟩:=gQ U;subst bl;clear c6 z6 d6 hm h1 h U an aD bj al Xh;generalize (w.setCell ⟨b,6,none⟩ (.int .i64 ((B.next:Int)+1))).alloc (.cells (bT ⟨m,zc⟩).toArray 104)=W at*;have aq:(fZ.mk m zc).data.length=64:=aV;have M:=tN aq
 go_loopw [5] (fun i r=> ∃ k:Nat,k≤L.length∧i= .int .i64 k∧r.ownsRow 0 104 65 (.slice j L.length a) L.length (jg (GI L m k))∧iY r b V { B with next:=B.next+1 } S∧Kept (fun k=>S k∨(Value.slice j L.length a).ownBlock=some k) w r∧r.heap[w.heap.size]? = some (.cells (bT ⟨m,zc⟩).toArray 104 (0,0))) (fun i _=>L.length - (intOf i).toNat)
 case atStart=>exact ⟨0,om,rfl,uh aL,uh aM,uh aE,uh aR⟩
 case round=>
  obtain ⟨k,hk,rfl,G,ag,ai,q⟩:=hrel;clear aL aM aE aR;have l1:=sU (n:=65) (NI q) M;have l2:=qU (n:=65) (NI q) M
  by_cases ar:k<L.length
  ·obtain ⟨g,a0,e2,_⟩:=gy G om;obtain ⟨rfl,rfl⟩:j=some ⟨g,0,none⟩∧a=a0:=by injection e2 with y x2 x3;exact ⟨y,x3⟩
   have bX:(k:Int)<(L.length:Int):=om;have R:=akk L m k om;have ad:wr.ownsRow 0 104 65 (.slice (some ⟨g,0,none⟩) (GI L m k).length a) (GI L m k).length (jg (GI L m k)):=by rw [R];exact G
   have th:=axF ad k (by rw [R];exact ar);have ae:=axE ad (asJ bh m k) k (by rw [R];exact ar) ⟨m,zc⟩ aq;rw [asK L m k ar,akk L m (k+1) om,R] at ae;have b3:=uh Kr g rfl;have Js:=ah ae;have EN:=ah ag;have CP:=ah ai;have pO:=ah q;clear G ag ai q e2 ad ae R;go_wp2;go_roundw
   case rel=>
    refine ⟨k+1,om,gn,uh Js,?_,CP.setCells (b:=g) (aA (ay rfl)) _ _,by rw [UQ _ _ _ _ _ om];exact uh pO⟩;exact EN.kept (T:=fun x=>x=g) ((Kept.refl (fun x=>x=g) wr).setCells (b:=g) (aA rfl) _ _) (fun x s e=>uh uM g rfl (by rw [← e];exact s))
   case measure=>exact bW
  ·have yG:k=L.length:=om;have af:GI L m k=List.replicate L.length ⟨m,zc⟩:=by rw [yG];unfold GI;rw [aaB,sN]
   rw [af] at G;have fA:=ah G;have EN:=ah ag;have CP:=ah ai;have pO:=ah q;have bm:=aK q;clear G ag ai yG af q;obtain ⟨i0,a1,a2,a3,a4⟩:=qw Tryz.OZ;obtain ⟨i1,bn,bo,bp,bq⟩:=qw Tryz.arY;obtain ⟨i2,bs,bt,bw,bx⟩:=qw Tryz.ajz;have a5:(Value.agg (bT ⟨0,zc⟩).toArray).cells.size=65:=by simp [Value.cells,tN (x:=⟨0,zc⟩) aV]
   have a6:=ah a5;clear a5
   go_wp2_with (first
    | (
     at_builtin
     refine P7 _ rfl _ _ _ rfl 0 104 i0 _ 65 72 Tryz.underlying58 a1 a2 a3 a4 a6 om (.slice j L.length a) L.length (jg (List.replicate L.length ⟨m,zc⟩)) rfl (fA.alloc _) ⟨wr.heap.size,0,none⟩ 1 1 (bT ⟨m,zc⟩) rfl (by rw [M]) (pJ (cs:=(bT ⟨m,zc⟩).toArray) (t:=104) (fr:=(0,0)) (aX wr _)) (NU _) om (by unfold maxLen;omega) om om (wr.heap.size+1) sm ?_;intro X Q w3 aa A bN;have a7:=ah ((DZ A).aG (fun e=>by have:=uh Kr _ e;omega) ((jX wr (.cells (bT ⟨m,zc⟩).toArray 104) _ bm).trans pO));have l3:=sU (n:=65) (NI a7) M;have l4:=qU (n:=65) (NI a7) M;have a8:=ah (PG (fA.alloc (.cells (bT ⟨m,zc⟩).toArray 104)) aa A);have bA:=ah ((EN.below ((bG _ _).alloc (aO _) (.cells (bT ⟨m,zc⟩).toArray 104))).kept (DZ A) (fun x s e=>uh uM x e s)))
    | (
     at_builtin
     refine P7 _ rfl _ _ _ rfl 0 104 i0 _ 65 72 Tryz.underlying58 a1 a2 a3 a4 a6 om (.slice j L.length a) L.length (jg (List.replicate L.length ⟨m,zc⟩)) rfl (a8.alloc _) ⟨w3.heap.size,0,none⟩ 2 2 (bT ⟨m,zc⟩++bT ⟨m,zc⟩) rfl (by rw [oL,M]) (pJ (cs:=(bT ⟨m,zc⟩++bT ⟨m,zc⟩).toArray) (t:=104) (fr:=(0,0)) (aX w3 _)) (by intro u hu;rcases fK.1 hu with x | x <;> exact NU _ u x) om (by unfold maxLen;omega) om om (w3.heap.size+1) sm ?_;intro C H w6 ab N b4;have d:=ah ((bA.below ((bG _ _).alloc (aO _) (.cells (bT ⟨m,zc⟩++bT ⟨m,zc⟩).toArray 104))).kept (DZ N) (fun x s e=>uh uM x e s));have c2:w6.cell? ⟨b,4,none⟩=some V.w:=d.cell 4)
    | (
     at_builtin
     refine yc _ rfl _ _ _ rfl 0 58 i1 _ 1 24 Tryz.underlying74 bn bo bp bq rfl om V.w B.writes.length (B.writes.map (·.v)) rfl (d.rW.alloc _) ⟨w6.heap.size,0,none⟩ 3 3 [.slice j L.length a,.slice (some ⟨X,0,none⟩) (L.length+1) Q,.slice (some ⟨C,0,none⟩) (L.length+2) H] rfl rfl (pJ (cs:= #[.slice j L.length a,.slice (some ⟨X,0,none⟩) (L.length+1) Q,.slice (some ⟨C,0,none⟩) (L.length+2) H]) (t:=58) (fr:=(0,0)) (aX w6 _)) (by simp [Value.oneCell']) om (by unfold maxLen;omega) om om (w6.heap.size+1) sm ?_;intro D E l Rh Gz QX b5;have b7:=ah (qW Gz (d.below ((bG _ _).alloc (aO _) (.cells #[.slice j L.length a,.slice (some ⟨X,0,none⟩) (L.length+1) Q,.slice (some ⟨C,0,none⟩) (L.length+2) H] 58))).aG (iF d.rW d.aG dc));have bB:l.cell? ⟨b,4,none⟩=some V.w:=(aF b7 4).trans rfl;have bE:l.cell? ⟨b,5,none⟩=some V.wm:=(aF b7 5).trans rfl
     have z7: ∀ i,l.frozen? ⟨b,i,none⟩=false:=fun i=>eY b7 i;have R9:=ah (bV (Kept.only l b 4 (.slice (some ⟨D,0,none⟩) (B.writes.length+3) E)) (AA Gz (d.xR.alloc _) (yO d.xR d.rW dc)) (iF d.xR d.aG dc)))
    | fail)
   have Va:jg (List.replicate L.length ⟨m,zc⟩)++(bT ⟨m,zc⟩++bT ⟨m,zc⟩)=jg (List.replicate (L.length+2) ⟨m,zc⟩):=by rw [← tV,Zn,Zn]
   have a9:=PG (a8.alloc (.cells (bT ⟨m,zc⟩++bT ⟨m,zc⟩).toArray 104)) ab N;have av:w6.ownsRow 0 104 65 (.slice (some ⟨C,0,none⟩) (L.length+2) H) (L.length+2) (jg (List.replicate (L.length+2) ⟨m,zc⟩)):=by rw [← Va];exact ab
   have Yo:=aa;rw [Zn] at Yo;have ba:=CP.size;have bb:w6.ownsRow 0 104 65 (.slice (some ⟨X,0,none⟩) (L.length+1) Q) (L.length+1) (jg (List.replicate (L.length+1) ⟨m,zc⟩)):=by
    have aw:(jg (List.replicate (L.length+1) (fZ.mk m zc))).length=(L.length+1)*65:=by
     rw [Nb _ (by intro c hc;rw [Mc hc];exact aq),Ai]
    rcases N with ⟨Y,ax⟩ | ⟨_,ax⟩
    ·rcases A with ⟨O,_⟩ | ⟨O,_⟩
     ·rw [Y] at O;injection O with y _ x3;injection y with y;injection y with y _ _;subst y;subst x3;have bL:w6.ownsRow 0 104 65 (.slice (some ⟨C,0,none⟩) (L.length+1+1) H) (L.length+1+1) (jg (List.replicate (L.length+1) ⟨m,zc⟩)++bT ⟨m,zc⟩):=by rw [Zn];exact av
      exact VK bL aw
     ·refine AA ax (Yo.alloc _) (fun g f x=> ?_);simp only [Value.ownBlock,jH] at f x
      have:=uh Kr C (by rw [Y];rfl)
      omega
    ·exact AA ax (Yo.alloc _) (fun g f x=>by cases x)
   have o1: ∀ g,(Value.slice (some ⟨X,0,none⟩) (L.length+1) Q).ownBlock=some g→(Value.slice j L.length a).ownBlock=some g∨w.heap.size≤g:=fun g f=>by
    simp only [Value.ownBlock,jH] at f;subst f;rcases A with ⟨O,_⟩ | ⟨O,_⟩
    ·exact aA (by rw [O];rfl)
    ·exact ay om
   have az:=(CP.alloc (.cells (bT ⟨m,zc⟩).toArray 104)).trans ((DZ A).mono (T:=fun k=>S k∨(Value.slice j L.length a).ownBlock=some k) (fun k hk=>ay hk));have o2: ∀ g,(Value.slice (some ⟨C,0,none⟩) (L.length+2) H).ownBlock=some g→(Value.slice j L.length a).ownBlock=some g∨w.heap.size≤g:=fun g f=>by
    simp only [Value.ownBlock,jH] at f;subst f;rcases N with ⟨Y,_⟩ | ⟨Y,_⟩
    ·exact aA (by rw [Y];rfl)
    ·exact ay (by have:=az.size;omega)
   have bd:=(az.alloc (.cells (bT ⟨m,zc⟩++bT ⟨m,zc⟩).toArray 104)).trans ((DZ N).mono (T:=fun k=>S k∨(Value.slice j L.length a).ownBlock=some k) (fun k hk=>ay hk));have hE: ∀ (p:World) (P lS:Nat) (X8:Obj),((l.setCell ⟨b,4,none⟩ (.slice (some ⟨D,0,none⟩) (B.writes.length+3) E)).alloc X8).drew.grownBy p V.wm.ownBlock→
     p.ownsRow 0 3 1 (.slice (some ⟨P,0,none⟩) (B.writes.length+3) lS) (B.writes.length+3) ((B.writes.map fun x=> .int .i64 x.m)++[.int .i64 m,.int .i64 m,.int .i64 m])→(V.wm.ownBlock=some P∨P=l.heap.size+1)→
     p.heap[b]? = some (.cells (y5 { V with w:= .slice (some ⟨D,0,none⟩) (B.writes.length+3) E } (B.next+1)).toArray 77 (0,0))→_:=
    fun p P lS X8 Z p2 p3 p4=>atW (X8:=X8) d a9 bb av o1 o2 bd Gz Rh QX ⟨Z.os,Z.tape,Z.output,Z.size,Z.block⟩ p2 p3 p4
   have HE:=ah hE;clear Va a9 av Yo ba bb o1 o2 az bd hE aa A ab N Rh Gz QX;have J:=size_setCell l ⟨b,4,none⟩ (.slice (some ⟨D,0,none⟩) (B.writes.length+3) E);have ao:(l.setCell ⟨b,4,none⟩ (.slice (some ⟨D,0,none⟩) (B.writes.length+3) E)).heap[b]? = some (.cells (y5 { V with w:= .slice (some ⟨D,0,none⟩) (B.writes.length+3) E } (B.next+1)).toArray 77 (0,0)):=by rw [heap_setCell_same _ _ _ _ _ _ _ (uh b7)];rfl
   have Xh:=ah J;have I:=ah ao;clear J ao l1 l2 l3 l4 c2 bB bE z7;generalize bf:l.setCell ⟨b,4,none⟩ (.slice (some ⟨D,0,none⟩) (B.writes.length+3) E)=F at*;have b6:=ah bf;clear bf;have c5:F.cell? ⟨b,5,none⟩=some V.wm:=(aF I 5).trans rfl;have c6:F.cell? ⟨b,6,none⟩=some (.int .i64 ((B.next:Int)+1)):=by
    rw [aF (uh I) 6];show some (Value.int .i64 ((B.next+1:Nat):Int))=_;rw [show ((B.next+1:Nat):Int)=(B.next:Int)+1 by omega]
   have b9: ∀ o,(F.alloc o).cell? ⟨b,5,none⟩=some V.wm:=fun o=>by rw [NY _ _ _ (aK (uh I))];exact c5
   have z7: ∀ i,F.frozen? ⟨b,i,none⟩=false:=fun i=>eY I i;have ca:IntKind.i64.wrap (-((B.next:Int)+1))=m:=by rw [FY _ om];exact uh Hm
   go_region_law ((refine JZ _ (by rfl) _ _ _ (by rfl) 0 3 i2 _ 1 8 Tryz.underlying75 bs bt bw bx rfl om V.wm B.writes.length (B.writes.map fun x=> .int .i64 x.m) (by rfl) ((R9.alloc _).drew) ⟨F.heap.size,0,none⟩ 3 3 [.int .i64 m,.int .i64 m,.int .i64 m] (by rfl) (by rfl) (pJ (cs:= #[.int .i64 m,.int .i64 m,.int .i64 m]) (t:=3) (fr:=(0,0)) (aX F _)) (by simp [Value.oneCell']) om (by unfold maxLen;omega) om om (F.heap.size+1) sm ?_;intro P lS p Fz Ed IK Yl;have b8:=ah (qW Ed ((jX _ _ _ (aK I)).trans I) (fun g f=>iF d.xR d.aG dc g f));have cb:p.cell? ⟨b,5,none⟩=some V.wm:=(aF b8 5).trans rfl;have z8: ∀ i,p.frozen? ⟨b,i,none⟩=false:=fun i=>eY b8 i))
   all_goals
    go_wp2
    go_end0
    exact ⟨rfl,uh HE p P lS _ Ed Fz (by rw [← uh Xh];exact IK) b8⟩
end Go.Proofs.YtknjjjenklfeoaaGreatDoor
