import Derived.Test.YtknjjjenklfeoaaGreatDoorU07
set_option maxHeartbeats 8000000
set_option maxRecDepth 100000
set_option linter.all false
namespace Go.Proofs.YtknjjjenklfeoaaGreatDoor
open Go.RowKit
section
attribute [local go_sem ↓] dw fP fV kQ ag3
attribute [local go_sem] dM fO fU aV kW al4
def iY.cell {w:World} {b:Nat} {V:oM} {B:nG} {S:Nat→Prop} (h:iY w b V B S) (i:Nat):w.cell? ⟨b,i,none⟩=(y5 V B.next)[i]? := by rw [aF h.aG,bZ]
def iY.lt' {w:World} {b:Nat} {V:oM} {B:nG} {S:Nat→Prop} (h:iY w b V B S):b<w.heap.size:=aK h.aG
def iY.aeE {w:World} {b:Nat} {V:oM} {B:nG} {S:Nat→Prop} (h:iY w b V B S) (q:Nat):iY (w.setCell ⟨b,6,none⟩ (.int .i64 (q:Int))) b V { B with next:=q } S:=by
 have hk:=Kept.only w b 6 (.int .i64 (q:Int));exact {
  aG:=by rw [heap_setCell_same _ _ _ _ _ _ _ h.aG];rfl
  rN:=bV hk h.rN (iF h.rN h.aG dc)
  uU:=bV hk h.uU (iF h.uU h.aG dc)
  rF:=bV hk h.rF (iF h.rF h.aG dc)
  xQ:=bV hk h.xQ (iF h.xQ h.aG dc)
  rW:=bV hk h.rW (iF h.rW h.aG dc)
  xR:=bV hk h.xR (iF h.xR h.aG dc)
  eN:=fun x a=>bV hk (h.eN x a) (iF (h.eN x a) h.aG dc)
  eF:=fun x a=>bV hk (h.eF x a) (iF (h.eF x a) h.aG dc)
  eW:=fun x a=>bV hk (h.eW x a) (iF (h.eW x a) h.aG dc)
  apart:=h.apart,AB:=h.AB,iI:=h.iI,IU:=h.IU,IQ:=h.IQ,IV:=h.IV
  lt:=fun k c=>iL (h.lt k c) hk.size }
def Tryz.arW:(Tryz.prog.info? 28).map (fun i=>(i.zero,i.size,i.bytes))=some (some (.slice none 0 0),1,24):=kr
def Tryz.arZ:(Tryz.prog.info? 5).map (fun i=>(i.zero,i.size,i.bytes))=some (some (.int .u8 0),1,1):=kr
def size_setCell (w:World) (a:Addr) (v:Value):(w.setCell a v).heap.size=w.heap.size:=by simp [World.setCell]
def yO {w:World} {base c:Nat} {e b:TypeId} {size d:Nat} {v v':Value} {n j:Nat} {xs f:List Value} (h:w.ownsRow base e size v n xs) (k:w.ownsRow c b d v' j f) (i:e≠b): ∀ g,v.ownBlock=some g→v'.ownBlock≠some g:=by
 intro g l a;rcases k.2 with ⟨rfl,_⟩ | ⟨o,cap,cur,rfl,_,m,_⟩
 ·cases a
 ·simp only [Value.ownBlock,jH] at a;subst a;exact iF h m i _ l rfl
def Dp (L:List aj) (m:UInt8) (k:Nat):List aj:=List.replicate k (dV m)++L.drop k
def YJ (L:List aj) (m:UInt8) (k:Nat) (h:k≤L.length):(Dp L m k).length=L.length:=by simp [Dp];omega
def aki {L:List aj} (a: ∀ c ∈ L,c.length=64) (m:UInt8) (k:Nat): ∀ c ∈ Dp L m k,c.length=64:=by
 intro c hc;rcases fK.1 hc with h | h
 ·rw [Mc h];exact Dn m
 ·exact a c (List.mem_of_mem_drop h)
def akj (L:List aj) (m:UInt8) (k:Nat) (h:k<L.length):(Dp L m k).set k (dV m)=Dp L m (k+1):=by
 unfold Dp;rw [J7 _ _ sm,Ai,Bg,LU h,oq,LV,tV];rfl
def Zo (N:Nat) (c:aj):aS (List.replicate N c)++cv c=aS (List.replicate (N+1) c):=by rw [LV,QN]
def JG {w W:World} {b:Nat} {V:oM} {B:nG} {S:Nat→Prop} (h:iY w b V B S) (hk:Kept (fun k=>k=b∨V.f.ownBlock=some k∨V.fm.ownBlock=some k) w W) {base:Nat} {e:TypeId} {size:Nat} {v:Value} {n:Nat} {xs:List Value}
  (hr:w.ownsRow base e size v n xs) (c:e≠77) (d:e≠28) (i:e≠5):W.ownsRow base e size v n xs:=
 bV hk hr fun g a x=>by
  rcases x with x | x | x
  ·exact iF hr h.aG c g a x
  ·exact yO hr h.rF d g a x
  ·exact yO hr h.xQ i g a x
def akA {α:Type} {l:List α} {a b c x:α} {f:α→Nat} {n:Nat} (d:x ∈ l++[a,b,c]) (e:f a≤n) (g:f b≤n) (hc:f c≤n):x ∈ l∨f x≤n:=by
 rcases fK.1 d with y | y
 ·exact aA y
 ·simp only [cO,jM,jO] at y;rcases y with rfl | rfl | rfl
  ·exact ay e
  ·exact ay g
  ·exact ay hc
def atU {w w6 e o:World} {b:Nat} {V:oM} {B:nG} {S:Nat→Prop} {lv one two:Value} {N c i j q:Nat} {m:UInt8} {t X8:Obj}
  (h:iY w6 b V B S) (F:w6.ownsRow 0 38 64 lv N (aS (List.replicate N (dV m)))) (G:w6.ownsRow 0 38 64 one (N+1) (aS (List.replicate (N+1) (dV m)))) (H:w6.ownsRow 0 38 64 two (N+2) (aS (List.replicate (N+2) (dV m))))
  (o1: ∀ g,one.ownBlock=some g→lv.ownBlock=some g∨w.heap.size≤g) (o2: ∀ g,two.ownBlock=some g→lv.ownBlock=some g∨w.heap.size≤g)
  (I:Kept (fun k=>S k∨lv.ownBlock=some k) w w6)
  (s:(w6.alloc t).grownBy e V.f.ownBlock) (J:e.ownsRow 0 28 1 (.slice (some ⟨c,0,none⟩) (B.files.length+3) i) (B.files.length+3) (B.files.map (·.v)++[lv,one,two])) (P:V.f.ownBlock=some c∨c=w6.heap.size+1)
  (D:((e.setCell ⟨b,2,none⟩ (.slice (some ⟨c,0,none⟩) (B.files.length+3) i)).alloc X8).grownBy o V.fm.ownBlock)
  (u:o.ownsRow 0 5 1 (.slice (some ⟨j,0,none⟩) (B.files.length+3) q) (B.files.length+3) ((B.files.map fun x=> .int .u8 (x.m.toNat:Int))++[.int .u8 (m.toNat:Int),.int .u8 (m.toNat:Int),.int .u8 (m.toNat:Int)])) (Q:V.fm.ownBlock=some j∨j=e.heap.size+1)
  (A:o.heap[b]? = some (.cells (y5 { V with f:= .slice (some ⟨c,0,none⟩) (B.files.length+3) i } B.next).toArray 77 (0,0))):
  ∃ R r K,iY (o.setCell ⟨b,3,none⟩ (.slice (some ⟨j,0,none⟩) (B.files.length+3) q)) b R r K∧r.next=B.next∧r.files.length=B.files.length+3∧r.writes=B.writes∧r.names=B.names∧(∀ x ∈ r.files,x ∈ B.files∨x.n≤N+2)∧
   Kept (fun k=>S k∨lv.ownBlock=some k) w (o.setCell ⟨b,3,none⟩ (.slice (some ⟨j,0,none⟩) (B.files.length+3) q))∧(∀ k,K k→S k∨lv.ownBlock=some k∨w.heap.size≤k):=by
 have L:Kept (fun k=>k=b∨V.f.ownBlock=some k∨V.fm.ownBlock=some k) w6 (e.setCell ⟨b,2,none⟩ (.slice (some ⟨c,0,none⟩) (B.files.length+3) i)):=
  Kept.setCell (S:=fun k=>k=b∨V.f.ownBlock=some k∨V.fm.ownBlock=some k) (((Kept.refl _ _).alloc t).grown s (fun g a=>aA (ay (aA a)))) (p:=⟨b,2,none⟩) (aA (aA rfl)) _
 have M:Kept (fun k=>k=b∨V.f.ownBlock=some k∨V.fm.ownBlock=some k) (e.setCell ⟨b,2,none⟩ (.slice (some ⟨c,0,none⟩) (B.files.length+3) i)) (o.setCell ⟨b,3,none⟩ (.slice (some ⟨j,0,none⟩) (B.files.length+3) q)):=
  Kept.setCell (S:=fun k=>k=b∨V.f.ownBlock=some k∨V.fm.ownBlock=some k) (((Kept.refl _ _).alloc X8).grown D (fun g a=>aA (ay (ay a)))) (p:=⟨b,3,none⟩) (aA (aA rfl)) _
 have l:=L.trans M;have O:e.heap[b]? = some (.cells (y5 V B.next).toArray 77 (0,0)):=qW s ((jX _ _ _ h.lt').trans h.aG) (iF h.rF h.aG dc);have s1:=I.size;have s2:=L.size;have s3:=M.size;have X:=size_setCell e ⟨b,2,none⟩ (.slice (some ⟨c,0,none⟩) (B.files.length+3) i);have T:(e.setCell ⟨b,2,none⟩ (.slice (some ⟨c,0,none⟩) (B.files.length+3) i)).ownsRow 0 5 1 V.fm B.files.length (B.files.map fun x=> .int .u8 (x.m.toNat:Int)):=
  bV (Kept.only e b 2 _) (AA s (h.xQ.alloc t) (yO h.xQ h.rF dc)) (iF h.xQ h.aG dc)
 have E:(e.setCell ⟨b,2,none⟩ (.slice (some ⟨c,0,none⟩) (B.files.length+3) i)).ownsRow 0 28 1 (.slice (some ⟨c,0,none⟩) (B.files.length+3) i) (B.files.length+3) (B.files.map (·.v)++[lv,one,two]):=
  bV (Kept.only e b 2 _) J (iF J O dc)
 have C:o.ownsRow 0 28 1 (.slice (some ⟨c,0,none⟩) (B.files.length+3) i) (B.files.length+3) (B.files.map (·.v)++[lv,one,two]):=
  AA D (E.alloc X8) (yO E T dc)
 refine ⟨{ V with f:= .slice (some ⟨c,0,none⟩) (B.files.length+3) i,fm:= .slice (some ⟨j,0,none⟩) (B.files.length+3) q },{ B with files:=B.files++[⟨lv,N,m⟩,⟨one,N+1,m⟩,⟨two,N+2,m⟩] },
  fun k=>S k∨lv.ownBlock=some k∨(w.heap.size≤k∧k<(o.setCell ⟨b,3,none⟩ (.slice (some ⟨j,0,none⟩) (B.files.length+3) q)).heap.size),?_,rfl,sm,rfl,rfl,fun x d=>akA (f:=WS.n) d sm sm sm,?_,fun k hk=>by rcases hk with x | x | x;exact aA x;exact ay (aA x);exact ay (ay x.1)⟩
 ·exact {
   aG:=by rw [heap_setCell_same _ _ _ _ _ _ _ A];rfl
   rN:=JG h l h.rN dc dc dc
   uU:=JG h l h.uU dc dc dc
   rF:=by
    have:=bV (Kept.only o b 3 (.slice (some ⟨j,0,none⟩) (B.files.length+3) q)) C (iF C A dc)
    simpa using this
   xQ:=by
    have:=bV (Kept.only o b 3 (.slice (some ⟨j,0,none⟩) (B.files.length+3) q)) u (iF u A dc)
    simpa using this
   rW:=JG h l h.rW dc dc dc
   xR:=JG h l h.xR dc dc dc
   eN:=fun x d=>JG h l (h.eN x d) dc dc dc
   eF:=fun x d=>by
    rcases fK.1 d with y | y
    ·exact JG h l (h.eF x y) dc dc dc
    ·simp only [cO,jM,jO] at y;rcases y with rfl | rfl | rfl
     ·exact JG h l F dc dc dc
     ·exact JG h l G dc dc dc
     ·exact JG h l H dc dc dc
   eW:=fun x d=>JG h l (h.eW x d) dc dc dc
   apart:=h.apart
   AB:=aA h.AB
   iI:=fun g a=>by
    have U:=(u.lt j rfl).2;have W:=(C.lt c rfl).2;rcases a with x | x | x | x | x | x
    ·exact aA (h.iI g (aA x))
    ·exact aA (h.iI g (ay (aA x)))
    ·simp only [Value.ownBlock,jH] at x;subst x;rcases P with y | y
     ·exact aA (h.iI _ (ay (ay (aA y))))
     ·exact ay (ay ⟨om,by rw [size_setCell];exact W⟩)
    ·simp only [Value.ownBlock,jH] at x;subst x;rcases Q with y | y
     ·exact aA (h.iI _ (ay (ay (ay (aA y)))))
     ·exact ay (ay ⟨om,by rw [size_setCell];exact U⟩)
    ·exact aA (h.iI g (ay (ay (ay (ay (aA x))))))
    ·exact aA (h.iI g (ay (ay (ay (ay (ay x))))))
   IU:=fun x d g a=>aA (h.IU x d g a)
   IQ:=fun x d g a=>by
    rcases fK.1 d with y | y
    ·exact aA (h.IQ x y g a)
    ·simp only [cO,jM,jO] at y;rcases y with rfl | rfl | rfl
     ·exact ay (aA a)
     ·rcases o1 g a with z | z
      ·exact ay (aA z)
      ·exact ay (ay ⟨z,by have:=(G.lt g a).2;omega⟩)
     ·rcases o2 g a with z | z
      ·exact ay (aA z)
      ·exact ay (ay ⟨z,by have:=(H.lt g a).2;omega⟩)
   IV:=fun x d g a=>aA (h.IV x d g a)
   lt:=fun k hk=>by
    rcases hk with x | x | x
    ·have:=h.lt k x;omega
    ·have:=(F.lt k x).2;omega
    ·exact x.2 }
 ·refine I.trans (l.mono fun k hk=> ?_);rcases hk with rfl | x | x
  ·exact aA h.AB
  ·exact aA (h.iI k (ay (ay (aA x))))
  ·exact aA (h.iI k (ay (ay (ay (aA x)))))
def atT (w:World) (b:Nat) (V:oM) (B:nG) (S:Nat→Prop) (lv:Value) (L:List aj) (h:iY w b V B S) (I:w.ownsRow 0 38 64 lv L.length (aS L)) (bn: ∀ c ∈ L,c.length=64)
  (ax: ∀ g,lv.ownBlock=some g→ ¬ S g) (bR:B.next≤1000000000) (bS:B.files.length≤10000000000) (hL:L.length≤1000):
  Calls Tryz.prog 130 #[.pointer (some ⟨b,0,none⟩),lv] w fun e w'=>e= .returned (.tuple #[])∧
   ∃ Y F S',iY w' b Y F S'∧F.next=B.next+1∧F.files.length=B.files.length+3∧F.writes=B.writes∧F.names=B.names∧(∀ x ∈ F.files,x ∈ B.files∨x.n≤L.length+2)∧
    Kept (fun k=>S k∨lv.ownBlock=some k) w w'∧(∀ k,S' k→S k∨lv.ownBlock=some k∨w.heap.size≤k):=by
 have c6:=h.cell 6;rw [show (y5 V B.next)[6]? = some (.int .i64 (B.next:Int)) from rfl] at c6;have z6:=eY h.aG 6;have Z:=h.aeE (B.next+1);have bX:(B.next:Int)≤1000000000:=om;rw [show ((B.next+1:Nat):Int)=(B.next:Int)+1 by omega] at Z;have d6:(w.setCell ⟨b,6,none⟩ (.int .i64 ((B.next:Int)+1))).cell? ⟨b,6,none⟩=some (.int .i64 ((B.next:Int)+1)):=by
  rw [Z.cell 6];show some (Value.int .i64 ((B.next+1:Nat):Int))=_;rw [show ((B.next+1:Nat):Int)=(B.next:Int)+1 by omega]
 go_enter Tryz.func130,Tryz.ntmps130
 go_wp2;obtain ⟨m,hm⟩: ∃ m:UInt8,((B.next:Int)+1)%256=(m.toNat:Int):=⟨UInt8.ofNat ((B.next+1)%256),sm⟩;rw [hm];have az:=ah ((Kept.only w b 6 (.int .i64 ((B.next:Int)+1))).mono (T:=fun k=>S k∨lv.ownBlock=some k) (fun k hk=>aA (by rw [hk];exact h.AB)));have aD:=ah (bV (Kept.only w b 6 (.int .i64 ((B.next:Int)+1))) I (iF I h.aG dc));have aE:=ah Z;have ai: ∀ g,lv.ownBlock=some g→g<w.heap.size:=fun g l=>(I.lt g l).2;have Kr:=ah ai;have uM:=ah ax;have HS:=ah h.lt;obtain ⟨d,a,aL⟩:=gQ I;have b3:=ah aL;subst aL;clear c6 z6 d6 hm Z h I ai ax;generalize w.setCell ⟨b,6,none⟩ (.int .i64 ((B.next:Int)+1))=W at*;have ab:=KZ m;have Xd:=ah ab;clear ab;have Yn:=Dn m
 go_loopw [5] (fun i w'=> ∃ k:Nat,k≤L.length∧i= .int .i64 k∧w'.ownsRow 0 38 64 (.slice d L.length a) L.length (aS (Dp L m k))∧iY w' b V { B with next:=B.next+1 } S∧Kept (fun k=>S k∨(Value.slice d L.length a).ownBlock=some k) w w') (fun i _=>L.length - (intOf i).toNat)
 case atStart=>exact ⟨0,om,rfl,uh aD,uh aE,uh az⟩
 case round=>
  obtain ⟨k,hk,rfl,A,U,X⟩:=hrel;clear aD aE az
  by_cases al:k<L.length
  ·obtain ⟨g,aM,e2,_⟩:=gy A om;obtain ⟨rfl,rfl⟩:d=some ⟨g,0,none⟩∧a=aM:=by injection e2 with p x2 x3;exact ⟨p,x3⟩
   have b4:(k:Int)<(L.length:Int):=om;have J:=ah A;have K:=ah U;have M:=ah X;clear A U X e2
   go_wp2_with fail
   refine (uh Xd wr).mono ?_;rintro e w2 ⟨rfl,o⟩;have aR:=bV (Kept.dQ (S:=fun _=>False) o) J (fun _ _=>id);have H:=YJ L m k om;have ad:w2.ownsRow 0 38 64 (.slice (some ⟨g,0,none⟩) (Dp L m k).length a) (Dp L m k).length (aS (Dp L m k)):=by rw [H];exact aR
   have th:=VL ad k (by rw [H];exact al);have ae:=Zq ad (aki bn m k) k (by rw [H];exact al) (dV m) Yn;rw [akj L m k al,YJ L m (k+1) om,H] at ae;have Js:=ah ae;have WZ:=ah (K.below o);have N:=ah (M.trans (Kept.dQ o));clear aR ad ae o J K M H;go_wp2;go_roundw
   case rel=>
    refine ⟨k+1,om,gn,uh Js,?_,N.setCells (b:=g) (aA (ay rfl)) _ _⟩;exact WZ.kept (T:=fun x=>x=g) ((Kept.refl (fun x=>x=g) w2).setCells (b:=g) (aA rfl) _ _) (fun x O e=>uh uM g rfl (by rw [← e];exact O))
   case measure=>exact bW
  ·have yG:k=L.length:=om;have af:Dp L m k=List.replicate L.length (dV m):=by rw [yG];unfold Dp;rw [aaB,sN]
   rw [af] at A;have J:=ah A;have K:=ah U;have M:=ah X;clear A U X yG af
   go_wp2_with fail
   refine (uh Xd wr).mono ?_;rintro e w2 ⟨rfl,o⟩;have an:=ah (bV (Kept.dQ (S:=fun _=>False) o) J (fun _ _=>id));have WZ:=ah (K.below o);have N:=ah (M.trans (Kept.dQ o));clear o J K M;obtain ⟨i0,a0,a1,a2,a3⟩:=qw Tryz.KY
   go_wp2_with (at_builtin;refine P7 _ rfl _ _ _ rfl 0 38 i0 _ 64 64 Tryz.underlying28 a0 a1 a2 a3 (by simp [Value.cells,bC,aV]) om (.slice d L.length a) L.length (aS (List.replicate L.length (dV m))) rfl (an.alloc _) ⟨w2.heap.size,0,none⟩ 1 1 (cv (dV m)) rfl (by rw [bC,Yn]) (pJ (cs:=(cv (dV m)).toArray) (t:=38) (fr:=(0,0)) (aX w2 _)) (Au _) om (by unfold maxLen;omega) om om (w2.heap.size+1) sm ?_;intro r C w3 aa zY bO)
   have a4:=ah (an.alloc (.cells (cv (dV m)).toArray 38));have a5:=ah aa;have ao:=ah (DZ zY);have a6:=ah (PG a4 aa zY);have a7:=ah (WZ.below ((bG _ _).alloc (aO _) (.cells (cv (dV m)).toArray 38)));have a8:=ah (a7.kept ao (fun x O e=>uh uM x e O));have a9:=ah ((N.alloc (.cells (cv (dV m)).toArray 38)).trans (ao.mono (T:=fun k=>S k∨(Value.slice d L.length a).ownBlock=some k) (fun k hk=>ay hk)));have ba:Hid ((Value.slice d L.length a= .slice (some ⟨r,0,none⟩) L.length C)∨(w.heap.size≤r)):=by
    rcases zY with ⟨e1,_⟩ | ⟨e1,_⟩
    ·exact aA e1
    ·exact ay (by have:=N.size;omega)
   clear aa zY an WZ N a4 a7 ao;refine (uh Xd w3).mono ?_;rintro e w4 ⟨rfl,aq⟩
   go_wp2_with fail
   refine (uh Xd w4).mono ?_;rintro e w5 ⟨rfl,bb⟩;have G:=aq.trans (bb.mono aq.size);have bd:=ah (bV (Kept.dQ (S:=fun _=>False) G) a6 (fun _ _=>id));have bo:=ah (bV (Kept.dQ (S:=fun _=>False) G) a5 (fun _ _=>id));have bp:=ah (a8.below G);have bf:=ah (a9.trans (Kept.dQ G));clear aq bb G a6 a5 a8 a9;obtain ⟨i1,bq,bt,bw,bx⟩:=qw Tryz.arW;obtain ⟨i2,bA,bB,bE,bL⟩:=qw Tryz.arZ;have bh: ∀ (w':World) (Y:oM) (q:Nat) (i:Nat),w'.heap[b]? = some (.cells (y5 Y q).toArray 77 (0,0))→w'.frozen? ⟨b,i,none⟩=false:=fun w' Y q i hh=>eY hh i;have b5:=ah bh;clear bh
   go_wp2_with (first
    | (
     at_builtin
     refine P7 _ rfl _ _ _ rfl 0 38 i0 _ 64 64 Tryz.underlying28 a0 a1 a2 a3 (by simp [Value.cells,bC,aV]) om (.slice d L.length a) L.length (aS (List.replicate L.length (dV m))) rfl (bd.alloc _) ⟨w5.heap.size,0,none⟩ 2 2 (cv (dV m)++cv (dV m)) rfl (by rw [oL,bC,Yn]) (pJ (cs:=(cv (dV m)++cv (dV m)).toArray) (t:=38) (fr:=(0,0)) (aX w5 _)) (by intro u hu;rcases fK.1 hu with x | x <;> exact Au _ u x) om (by unfold maxLen;omega) om om (w5.heap.size+1) sm ?_;intro s D w6 ag P b6;have j:=ah ((bp.below ((bG _ _).alloc (aO _) (.cells (cv (dV m)++cv (dV m)).toArray 38))).kept (DZ P) (fun x O e=>uh uM x e O));have c2:w6.cell? ⟨b,2,none⟩=some V.f:=j.cell 2)
    | (
     at_builtin
     refine yc _ rfl _ _ _ rfl 0 28 i1 _ 1 24 Tryz.underlying72 bq bt bw bx rfl om V.f B.files.length (B.files.map (·.v)) rfl (j.rF.alloc _) ⟨w6.heap.size,0,none⟩ 3 3 [.slice d L.length a,.slice (some ⟨r,0,none⟩) (L.length+1) C,.slice (some ⟨s,0,none⟩) (L.length+2) D] rfl rfl (pJ (cs:= #[.slice d L.length a,.slice (some ⟨r,0,none⟩) (L.length+1) C,.slice (some ⟨s,0,none⟩) (L.length+2) D]) (t:=28) (fr:=(0,0)) (aX w6 _)) (by simp [Value.oneCell']) om (by unfold maxLen;omega) om om (w6.heap.size+1) sm ?_;intro g7 jD y Rh Gz QX b9;have Q:=ah (qW Gz (j.below ((bG _ _).alloc (aO _) (.cells #[.slice d L.length a,.slice (some ⟨r,0,none⟩) (L.length+1) C,.slice (some ⟨s,0,none⟩) (L.length+2) D] 28))).aG (iF j.rF j.aG dc));have ca:y.cell? ⟨b,2,none⟩=some V.f:=(aF Q 2).trans rfl;have cb:y.cell? ⟨b,3,none⟩=some V.fm:=(aF Q 3).trans rfl
     have z7: ∀ i,y.frozen? ⟨b,i,none⟩=false:=fun i=>eY Q i;have R9:=ah (bV (Kept.only y b 2 (.slice (some ⟨g7,0,none⟩) (B.files.length+3) jD)) (AA Gz (j.xQ.alloc _) (yO j.xQ j.rF dc)) (iF j.xQ j.aG dc)))
    | (
     at_builtin
     refine yc _ rfl _ _ _ rfl 0 5 i2 _ 1 1 Tryz.underlying73 bA bB bE bL rfl om V.fm B.files.length (B.files.map fun x=> .int .u8 (x.m.toNat:Int)) rfl (R9.alloc _) ⟨y.heap.size,0,none⟩ 3 3 [.int .u8 (m.toNat:Int),.int .u8 (m.toNat:Int),.int .u8 (m.toNat:Int)] rfl rfl (pJ (cs:= #[.int .u8 (m.toNat:Int),.int .u8 (m.toNat:Int),.int .u8 (m.toNat:Int)]) (t:=5) (fr:=(0,0)) (by have:=aX (y.setCell ⟨b,2,none⟩ (.slice (some ⟨g7,0,none⟩) (B.files.length+3) jD)) (.cells #[.int .u8 (m.toNat:Int),.int .u8 (m.toNat:Int),.int .u8 (m.toNat:Int)] 5);rwa [size_setCell] at this)) (by simp [Value.oneCell']) om (by unfold maxLen;omega) om om (y.heap.size+1) sm ?_;intro g8 lS w8 Fz Ed IK Yl
     have b8:=ah (qW Ed (show _=some (.cells (y5 { V with f:= .slice (some ⟨g7,0,none⟩) (B.files.length+3) jD } (B.next+1)).toArray 77 (0,0)) from (jX _ _ _ (by rw [size_setCell];exact aK Q)).trans (by rw [heap_setCell_same _ _ _ _ _ _ _ (uh Q)];rfl)) (fun g l=>iF j.xQ j.aG dc g l));have cc:w8.cell? ⟨b,3,none⟩=some V.fm:=(aF b8 3).trans rfl;have z8: ∀ i,w8.frozen? ⟨b,i,none⟩=false:=fun i=>eY b8 i)
    | fail)
   have Va:aS (List.replicate L.length (dV m))++(cv (dV m)++cv (dV m))=aS (List.replicate (L.length+2) (dV m)):=by rw [← tV,Zo,Zo]
   have bj:=PG (bd.alloc (.cells (cv (dV m)++cv (dV m)).toArray 38)) ag P;have ar:w6.ownsRow 0 38 64 (.slice (some ⟨s,0,none⟩) (L.length+2) D) (L.length+2) (aS (List.replicate (L.length+2) (dV m))):=by rw [← Va];exact ag
   have Yp:=uh bo;rw [Zo] at Yp;have bl:w6.ownsRow 0 38 64 (.slice (some ⟨r,0,none⟩) (L.length+1) C) (L.length+1) (aS (List.replicate (L.length+1) (dV m))):=by
    have av:(aS (List.replicate (L.length+1) (dV m))).length=(L.length+1)*64:=by
     rw [zi _ (by intro c hc;rw [Mc hc];exact Yn),Ai]
    rcases P with ⟨R,aw⟩ | ⟨_,aw⟩
    ·rcases uh ba with z | z
     ·rw [R] at z;injection z with p _ x3;injection p with p;injection p with p _ _;subst p;subst x3;have bN:w6.ownsRow 0 38 64 (.slice (some ⟨s,0,none⟩) (L.length+1+1) D) (L.length+1+1) (aS (List.replicate (L.length+1) (dV m))++cv (dV m)):=by rw [Zo];exact ar
      exact VK bN av
     ·refine AA aw (Yp.alloc _) (fun g l x=> ?_);simp only [Value.ownBlock,jH] at l x
      have:=uh Kr s (by rw [R];rfl)
      omega
    ·exact AA aw (Yp.alloc _) (fun g l x=>by cases x)
   have o1: ∀ g,(Value.slice (some ⟨r,0,none⟩) (L.length+1) C).ownBlock=some g→(Value.slice d L.length a).ownBlock=some g∨w.heap.size≤g:=fun g l=>by
    simp only [Value.ownBlock,jH] at l;subst l;rcases uh ba with z | z
    ·exact aA (by rw [z];rfl)
    ·exact ay z
   have o2: ∀ g,(Value.slice (some ⟨s,0,none⟩) (L.length+2) D).ownBlock=some g→(Value.slice d L.length a).ownBlock=some g∨w.heap.size≤g:=fun g l=>by
    simp only [Value.ownBlock,jH] at l;subst l;rcases P with ⟨R,_⟩ | ⟨R,_⟩
    ·exact aA (by rw [R];rfl)
    ·exact ay (by have:=bf.size;omega)
   have bm:=(bf.alloc (.cells (cv (dV m)++cv (dV m)).toArray 38)).trans ((DZ P).mono (T:=fun k=>S k∨(Value.slice d L.length a).ownBlock=some k) (fun k hk=>ay hk));have E:=ah (atU j bj bl ar o1 o2 bm Gz Rh QX Ed Fz IK b8);clear Va bj ar Yp bl o1 o2 bm
   go_end0
   exact ⟨rfl,uh E⟩
end
section
def avI (D:List fZ) (a: ∀ x ∈ D,x.data.length=64) (k:Nat) (hk:k<D.length) (c:fZ) (hc:c.data.length=64):mY (jg D).toArray (k*65) (bT c)=(jg (D.set k c)).toArray:=by
 have m:=Nb D a;have b: ∀ x ∈ D.set k c,x.data.length=64:=by
  intro x l;rcases Oc l with h | h
  ·exact a x h
  ·rw [h];exact hc
 have j:=Nb (D.set k c) b;rw [rV] at j;have d:=tN hc;apply Jl;intro i;rw [Ey (bT c) _ _ i (by rw [d];simp;omega),d,bZ,bZ]
 by_cases hi:i<D.length*65
 ·have e:i=(i / 65)*65+i%65:=om;have f:i / 65<D.length:=om;rw [e,acI (D.set k c) b (i / 65) (by simpa using f) (i%65) om,acI D a (i / 65) f (i%65) om];unfold rP;simp only [aN,uI]
  by_cases g:k=i / 65
  ·rw [au g,au om,au om];simp only [LZ]
   congr 1
   omega
  ·rw [ak g,ak om]
 ·rw [ak om,eG om,eG om]
def axE {w:World} {base g cap:Nat} {L:List fZ} (h:w.ownsRow base 104 65 (.slice (some ⟨g,0,none⟩) L.length cap) L.length (jg L)) (b: ∀ c ∈ L,c.data.length=64) (k:Nat) (hk:k<L.length) (c:fZ) (hc:c.data.length=64):
  (w.setCells g (k*65) (bT c)).ownsRow base 104 65 (.slice (some ⟨g,0,none⟩) L.length cap) (L.set k c).length (jg (L.set k c)):=by
 have f: ∀ x ∈ L.set k c,x.data.length=64:=by
  intro x n;rcases Oc n with y | y
  ·exact b x y
  ·rw [y];exact hc
 have j:=tN hc;refine ⟨Nb _ f,?_⟩;rcases h.2 with ⟨e,_⟩ | ⟨l,d,cur,e,o,p,hn,hm,hs,q⟩
 ·cases e
 ·obtain ⟨rfl,rfl⟩:l=g∧d=cap:=by injection e with a _ r;injection a with a;injection a with a;exact ⟨a.symm,r.symm⟩
  refine ay ⟨l,d,mY cur (k*65) (bT c),sm,o,KU _ _ _ _ _ _ _ p,by simpa using hn,hm,by rw [ZG];exact hs,?_⟩;have z:=Nb L b;have s:=avI L b k hk c hc;refine uY fun i=> ?_;rw [rV]
  by_cases hi:i<L.length*65
  ·rw [JY,au hi,aaA,Ey _ _ _ _ (by rw [j,hs];have:=Qb 65 hn;omega)];have m:(mY (jg L).toArray (k*65) (bT c))[i]? = (jg (L.set k c)).toArray[i]? := by rw [s]
   rw [Ey _ _ _ _ (by rw [j];simp;omega),bZ,bZ] at m;rw [← m];have t:cur[i]? = (jg L)[i]? := by rw [← q,JY,au hi,aaA]
   rw [t]
  ·have u:=Nb _ f;rw [rV] at u;rw [eG (by rw [yg];omega),eG om]
def axF {w:World} {base g cap:Nat} {L:List fZ} (h:w.ownsRow base 104 65 (.slice (some ⟨g,0,none⟩) L.length cap) L.length (jg L)) (k:Nat) (hk:k<L.length):w.there g (k*65) 65:=by
 rcases h.2 with ⟨e,_⟩ | ⟨c,b,cur,e,i,d,hn,hm,hs,j⟩
 ·cases e
 ·obtain ⟨rfl,rfl⟩:c=g∧b=cap:=by injection e with a _ f;injection a with a;injection a with a;exact ⟨a.symm,f.symm⟩
  exact iW d _ _ (by rw [hs];have:=Qb 65 hn;omega)
def nT {w:World} {b o:Nat} {x:fZ} (a:w.there b o 65) (hc:x.data.length=64):(VY ⟨b,o,none⟩ (.agg (bT x).toArray)).run Tryz.prog w= .ok () (w.setCells b o (bT x)):=by
 have:=Ib (P:=Tryz.prog) w b o 104 (bT x).toArray (by simpa [tN hc] using a) (by simp only [jm,tN hc];kernel_rfl) (vU (NU x))
 simpa [VY] using this
def bWr (parts:Array (Nat × Value)):Sem Value:=Instr.build 104 parts
def l9 (parts:Array (Nat × Value)):Instr.build 104 parts=bWr parts:=rfl
def mM (n:Int) (w:World):(bWr #[(0,.int .i64 n)]).run Tryz.prog w= .ok (.agg (bT ⟨n,zc⟩).toArray) w:=by
 have a:=(uZ (P:=Tryz.prog) (t:=104) (v:= .agg (bT ⟨0,zc⟩).toArray) (n:=65) kr).1;have b:Instr.fill (fun x=>(#[(0,1),(1,64)]:Array (Nat × Nat))[x]?) ([Value.int .i64 0]++cv zc).toArray [(0,Value.int .i64 n)]=some (bT ⟨n,zc⟩).toArray:=by
  rw [KO _ _ 0 0 1 (.int .i64 n) [] (by rfl) (by rfl) sm,Instr.fill,show (Value.int .i64 n).cells.toList=[Value.int .i64 n] from rfl,PN [Value.int .i64 0] (cv zc) [Value.int .i64 n] rfl];rfl
 exact LH w 104 _ (.agg (bT ⟨0,zc⟩).toArray) #[(0,1),(1,64)] #[(0,.int .i64 n)] _ Tryz.underlying104 a (fun w=>kr) b
def ag1 (parts:Array (Nat × Value)):Sem Value:=Instr.buildSlice 58 1 parts
def nJ (parts:Array (Nat × Value)):Instr.buildSlice 58 1 parts=ag1 parts:=rfl
def nN {w:World} {x:fZ} (hc:x.data.length=64):(ag1 #[(0,.agg (bT x).toArray)]).run Tryz.prog w= .ok (.slice (some ⟨w.heap.size,0,none⟩) 1 1) (w.alloc (.cells (bT x).toArray 104)):=
 VN w 58 104 65 (.agg (bT ⟨0,zc⟩).toArray) (.agg (bT x).toArray) Tryz.underlying58 kr om om (by simp [Value.cells,tN hc])
def ag2 (parts:Array (Nat × Value)):Sem Value:=Instr.buildSlice 58 2 parts
def apa (parts:Array (Nat × Value)):Instr.buildSlice 58 2 parts=ag2 parts:=rfl
def avm {w:World} {x y:fZ} (hc:x.data.length=64) (a:y.data.length=64):(ag2 #[(0,.agg (bT x).toArray),(1,.agg (bT y).toArray)]).run Tryz.prog w= .ok (.slice (some ⟨w.heap.size,0,none⟩) 2 2) (w.alloc (.cells (bT x++bT y).toArray 104)):=
 aes w 58 104 65 (.agg (bT ⟨0,zc⟩).toArray) (.agg (bT x).toArray) (.agg (bT y).toArray) Tryz.underlying58 kr om om (by simp [Value.cells,tN hc]) (by simp [Value.cells,tN a])
def Tryz.OZ:(Tryz.prog.info? 104).map (fun i=>(i.zero,i.size,i.bytes))=some (some (.agg (bT ⟨0,zc⟩).toArray),65,72):=kr
def Tryz.arY:(Tryz.prog.info? 58).map (fun i=>(i.zero,i.size,i.bytes))=some (some (.slice none 0 0),1,24):=kr
def Tryz.ajz:(Tryz.prog.info? 3).map (fun i=>(i.zero,i.size,i.bytes))=some (some (.int .i64 0),1,8):=kr
def XY (l:List fZ) (x:fZ):jg (l++[x])=jg l++bT x:=by simp [jg]
structure aB where
 C:List aj
 L:List fZ
 loose:Bool
 short:Bool
def P5 (Cv Lv:Value) (V:aB):List Value:=[Cv,Lv,.bool V.loose,.bool V.short]
structure aP (w:World) (v:Nat) (Cv Lv:Value) (V:aB):Prop where
 aG:w.heap[v]? = some (.cells (P5 Cv Lv V).toArray 121 (0,0))
 jS:w.ownsRow 0 38 64 Cv V.C.length (aS V.C)
 fJ:w.ownsRow 0 104 65 Lv V.L.length (jg V.L)
 kT: ∀ c ∈ V.C,c.length=64
 zZ: ∀ x ∈ V.L,x.data.length=64
 sh:V.short=true→0<V.C.length
def eX (v:Nat) (Cv Lv:Value) (k:Nat):Prop:=k=v∨Cv.ownBlock=some k∨Lv.ownBlock=some k
section
variable {w w':World} {v:Nat} {Cv Lv:Value} {V:aB}
def aP.c0 (h:aP w v Cv Lv V):w.cell? ⟨v,0,none⟩=some Cv:=by rw [aF h.aG];rfl
def aP.c1 (h:aP w v Cv Lv V):w.cell? ⟨v,1,none⟩=some Lv:=by rw [aF h.aG];rfl
def aP.c2 (h:aP w v Cv Lv V):w.cell? ⟨v,2,none⟩=some (.bool V.loose):=by rw [aF h.aG];rfl
def aP.c3 (h:aP w v Cv Lv V):w.cell? ⟨v,3,none⟩=some (.bool V.short):=by rw [aF h.aG];rfl
def aP.fz (h:aP w v Cv Lv V) (i:Nat):w.frozen? ⟨v,i,none⟩=false:=eY h.aG i
def aP.lt (h:aP w v Cv Lv V):v<w.heap.size:=aK h.aG
def aP.Rt (h:aP w v Cv Lv V): ∀ g,Cv.ownBlock=some g→g≠v:=iF h.jS h.aG dc
def aP.GR (h:aP w v Cv Lv V): ∀ g,Lv.ownBlock=some g→g≠v:=iF h.fJ h.aG dc
def aP.adN (h:aP w v Cv Lv V): ∀ g,Lv.ownBlock=some g→Cv.ownBlock≠some g:=by
 intro g b a;rcases h.jS.2 with ⟨rfl,_⟩ | ⟨d,cap,cur,rfl,_,c,_⟩
 ·cases a
 ·simp only [Value.ownBlock,jH] at a;subst a;exact iF h.fJ c dc _ b rfl
def aP.qV (h:aP w v Cv Lv V): ∀ k,eX v Cv Lv k→k<w.heap.size:=by
 rintro k (rfl | hk | hk)
 ·exact h.lt
 ·exact (h.jS.lt k hk).2
 ·exact (h.fJ.lt k hk).2
def aP.kept {S:Nat→Prop} (h:aP w v Cv Lv V) (hk:Kept S w w') (hs: ∀ k,eX v Cv Lv k→ ¬ S k):aP w' v Cv Lv V:=
 ⟨hk.aG (hs v (aA rfl)) h.aG,bV hk h.jS (fun g a=>hs g (ay (aA a))),bV hk h.fJ (fun g a=>hs g (ay (ay a))),h.kT,h.zZ,h.sh⟩
def aP.below (h:aP w v Cv Lv V) (a:aC w w'):aP w' v Cv Lv V:=h.kept (S:=fun _=>False) (Kept.dQ a) (fun _ _=>id)
def aP.drew (h:aP w v Cv Lv V):aP w.drew v Cv Lv V:=h.kept (S:=fun _=>False) ((Kept.refl _ _).drew) (fun _ _=>id)
def aP.drewN (h:aP w v Cv Lv V) (n:Nat):aP (w.drewN n) v Cv Lv V:=h.kept (S:=fun _=>False) ((Kept.refl _ _).drewN n) (fun _ _=>id)
def aP.alloc (h:aP w v Cv Lv V) (o:Obj):aP (w.alloc o) v Cv Lv V:=h.below (fC)
end
structure dF (w w':World) (v:Nat) (Cv Lv qP qQ:Value) (V':aB):Prop where
 at':aP w' v qP qQ V'
 kept:Kept (eX v Cv Lv) w w'
 new: ∀ k,eX v qP qQ k→eX v Cv Lv k∨w.heap.size≤k
section
variable {w w1 w2:World} {v:Nat} {Cv Lv C1 L1 C2 L2:Value} {V V1 V2:aB}
def dF.refl (h:aP w v Cv Lv V):dF w w v Cv Lv Cv Lv V:=⟨h,Kept.refl _ _,fun _ hk=>aA hk⟩
def dF.trans (h:dF w w1 v Cv Lv C1 L1 V1) (k:dF w1 w2 v C1 L1 C2 L2 V2):dF w w2 v Cv Lv C2 L2 V2:=
 ⟨k.at',⟨k.kept.os.trans h.kept.os,k.kept.tape.trans h.kept.tape,k.kept.output.trans h.kept.output,jL h.kept.size k.kept.size,fun i hi hs=>by
  rw [k.kept.block i (iL hi h.kept.size) (fun a=>(h.new i a).elim hs om)];exact h.kept.block i hi hs⟩,fun i hi=>(k.new i hi).elim (h.new i) (fun hle=>ay (jL h.kept.size hle))⟩
def dF.later (h:dF w w1 v Cv Lv C1 L1 V1) (a:aC w1 w2):dF w w2 v Cv Lv C1 L1 V1:=
 ⟨h.at'.below a,h.kept.trans (Kept.dQ a),h.new⟩
def dF.drew (h:dF w w1 v Cv Lv C1 L1 V1):dF w w1.drew v Cv Lv C1 L1 V1:=⟨h.at'.drew,h.kept.drew,h.new⟩
def dF.drewN (h:dF w w1 v Cv Lv C1 L1 V1) (n:Nat):dF w (w1.drewN n) v Cv Lv C1 L1 V1:=⟨h.at'.drewN n,h.kept.drewN n,h.new⟩
def dF.alloc (h:dF w w1 v Cv Lv C1 L1 V1) (o:Obj):dF w (w1.alloc o) v Cv Lv C1 L1 V1:=h.later (fC)
def dF.own (h:dF w w1 v Cv Lv C1 L1 V1) {S:Nat→Prop} (hk:Kept S w1 w2) (hs: ∀ k,S k→w.heap.size≤k∧ ¬ eX v C1 L1 k):dF w w2 v Cv Lv C1 L1 V1:=
 ⟨h.at'.kept hk (fun k a b=>(hs k b).2 a),⟨hk.os.trans h.kept.os,hk.tape.trans h.kept.tape,hk.output.trans h.kept.output,jL h.kept.size hk.size,fun i hi a=>by
  rw [hk.block i (iL hi h.kept.size) (fun b=>by have:=(hs i b).1;omega)];exact h.kept.block i hi a⟩,h.new⟩
end
structure Env (w w':World) (v:Nat) (Cv Lv qP qQ:Value) (V':aB) (bs:List (Nat × Obj)):Prop where
 step:dF w w' v Cv Lv qP qQ V'
 qo: ∀ x ∈ bs,w'.heap[x.1]? = some x.2∧w.heap.size≤x.1∧ ¬ eX v qP qQ x.1
section
variable {w w1 w2:World} {v:Nat} {Cv Lv C1 L1 C2 L2:Value} {V V1 V2:aB} {bs:List (Nat × Obj)}
def Env.start (h:aP w v Cv Lv V):Env w w v Cv Lv Cv Lv V []:=⟨dF.refl h,fun _ a=>by simp at a⟩
def Env.gG (h:Env w w1 v Cv Lv C1 L1 V1 bs) (k:dF w1 w2 v C1 L1 C2 L2 V2):Env w w2 v Cv Lv C2 L2 V2 bs:=
 ⟨h.step.trans k,fun x c=>by
  obtain ⟨a,d,b⟩:=h.qo x c;exact ⟨(k.kept.block x.1 (aK a) b).trans a,d,fun e=>(k.new x.1 e).elim b (by have:=aK a;omega)⟩⟩
def Env.later (h:Env w w1 v Cv Lv C1 L1 V1 bs) (a:aC w1 w2):Env w w2 v Cv Lv C1 L1 V1 bs:=
 ⟨h.step.later a,fun x c=>by obtain ⟨b,d,e⟩:=h.qo x c;exact ⟨(a.block _ (aK b)).trans b,d,e⟩⟩
def Env.drew (h:Env w w1 v Cv Lv C1 L1 V1 bs):Env w w1.drew v Cv Lv C1 L1 V1 bs:=⟨h.step.drew,h.qo⟩
def Env.drewN (h:Env w w1 v Cv Lv C1 L1 V1 bs) (n:Nat):Env w (w1.drewN n) v Cv Lv C1 L1 V1 bs:=⟨h.step.drewN n,h.qo⟩
def Env.lay (h:Env w w1 v Cv Lv C1 L1 V1 bs) (o:Obj):Env w (w1.alloc o) v Cv Lv C1 L1 V1 ((w1.heap.size,o) :: bs):=
 ⟨h.step.alloc o,fun x a=>by
  rcases cO.1 a with rfl | a
  ·exact ⟨aX w1 o,h.step.kept.size,fun c=>by have:=h.step.at'.qV _ c;omega⟩
  ·obtain ⟨b,d,e⟩:=h.qo x a;exact ⟨(jX _ _ _ (aK b)).trans b,d,e⟩⟩
def Env.alloc (h:Env w w1 v Cv Lv C1 L1 V1 bs) (o:Obj):Env w (w1.alloc o) v Cv Lv C1 L1 V1 bs:=h.later (fC)
def Env.sub {cs:List (Nat × Obj)} (h:Env w w1 v Cv Lv C1 L1 V1 bs) (hs: ∀ x ∈ cs,x ∈ bs):Env w w1 v Cv Lv C1 L1 V1 cs:=⟨h.step,fun x a=>h.qo x (hs x a)⟩
def Env.put {b:Nat} {o o':Obj} (h:Env w w1 v Cv Lv C1 L1 V1 ((b,o) :: bs)) (e: ∀ x ∈ bs,x.1≠b) (hk:Kept (fun x=>x=b) w1 w2) (f:w2.heap[b]? = some o'):Env w w2 v Cv Lv C1 L1 V1 ((b,o') :: bs):=by
 obtain ⟨l,c,d⟩:=h.qo (b,o) sm;refine ⟨h.step.own hk (by rintro k rfl;exact ⟨c,d⟩),fun x a=> ?_⟩;rcases cO.1 a with rfl | a
 ·exact ⟨f,c,d⟩
 ·obtain ⟨g,i,j⟩:=h.qo x (by simp [a]);exact ⟨hk.aG (e x a) g,i,j⟩
def Env.at' (h:Env w w1 v Cv Lv C1 L1 V1 bs):aP w1 v C1 L1 V1:=h.step.at'
def Env.o0 {b:Nat} {o:Obj} (h:Env w w1 v Cv Lv C1 L1 V1 ((b,o) :: bs)):w1.heap[b]? = some o:=(h.qo (b,o) sm).1
def Env.o1 {a b:Nat} {p o:Obj} (h:Env w w1 v Cv Lv C1 L1 V1 ((a,p) :: (b,o) :: bs)):w1.heap[b]? = some o:=(h.qo (b,o) sm).1
def Env.o2 {a b c:Nat} {p q o:Obj} (h:Env w w1 v Cv Lv C1 L1 V1 ((a,p) :: (c,q) :: (b,o) :: bs)):w1.heap[b]? = some o:=(h.qo (b,o) sm).1
end
end
section
attribute [local go_sem ↓] dw fP fV kU mZ nC jR kP kJ kF lG lI kR kQ kV ng nD l9 nJ
attribute [local go_sem] dM fO fU gW gB aV kY mP mW mQ mO gX jT kN kH lq kX iM kG lu lD lC kM jc jd nH nK kW kZ mX nT mV mM nN
def Oy (w:World) (v:Nat) (Cv Lv:Value) (V:aB) (h:aP w v Cv Lv V) (n:Nat) (hn:n<V.C.length):
  Calls Tryz.prog 142 #[.pointer (some ⟨v,0,none⟩),.int .i64 (n:Nat)] w fun e w'=>e= .returned (.agg (cv (cl V.C n)).toArray)∧aC w w':=by
 obtain ⟨g,cap,rfl,_⟩:=gy h.jS om;have b:=dW.one w (.cells (cv zc).toArray 38);have a:=h.below b.below;have c0:=a.c0;have l:=oQ a.jS a.kT n hn;have m:=oP a.jS a.kT n hn;have f:=je h.kT hn;have j:(n:Int)<(V.C.length:Int):=om;have d:=ah b.below;generalize k:cl V.C n=c at*;have d:=ah (d.alloc (o:= .cells (cv c).toArray 38) sm);have i:Hid (aC w (w.alloc (.cells (cv c).toArray 38))):=fC;clear d a h b
 go_enter Tryz.func142,Tryz.ntmps142
 go_wp2;refine iy (qZ Tryz.results142 ⟨w.heap.size,0,none⟩ rfl ?_) rfl ⟨rfl,uh i⟩;rw [dw,gB f]
def zq:fZ:=⟨-1,zc⟩
def fF (V:aB):aB:=if V.loose then ⟨V.C,V.L++[zq],false,V.short⟩ else V
def aP.aiG {w a:World} {v:Nat} {Cv Lv v':Value} {V:aB} {L':List fZ} {l:Bool} (h:aP w v Cv Lv V) (b:w.grownBy a Lv.ownBlock) (m:a.ownsRow 0 104 65 v' L'.length (jg L')) (n: ∀ x ∈ L',x.data.length=64) (i: ∀ g,v'.ownBlock=some g→Lv.ownBlock=some g∨w.heap.size≤g):
  dF w ((a.setCell ⟨v,1,none⟩ v').setCell ⟨v,2,none⟩ (.bool l)) v Cv Lv Cv v' ⟨V.C,L',l,V.short⟩:=by
 have o:a.heap[v]? = some (.cells (P5 Cv Lv V).toArray 121 (0,0)):=qW b h.aG h.GR;have p:=heap_setCell_same _ _ 2 (.bool l) _ _ _ (heap_setCell_same a v 1 v' _ _ _ o);have j:Kept (fun k=>Lv.ownBlock=some k) w a:=⟨b.os,b.tape,b.output,b.size,fun k hk hs=>b.block k hk (fun e=>hs e.symm)⟩;have f:Kept (fun k=>k=v) a ((a.setCell ⟨v,1,none⟩ v').setCell ⟨v,2,none⟩ (.bool l)):=(Kept.only a v 1 v').trans (Kept.only _ v 2 _);refine ⟨⟨?_,?_,?_,h.kT,n,h.sh⟩,?_,?_⟩
 ·rw [p];rfl
 ·refine bV f (bV j h.jS (fun g d q=>h.adN g q d)) (fun g d=>h.Rt g d)
 ·exact bV f m (fun g d e=>by
   subst e;rcases i _ d with c | c
   ·exact h.GR _ c rfl
   ·have:=h.lt;omega)
 ·exact (j.mono (fun k hk=>ay (ay hk))).trans (f.mono (fun k hk=>aA hk))
 ·rintro k (rfl | hk | hk)
  ·exact aA (aA rfl)
  ·exact aA (ay (aA hk))
  ·rcases i k hk with c | c
   ·exact aA (ay (ay c))
   ·exact ay c
def Az (w:World) (v:Nat) (Cv Lv:Value) (V:aB) (h:aP w v Cv Lv V) (hL:V.L.length≤1000000000):
  Calls Tryz.prog 71 #[.pointer (some ⟨v,0,none⟩)] w fun e w'=>e= .returned (.tuple #[])∧ ∃ s u,dF w w' v Cv Lv s u (fF V):=by
 have c2:=h.c2;cases hl:V.loose with
 | false=>
  rw [hl] at c2;have y:=ah (dF.refl h);have b:Hid (fF V=V):=by unfold fF;rw [hl];rfl
  go_enter Tryz.func71,Tryz.ntmps71
  go_wp2;refine iy (DF rfl _ _ _) rfl ?_;exact ⟨rfl,Cv,Lv,by rw [uh b];exact uh y⟩
 | true=>
  rw [hl] at c2;have c1:=h.c1;obtain ⟨z,m,n,p,q⟩:=qw Tryz.OZ;have b:Hid (fF V=⟨V.C,V.L++[zq],false,V.short⟩):=by unfold fF;rw [hl];rfl
  have A:=h.fz;have H:=ah h;have B: ∀ o,(w.alloc o).cell? ⟨v,1,none⟩=some Lv:=fun o=>(h.alloc o).c1;clear h
  go_enter Tryz.func71,Tryz.ntmps71
  go_wp2_with (at_builtin;refine yc _ rfl _ _ _ rfl 0 104 z _ 65 72 Tryz.underlying58 m n p q (by simp [Value.cells,bT,bC,aV]) om Lv V.L.length (jg V.L) rfl (H.alloc _).fJ ⟨w.heap.size,0,none⟩ 1 1 (bT zq) rfl (by rw [tN aV]) (pJ (cs:=(bT zq).toArray) (t:=104) (fr:=(0,0)) (aX w _)) (NU zq) om (by unfold maxLen;omega) om om (w.heap.size+1) sm ?_;intro g5 cap5 c l f r F;have d:=ah (qW f (H.alloc _).aG H.GR);have D:c.cell? ⟨v,1,none⟩=some Lv:=(aF d 1).trans rfl;have E:c.cell? ⟨v,2,none⟩=some (.bool V.loose):=(aF d 2).trans rfl;have G: ∀ i,c.frozen? ⟨v,i,none⟩=false:=fun i=>eY d i)
  go_end0
  refine ⟨rfl,Cv,.slice (some ⟨g5,0,none⟩) (V.L.length+1) cap5,?_⟩;rw [uh b];refine (dF.alloc (dF.refl H) _).trans (aP.aiG (H.alloc _) f (L':=V.L++[zq]) ?_ ?_ ?_)
  ·rw [XY,oL];exact l
  ·intro x a;rcases fK.1 a with a | a
   ·exact H.zZ x a
   ·rw [iP.1 a];exact aV
  ·intro g j;simp only [Value.ownBlock,jH] at j;subst j;rcases r with k | k
   ·exact aA k
   ·right;simp;omega
end
end Go.Proofs.YtknjjjenklfeoaaGreatDoor
