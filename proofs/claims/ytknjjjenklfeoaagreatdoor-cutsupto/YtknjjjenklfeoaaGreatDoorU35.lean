import Derived.Test.YtknjjjenklfeoaaGreatDoorU34
import Derived.Test.YtknjjjenklfeoaaGreatDoorU30
set_option maxHeartbeats 8000000
set_option maxRecDepth 100000
set_option linter.all false
namespace Go.Proofs.YtknjjjenklfeoaaGreatDoor
open Go.RowKit
def avW (w:World):(Go.sizeOf 38).run Tryz.prog w= .ok 64 w:=by
 cases hq:Tryz.prog.info? 38 with
 | none=>
  have h:(Tryz.prog.info? 38).isSome=true:=kr;exact absurd hq (by intro e;rw [e] at h;cases h)
 | some i=>
  have a:(Tryz.prog.info? 38).map (·.size)=some 64:=kr;rw [hq] at a;simp at a;simp [Go.sizeOf,typeInfo,hq,a]
def aue (x:fZ) (w:World):(part 3 (bT x).toArray 0).run Tryz.prog w= .ok (.int .i64 x.cl) w:=by
 have a:(isAgg 3).run Tryz.prog w= .ok false w:=by unfold isAgg;rw [jC,yh Tryz.underlying3 w];rfl
 unfold part;rw [jC,a];rfl
def auf (x:fZ) (a:x.data.length=64) (w:World):(part 38 (bT x).toArray 1).run Tryz.prog w= .ok (.agg (cv x.data).toArray) w:=by
 have b:(isAgg 38).run Tryz.prog w= .ok true w:=by unfold isAgg;rw [jC,yh Tryz.underlying38 w];rfl
 unfold part;rw [jC,b];simp only [sK,xk,jC,avW,zU];rw [show (bT x).toArray.extract 1 (1+64)=(cv x.data).toArray by
  apply Array.ext';rw [Array.toList_extract];simp only [aft,bT,List.drop_one,List.tail_cons,aaQ];exact J4 (by rw [bC,a];exact aO _)]
def ah3 (x y:Value):Sem Bool:=Op.equalIn 10000 104 x y
def ah4 (x y:Value):Op.equalIn 10000 104 x y=ah3 x y:=rfl
def al7 {x:fZ} (a:x.data.length=64) (w:World):(ah3 (.agg (bT x).toArray) (.agg (bT x).toArray)).run Tryz.prog w= .ok true w:=by
 have hs:Tryz.prog.stoodInHeld 104=false:=kr;have h0:(Op.equalIn 9999 3 (.int .i64 x.cl) (.int .i64 x.cl)).run Tryz.prog w= .ok (x.cl == x.cl) w:=afG (P:=Tryz.prog) w 9998 3 .i64 .i64 x.cl x.cl Tryz.underlying3;have b:(Op.equalIn 9999 38 (.agg (cv x.data).toArray) (.agg (cv x.data).toArray)).run Tryz.prog w= .ok (decide (x.data=x.data)) w:=aeu 9997 x.data x.data a a w;show (Op.equalIn (9999+1) 104 _ _).run Tryz.prog w=_;rw [Op.equalIn];simp only [jC,yh Tryz.underlying104,sK,WM,hs,Ce,yS];rw [← afu];simp only [Oe,Qg,jC,aue,auf x a,sK,h0,b,ne_eq,String.reduceEq,Qh,xk,beq_self_eq_true,decide_true,WG,Ce,yS,zU]
def Tryz.arX:(Tryz.prog.info? 34).map (fun i=>(i.zero,i.size,i.bytes))=some (some (.slice none 0 0),1,24):=kr
def IW {w W:World} {b:Nat} {V:oM} {B:nG} {S:Nat→Prop} (h:iY w b V B S) (hk:Kept (fun k=>k=b∨V.n.ownBlock=some k∨V.nm.ownBlock=some k) w W) {base:Nat} {e:TypeId} {size:Nat} {v:Value} {n:Nat} {xs:List Value}
  (hr:w.ownsRow base e size v n xs) (c:e≠77) (d:e≠34) (f: ∀ g,v.ownBlock=some g→V.nm.ownBlock≠some g):W.ownsRow base e size v n xs:=
 bV hk hr fun g a x=>by
  rcases x with x | x | x
  ·exact iF hr h.aG c g a x
  ·exact yO hr h.rN d g a x
  ·exact f g a x
def asO {α:Type} {l:List α} {a b c d x:α} {f:α→Nat} {n:Nat} (e:x ∈ l++[a,b,c,d]) (g:f a≤n) (h:f b≤n) (hc:f c≤n) (i:f d≤n):x ∈ l∨f x≤n:=by
 rcases fK.1 e with y | y
 ·exact aA y
 ·simp only [cO,jM,jO] at y;rcases y with rfl | rfl | rfl | rfl
  ·exact ay g
  ·exact ay h
  ·exact ay hc
  ·exact ay i
abbrev vM (N:Nat) (s:ByteArray):List Value:=List.replicate N (.string s)
def atY {w w6 e q:World} {b:Nat} {V:oM} {B:nG} {S:Nat→Prop} {lv one two three:Value} {N d l i r:Nat} {m:ByteArray} {E X8:Obj} (hS: ∀ k,S k→k<w.heap.size) (Z: ∀ g,lv.ownBlock=some g→ ¬ S g)
  (h:iY w6 b V B S) (F:w6.ownsRow 0 9 1 lv N (vM N m)) (G:w6.ownsRow 0 9 1 one (N+1) (vM (N+1) m)) (H:w6.ownsRow 0 9 1 two (N+2) (vM (N+2) m)) (I:w6.ownsRow 0 9 1 three (N+3) (vM (N+3) m))
  (o1: ∀ g,one.ownBlock=some g→lv.ownBlock=some g∨w.heap.size≤g) (o2: ∀ g,two.ownBlock=some g→lv.ownBlock=some g∨w.heap.size≤g) (J: ∀ g,three.ownBlock=some g→lv.ownBlock=some g∨w.heap.size≤g)
  (R:Kept (fun k=>S k∨lv.ownBlock=some k) w w6)
  (C:(w6.alloc E).grownBy e V.n.ownBlock) (T:e.ownsRow 0 34 1 (.slice (some ⟨d,0,none⟩) (B.names.length+4) l) (B.names.length+4) (B.names.map (·.v)++[lv,one,two,three])) (a7:V.n.ownBlock=some d∨d=w6.heap.size+1)
  (O:((e.setCell ⟨b,0,none⟩ (.slice (some ⟨d,0,none⟩) (B.names.length+4) l)).alloc X8).grownBy q V.nm.ownBlock)
  (K:q.ownsRow 0 9 1 (.slice (some ⟨i,0,none⟩) (B.names.length+4) r) (B.names.length+4) ((B.names.map fun x=> .string x.s)++[.string m,.string m,.string m,.string m])) (U:V.nm.ownBlock=some i∨i=e.heap.size+1)
  (L:q.heap[b]? = some (.cells (y5 { V with n:= .slice (some ⟨d,0,none⟩) (B.names.length+4) l } B.next).toArray 77 (0,0))):
  ∃ V' u W,iY (q.setCell ⟨b,1,none⟩ (.slice (some ⟨i,0,none⟩) (B.names.length+4) r)) b V' u W∧u.next=B.next∧u.names.length=B.names.length+4∧u.writes=B.writes∧u.files=B.files∧(∀ x ∈ u.names,x ∈ B.names∨x.n≤N+3)∧
   Kept (fun k=>S k∨lv.ownBlock=some k) w (q.setCell ⟨b,1,none⟩ (.slice (some ⟨i,0,none⟩) (B.names.length+4) r))∧(∀ k,W k→S k∨lv.ownBlock=some k∨w.heap.size≤k):=by
 have X:Kept (fun k=>k=b∨V.n.ownBlock=some k∨V.nm.ownBlock=some k) w6 (e.setCell ⟨b,0,none⟩ (.slice (some ⟨d,0,none⟩) (B.names.length+4) l)):=
  Kept.setCell (S:=fun k=>k=b∨V.n.ownBlock=some k∨V.nm.ownBlock=some k) (((Kept.refl _ _).alloc E).grown C (fun g a=>aA (ay (aA a)))) (p:=⟨b,0,none⟩) (aA (aA rfl)) _
 have Y:Kept (fun k=>k=b∨V.n.ownBlock=some k∨V.nm.ownBlock=some k) (e.setCell ⟨b,0,none⟩ (.slice (some ⟨d,0,none⟩) (B.names.length+4) l)) (q.setCell ⟨b,1,none⟩ (.slice (some ⟨i,0,none⟩) (B.names.length+4) r)):=
  Kept.setCell (S:=fun k=>k=b∨V.n.ownBlock=some k∨V.nm.ownBlock=some k) (((Kept.refl _ _).alloc X8).grown O (fun g a=>aA (ay (ay a)))) (p:=⟨b,1,none⟩) (aA (aA rfl)) _
 have j:=X.trans Y;have aa:e.heap[b]? = some (.cells (y5 V B.next).toArray 77 (0,0)):=qW C ((jX _ _ _ h.lt').trans h.aG) (iF h.rN h.aG dc);have s1:=R.size;have s2:=X.size;have s3:=Y.size;have s7:=size_setCell e ⟨b,0,none⟩ (.slice (some ⟨d,0,none⟩) (B.names.length+4) l);have P: ∀ g,V.nm.ownBlock=some g→S g:=fun g a=>h.iI g (ay (aA a));have D: ∀ g,lv.ownBlock=some g→V.nm.ownBlock≠some g:=fun g a x=>Z g a (P g x);have t: ∀ {v:Value},(∀ g,v.ownBlock=some g→lv.ownBlock=some g∨w.heap.size≤g)→ ∀ g,v.ownBlock=some g→V.nm.ownBlock≠some g:=fun o g a x=>by
  rcases o g a with z | z
  ·exact D g z x
  ·have:=hS g (P g x);omega
 have UR:(e.setCell ⟨b,0,none⟩ (.slice (some ⟨d,0,none⟩) (B.names.length+4) l)).ownsRow 0 9 1 V.nm B.names.length (B.names.map fun x=> .string x.s):=
  bV (Kept.only e b 0 _) (AA C (h.uU.alloc E) (yO h.uU h.rN dc)) (iF h.uU h.aG dc)
 have Q:(e.setCell ⟨b,0,none⟩ (.slice (some ⟨d,0,none⟩) (B.names.length+4) l)).ownsRow 0 34 1 (.slice (some ⟨d,0,none⟩) (B.names.length+4) l) (B.names.length+4) (B.names.map (·.v)++[lv,one,two,three]):=
  bV (Kept.only e b 0 _) T (iF T aa dc)
 have M:q.ownsRow 0 34 1 (.slice (some ⟨d,0,none⟩) (B.names.length+4) l) (B.names.length+4) (B.names.map (·.v)++[lv,one,two,three]):=
  AA O (Q.alloc X8) (yO Q UR dc)
 have A: ∀ {v:Value} {n:Nat} {xs:List Value},w6.ownsRow 0 9 1 v n xs→(∀ g,v.ownBlock=some g→V.nm.ownBlock≠some g)→ ∀ g,v.ownBlock=some g→(Value.slice (some ⟨i,0,none⟩) (B.names.length+4) r).ownBlock≠some g:=fun hr ha g a x=>by
  simp only [Value.ownBlock,jH] at x;rcases U with y | y
  ·exact ha g a (by rw [← x];exact y)
  ·have:=(hr.lt g a).2;omega
 refine ⟨{ V with n:= .slice (some ⟨d,0,none⟩) (B.names.length+4) l,nm:= .slice (some ⟨i,0,none⟩) (B.names.length+4) r },{ B with names:=B.names++[⟨lv,N,m⟩,⟨one,N+1,m⟩,⟨two,N+2,m⟩,⟨three,N+3,m⟩] },
  fun k=>S k∨lv.ownBlock=some k∨(w.heap.size≤k∧k<(q.setCell ⟨b,1,none⟩ (.slice (some ⟨i,0,none⟩) (B.names.length+4) r)).heap.size),?_,rfl,sm,rfl,rfl,fun x c=>asO (f:=abo.n) c sm sm sm sm,?_,fun k hk=>by rcases hk with x | x | x;exact aA x;exact ay (aA x);exact ay (ay x.1)⟩
 ·exact {
   aG:=by rw [heap_setCell_same _ _ _ _ _ _ _ L];rfl
   rN:=by
    have:=bV (Kept.only q b 1 (.slice (some ⟨i,0,none⟩) (B.names.length+4) r)) M (iF M L dc)
    simpa using this
   uU:=by
    have:=bV (Kept.only q b 1 (.slice (some ⟨i,0,none⟩) (B.names.length+4) r)) K (iF K L dc)
    simpa using this
   rF:=IW h j h.rF dc dc (yO h.rF h.uU dc)
   xQ:=IW h j h.xQ dc dc (yO h.xQ h.uU dc)
   rW:=IW h j h.rW dc dc (yO h.rW h.uU dc)
   xR:=IW h j h.xR dc dc (yO h.xR h.uU dc)
   eN:=fun x c=>by
    rcases fK.1 c with y | y
    ·exact IW h j (h.eN x y) dc dc (h.apart x y)
    ·simp only [cO,jM,jO] at y;rcases y with rfl | rfl | rfl | rfl
     ·exact IW h j F dc dc D
     ·exact IW h j G dc dc (t o1)
     ·exact IW h j H dc dc (t o2)
     ·exact IW h j I dc dc (t J)
   eF:=fun x c=>IW h j (h.eF x c) dc dc (yO (h.eF x c) h.uU dc)
   eW:=fun x c=>IW h j (h.eW x c) dc dc (yO (h.eW x c) h.uU dc)
   apart:=fun x c=>by
    rcases fK.1 c with y | y
    ·exact A (h.eN x y) (h.apart x y)
    ·simp only [cO,jM,jO] at y;rcases y with rfl | rfl | rfl | rfl
     ·exact A F D
     ·exact A G (t o1)
     ·exact A H (t o2)
     ·exact A I (t J)
   AB:=aA h.AB
   iI:=fun g a=>by
    have q8:=(K.lt i rfl).2;have q7:=(M.lt d rfl).2;rcases a with x | x | x | x | x | x
    ·simp only [Value.ownBlock,jH] at x;subst x;rcases a7 with y | y
     ·exact aA (h.iI _ (aA y))
     ·exact ay (ay ⟨om,by rw [size_setCell];exact q7⟩)
    ·simp only [Value.ownBlock,jH] at x;subst x;rcases U with y | y
     ·exact aA (h.iI _ (ay (aA y)))
     ·exact ay (ay ⟨om,by rw [size_setCell];exact q8⟩)
    ·exact aA (h.iI g (ay (ay (aA x))))
    ·exact aA (h.iI g (ay (ay (ay (aA x)))))
    ·exact aA (h.iI g (ay (ay (ay (ay (aA x))))))
    ·exact aA (h.iI g (ay (ay (ay (ay (ay x))))))
   IQ:=fun x c g a=>aA (h.IQ x c g a)
   IU:=fun x c g a=>by
    rcases fK.1 c with y | y
    ·exact aA (h.IU x y g a)
    ·simp only [cO,jM,jO] at y;rcases y with rfl | rfl | rfl | rfl
     ·exact ay (aA a)
     ·rcases o1 g a with z | z
      ·exact ay (aA z)
      ·exact ay (ay ⟨z,by have:=(G.lt g a).2;omega⟩)
     ·rcases o2 g a with z | z
      ·exact ay (aA z)
      ·exact ay (ay ⟨z,by have:=(H.lt g a).2;omega⟩)
     ·rcases J g a with z | z
      ·exact ay (aA z)
      ·exact ay (ay ⟨z,by have:=(I.lt g a).2;omega⟩)
   IV:=fun x c g a=>aA (h.IV x c g a)
   lt:=fun k hk=>by
    rcases hk with x | x | x
    ·have:=h.lt k x;omega
    ·have:=(F.lt k x).2;omega
    ·exact x.2 }
 ·refine R.trans (j.mono fun k hk=> ?_);rcases hk with rfl | x | x
  ·exact aA h.AB
  ·exact aA (h.iI k (aA x))
  ·exact aA (h.iI k (ay (aA x)))
def Rq (xs:List Value) (m:ByteArray) (k:Nat):List Value:=vM k m++xs.drop k
def asQ (xs:List Value) (m:ByteArray) (k:Nat) (h:k<xs.length):(Rq xs m k).set k (.string m)=Rq xs m (k+1):=by
 unfold Rq vM;rw [J7 _ _ sm,Ai,Bg,LU h,oq,LV,tV];rfl
def ave {w:World} {base g cap n:Nat} {e:TypeId} {xs:List Value} (h:w.ownsRow base e 1 (.slice (some ⟨g,0,none⟩) n cap) n xs) (k:Nat) (hk:k<n) (v:Value):
  (w.cell? ⟨g,k,none⟩).isSome=true∧w.frozen? ⟨g,k,none⟩=false∧(w.setCell ⟨g,k,none⟩ v).ownsRow base e 1 (.slice (some ⟨g,0,none⟩) n cap) n (xs.set k v):=by
 obtain ⟨d,f⟩:=h;rcases f with ⟨b,_⟩ | ⟨o,m,cur,b,i,c,hn,hm,hs,j⟩
 ·cases b
 ·injection b with a _ l;injection a with a;injection a with a _ _;subst a;subst l;refine ⟨?_,eY c k,by rw [rV];exact d,ay ⟨g,cap,cur.setIfInBounds k v,rfl,i,heap_setCell_same _ _ _ _ _ _ _ c,hn,hm,by rw [Array.size_setIfInBounds];exact hs,?_⟩⟩
  ·rw [aF c,anw om];rfl
  ·rw [Array.toList_setIfInBounds,WO,← j,WO,List.take_set]
def acs {w w6:World} {d e b f N a j H H0:Nat} {lv:Value} {m:ByteArray} (hr:w.ownsRow 0 9 1 (.slice (some ⟨d,0,none⟩) (N+a) e) (N+a) (vM (N+a) m))
  (p:lv= .slice (some ⟨d,0,none⟩) N e∨H0≤d) (o: ∀ g,lv.ownBlock=some g→g<H0) (n:(lv= .slice (some ⟨b,0,none⟩) N f∧w.grownBy w6 (some b))∨(b=H∧w.grownBy w6 none))
  (q:w6.ownsRow 0 9 1 (.slice (some ⟨b,0,none⟩) (N+j) f) (N+j) (vM (N+j) m)) (t:a≤j):w6.ownsRow 0 9 1 (.slice (some ⟨d,0,none⟩) (N+a) e) (N+a) (vM (N+a) m):=by
 rcases n with ⟨k,h⟩ | ⟨_,h⟩
 ·rcases p with i | i
  ·rw [k] at i;injection i with c _ s;injection c with c;injection c with c _ _;subst c;subst s;have r:w6.ownsRow 0 9 1 (.slice (some ⟨b,0,none⟩) (N+a+(j - a)) f) (N+a+(j - a)) (vM (N+a) m++vM (j - a) m):=by
    rw [show N+a+(j - a)=N+j by omega,show vM (N+a) m++vM (j - a) m=vM (N+j) m by rw [aaC];congr 1;omega];exact q
   exact VK r sm
  ·refine AA h hr (fun g l x=> ?_);simp only [Value.ownBlock,jH] at l x
   have:=o b (by rw [k];rfl)
   omega
 ·exact AA h hr (fun g l x=>by cases x)
def abQ {w w6:World} {a c N H:Nat} {lv:Value} {j:Nat} (e:(lv= .slice (some ⟨a,0,none⟩) N c∧w.grownBy w6 (some a))∨(a=H∧w.grownBy w6 none)) {H0:Nat} (f:H0≤H):
  (lv= .slice (some ⟨a,0,none⟩) N c∨H0≤a)∧ ∀ g,(Value.slice (some ⟨a,0,none⟩) (N+j) c).ownBlock=some g→lv.ownBlock=some g∨H0≤g:=by
 rcases e with ⟨d,_⟩ | ⟨d,_⟩
 ·exact ⟨aA d,fun g b=>by simp only [Value.ownBlock,jH] at b;subst b;exact aA (by rw [d];rfl)⟩
 ·exact ⟨ay om,fun g b=>by simp only [Value.ownBlock,jH] at b;exact ay om⟩
def adM {w:World} {g cap N j:Nat} {m:ByteArray} (h:w.ownsRow 0 9 1 (.slice (some ⟨g,0,none⟩) (N+j) cap) (N+j) (vM N m++vM j m)):w.ownsRow 0 9 1 (.slice (some ⟨g,0,none⟩) (N+j) cap) (N+j) (vM (N+j) m):=by
 rw [show vM (N+j) m=vM N m++vM j m from List.replicate_append_replicate.symm];exact h
def atX (w:World) (b:Nat) (V:oM) (B:nG) (S:Nat→Prop) (lv:Value) (xs:List Value) (h:iY w b V B S) (y:w.ownsRow 0 9 1 lv xs.length xs)
  (ad: ∀ g,lv.ownBlock=some g→ ¬ S g) (a0:B.next≤1000000000) (a1:B.names.length≤10000000000) (hL:xs.length≤1000):
  Calls Tryz.prog 129 #[.pointer (some ⟨b,0,none⟩),lv] w fun e q=>e= .returned (.tuple #[])∧
   ∃ V' r S',iY q b V' r S'∧r.next=B.next+1∧r.names.length=B.names.length+4∧r.writes=B.writes∧r.files=B.files∧(∀ x ∈ r.names,x ∈ B.names∨x.n≤xs.length+3)∧
    Kept (fun k=>S k∨lv.ownBlock=some k) w q∧(∀ k,S' k→S k∨lv.ownBlock=some k∨w.heap.size≤k):=by
 have c6:=h.cell 6;rw [show (y5 V B.next)[6]? = some (.int .i64 (B.next:Int)) from rfl] at c6;have z6:=eY h.aG 6;have L:=h.aeE (B.next+1);have a2:(B.next:Int)≤1000000000:=om;rw [show ((B.next+1:Nat):Int)=(B.next:Int)+1 by omega] at L;have d6:(w.setCell ⟨b,6,none⟩ (.int .i64 ((B.next:Int)+1))).drew.cell? ⟨b,6,none⟩=some (.int .i64 ((B.next:Int)+1)):=by
  show (w.setCell ⟨b,6,none⟩ (.int .i64 ((B.next:Int)+1))).cell? ⟨b,6,none⟩=_;rw [L.cell 6];show some (Value.int .i64 ((B.next+1:Nat):Int))=_;rw [show ((B.next+1:Nat):Int)=(B.next:Int)+1 by omega]
 go_enter Tryz.func129,Tryz.ntmps129
 go_wp2;generalize Z:w.setCell ⟨b,6,none⟩ (.int .i64 ((B.next:Int)+1))=W at*;have aq:(convert 73 9 (.slice (some ⟨W.heap.size,0,none⟩) 2 2)).run Tryz.prog (W.alloc (.cells #[.int .u8 (((B.next:Int)+1)%256),.int .u8 (((B.next:Int)+1) / 256%256)] 5)).drew= .ok (.string (bM [UInt8.ofNat ((B.next+1)%256),UInt8.ofNat ((B.next+1) / 256%256)])) (W.alloc (.cells #[.int .u8 (((B.next:Int)+1)%256),.int .u8 (((B.next:Int)+1) / 256%256)] 5)).drew:=by
  refine KJ (w:=(W.alloc (.cells #[.int .u8 (((B.next:Int)+1)%256),.int .u8 (((B.next:Int)+1) / 256%256)] 5)).drew) [UInt8.ofNat ((B.next+1)%256),UInt8.ofNat ((B.next+1) / 256%256)] (fun j v hv=> ?_) 2;have hb:(W.alloc (.cells #[.int .u8 (((B.next:Int)+1)%256),.int .u8 (((B.next:Int)+1) / 256%256)] 5)).drew.heap[W.heap.size]? = some (.cells #[.int .u8 (((B.next:Int)+1)%256),.int .u8 (((B.next:Int)+1) / 256%256)] 5 (0,0)):=aX W _;rw [rE,aF hb]
  match j with
  | 0=>
   simp only [cv,jU,J6,jH] at hv;rw [← hv,toNat_ofNat _ om]
   simp
  | 1=>
   simp only [cv,jU,J6,Gg,jH] at hv;rw [← hv,toNat_ofNat _ om]
   simp
  | k+2=>simp [cv] at hv
 have a3:(bM [UInt8.ofNat ((B.next+1)%256),UInt8.ofNat ((B.next+1) / 256%256)]).size=2:=rfl;have a4:(⟨#[35]⟩:ByteArray).size=1:=rfl;generalize bM [UInt8.ofNat ((B.next+1)%256),UInt8.ofNat ((B.next+1) / 256%256)]=t1 at*
 go_region
 go_wp2;have D:aC W (W.alloc (.cells #[.int .u8 (((B.next:Int)+1)%256),.int .u8 (((B.next:Int)+1) / 256%256)] 5)).drew:=((bG _ W).alloc (aO _) _).drew;generalize (W.alloc (.cells #[.int .u8 (((B.next:Int)+1)%256),.int .u8 (((B.next:Int)+1) / 256%256)] 5)).drew=W1 at*;generalize ((⟨#[35]⟩:ByteArray)++t1)=m at*;generalize ((B.next:Int)+1)%256=z0 at*;generalize ((B.next:Int)+1) / 256%256=z1 at*;generalize ((B.next:Int)+1) / 256=z2 at*;have ae:Kept (fun k=>S k∨lv.ownBlock=some k) w W:=by rw [← Z];exact (Kept.only w b 6 (.int .i64 ((B.next:Int)+1))).mono (fun k hk=>aA (by rw [hk];exact h.AB))
 have af:=ah (ae.trans (Kept.dQ D));have ag:W.ownsRow 0 9 1 lv xs.length xs:=by rw [← Z];exact bV (Kept.only w b 6 (.int .i64 ((B.next:Int)+1))) y (iF y h.aG dc)
 have ai:=ah (bV (Kept.dQ (S:=fun _=>False) D) ag (fun _ _=>id));have al:=ah (L.below D);have ab: ∀ g,lv.ownBlock=some g→g<w.heap.size:=fun g hg=>(y.lt g hg).2;have Kr:=ah ab;have z:=ah ad;have HS:=ah h.lt;obtain ⟨d,a,an⟩:=gQ y;have a5:=ah an;subst an;clear c6 z6 d6 L h y ab ad aq D ae ag Z;generalize hN:xs.length=N at*
 go_loopw [5] (fun i q=> ∃ k:Nat,k≤N∧i= .int .i64 k∧q.ownsRow 0 9 1 (.slice d N a) N (Rq xs m k)∧iY q b V { B with next:=B.next+1 } S∧Kept (fun k=>S k∨(Value.slice d N a).ownBlock=some k) w q) (fun i _=>N - (intOf i).toNat)
 case atStart=>exact ⟨0,om,rfl,uh ai,uh al,uh af⟩
 case round=>
  obtain ⟨k,hk,rfl,p,F,G⟩:=hrel;clear ai al af
  by_cases ar:k<N
  ·obtain ⟨g,ao,e2,_⟩:=gy p om;obtain ⟨rfl,rfl⟩:d=some ⟨g,0,none⟩∧a=ao:=by injection e2 with x1 x2 x3;exact ⟨x1,x3⟩
   have a6:(k:Int)<(N:Int):=om;obtain ⟨t1,t2,t3⟩:=ave p k ar (.string m);rw [asQ xs m k om] at t3;obtain ⟨ov,a7⟩:=anB.1 t1;have Js:=ah t3;have EN:=ah (F.kept (T:=fun x=>x=g) (Kept.only wr g k (.string m)) (fun x f e=>uh z g rfl (by rw [← e];exact f)));have M:=ah (G.trans ((Kept.only wr g k (.string m)).mono (T:=fun k=>S k∨(Value.slice (some ⟨g,0,none⟩) N a).ownBlock=some k) (fun x e=>ay (by rw [e];rfl))));clear p F G e2 t1 t3;go_wp2;go_roundw
   case rel=>exact ⟨k+1,om,gn,uh Js,uh EN,uh M⟩
   case measure=>exact bW
  ·have yG:k=N:=om;have aa:Rq xs m k=vM N m:=by rw [yG];unfold Rq;rw [← hN,aaB,sN]
   rw [aa] at p;have fA:=ah p;have EN:=ah F;have M:=ah G;clear p F G aa;obtain ⟨O,H,I,J,K⟩:=qw Tryz.adb;obtain ⟨i1,av,aw,ax,az⟩:=qw Tryz.arX
   go_wp2_with (first
    | (
     at_builtin
     refine P7 _ rfl _ _ _ rfl 0 9 O _ 1 16 Tryz.underlying34 H I J K rfl om (.slice d N a) N (vM N m) rfl (fA.alloc _) ⟨wr.heap.size,0,none⟩ 1 1 [.string m] rfl rfl (pJ (cs:= #[.string m]) (t:=9) (fr:=(0,0)) (aX wr _)) (by simp [Value.oneCell']) om (by unfold maxLen;omega) om om (wr.heap.size+1) sm ?_;intro g3 X w3 Q A aM;have L3:=ah (PG (fA.alloc (.cells #[.string m] 9)) Q A);have B3:=ah ((EN.below ((bG _ _).alloc (aO _) (.cells #[.string m] 9))).kept (DZ A) (fun x f e=>uh z x e f));have K3:=ah ((M.alloc (.cells #[.string m] 9)).trans ((DZ A).mono (T:=fun k=>S k∨(Value.slice d N a).ownBlock=some k) (fun k hk=>ay hk)));have G3:=ah (abQ (j:=1) A (H0:=w.heap.size) (by have:=M.size;omega));have O3:=ah (adM (j:=1) Q);clear Q A)
    | (
     at_builtin
     refine P7 _ rfl _ _ _ rfl 0 9 O _ 1 16 Tryz.underlying34 H I J K rfl om (.slice d N a) N (vM N m) rfl (L3.alloc _) ⟨w3.heap.size,0,none⟩ 2 2 [.string m,.string m] rfl rfl (pJ (cs:= #[.string m,.string m]) (t:=9) (fr:=(0,0)) (aX w3 _)) (by simp [Value.oneCell']) om (by unfold maxLen;omega) om om (w3.heap.size+1) sm ?_;intro g4 Y w4 R u aR;have L4:=ah (PG (L3.alloc (.cells #[.string m,.string m] 9)) R u);have B4:=ah ((B3.below ((bG _ _).alloc (aO _) (.cells #[.string m,.string m] 9))).kept (DZ u) (fun x f e=>uh z x e f));have K4:=ah ((K3.alloc (.cells #[.string m,.string m] 9)).trans ((DZ u).mono (T:=fun k=>S k∨(Value.slice d N a).ownBlock=some k) (fun k hk=>ay hk)));have G4:=ah (abQ (j:=2) u (H0:=w.heap.size) (by have:=K3.size;omega));have O4:=ah (adM (j:=2) R);have aD:=ah (acs (O3.alloc (.cells #[.string m,.string m] 9)) G3.1 Kr u O4 om)
     clear R u)
    | (
     at_builtin
     refine P7 _ rfl _ _ _ rfl 0 9 O _ 1 16 Tryz.underlying34 H I J K rfl om (.slice d N a) N (vM N m) rfl (L4.alloc _) ⟨w4.heap.size,0,none⟩ 3 3 [.string m,.string m,.string m] rfl rfl (pJ (cs:= #[.string m,.string m,.string m]) (t:=9) (fr:=(0,0)) (aX w4 _)) (by simp [Value.oneCell']) om (by unfold maxLen;omega) om om (w4.heap.size+1) sm ?_;intro g5 cap5 P U l uP;have L5:=ah (PG (L4.alloc (.cells #[.string m,.string m,.string m] 9)) U l);have c:=ah ((B4.below ((bG _ _).alloc (aO _) (.cells #[.string m,.string m,.string m] 9))).kept (DZ l) (fun x f e=>uh z x e f));have K5:=ah ((K4.alloc (.cells #[.string m,.string m,.string m] 9)).trans ((DZ l).mono (T:=fun k=>S k∨(Value.slice d N a).ownBlock=some k) (fun k hk=>ay hk)));have G5:=ah (abQ (j:=3) l (H0:=w.heap.size) (by have:=K4.size;omega));have O5:=ah (adM (j:=3) U)
     have aE:=ah (acs (aD.alloc (.cells #[.string m,.string m,.string m] 9)) G3.1 Kr l O5 om);have aL:=ah (acs (O4.alloc (.cells #[.string m,.string m,.string m] 9)) G4.1 Kr l O5 om);have c0:P.cell? ⟨b,0,none⟩=some V.n:=c.cell 0;clear U l)
    | (
     at_builtin
     refine yc _ rfl _ _ _ rfl 0 34 i1 _ 1 24 Tryz.underlying25 av aw ax az rfl om V.n B.names.length (B.names.map (·.v)) rfl (c.rN.alloc _) ⟨P.heap.size,0,none⟩ 4 4 [.slice d N a,.slice (some ⟨g3,0,none⟩) (N+1) X,.slice (some ⟨g4,0,none⟩) (N+2) Y,.slice (some ⟨g5,0,none⟩) (N+3) cap5] rfl rfl (pJ (cs:= #[.slice d N a,.slice (some ⟨g3,0,none⟩) (N+1) X,.slice (some ⟨g4,0,none⟩) (N+2) Y,.slice (some ⟨g5,0,none⟩) (N+3) cap5]) (t:=34) (fr:=(0,0)) (aX P _)) (by simp [Value.oneCell']) om (by unfold maxLen;omega) om om (P.heap.size+1) sm ?_;intro g7 jD o Rh Gz QX a8;have C:=ah (qW Gz (c.below ((bG _ _).alloc (aO _) (.cells #[.slice d N a,.slice (some ⟨g3,0,none⟩) (N+1) X,.slice (some ⟨g4,0,none⟩) (N+2) Y,.slice (some ⟨g5,0,none⟩) (N+3) cap5] 34))).aG (iF c.rN c.aG dc));have a9:o.cell? ⟨b,0,none⟩=some V.n:=(aF C 0).trans rfl
     have ba:o.cell? ⟨b,1,none⟩=some V.nm:=(aF C 1).trans rfl;have z7: ∀ i,o.frozen? ⟨b,i,none⟩=false:=fun i=>eY C i;have R9:=ah (bV (Kept.only o b 0 (.slice (some ⟨g7,0,none⟩) (B.names.length+4) jD)) (AA Gz (c.uU.alloc _) (yO c.uU c.rN dc)) (iF c.uU c.aG dc)))
    | (
     at_builtin
     refine yc _ rfl _ _ _ rfl 0 9 O _ 1 16 Tryz.underlying34 H I J K rfl om V.nm B.names.length (B.names.map fun x=> .string x.s) rfl (R9.alloc _) ⟨o.heap.size,0,none⟩ 4 4 [.string m,.string m,.string m,.string m] rfl rfl (pJ (cs:= #[.string m,.string m,.string m,.string m]) (t:=9) (fr:=(0,0)) (by have:=aX (o.setCell ⟨b,0,none⟩ (.slice (some ⟨g7,0,none⟩) (B.names.length+4) jD)) (.cells #[.string m,.string m,.string m,.string m] 9);rwa [size_setCell] at this)) (by simp [Value.oneCell']) om (by unfold maxLen;omega) om om (o.heap.size+1) sm ?_;intro g8 lS w8 Fz Ed IK Yl;have b8:=ah (qW Ed (show _=some (.cells (y5 { V with n:= .slice (some ⟨g7,0,none⟩) (B.names.length+4) jD } (B.next+1)).toArray 77 (0,0)) from (jX _ _ _ (by rw [size_setCell];exact aK C)).trans (by rw [heap_setCell_same _ _ _ _ _ _ _ (uh C)];rfl)) (fun g hg=>iF c.uU c.aG dc g hg))
     have bb:w8.cell? ⟨b,1,none⟩=some V.nm:=(aF b8 1).trans rfl;have z8: ∀ i,w8.frozen? ⟨b,i,none⟩=false:=fun i=>eY b8 i)
    | fail)
   have E:=ah (atY HS z c L5 aE aL O5 G3.2 G4.2 G5.2 K5 Gz Rh QX Ed Fz IK b8)
   go_end0
   exact ⟨rfl,uh E⟩
section
attribute [local go_sem ↓] dw kV jE ah4 l9
attribute [local go_sem] dM kZ mM aV
def row_one {w:World} {base g cap n:Nat} {e:TypeId} {xs:List Value} (h:w.ownsRow base e 1 (.slice (some ⟨g,0,none⟩) n cap) n xs) (k:Nat) (hk:k<n) {v:Value} (hv:xs[k]? = some v):w.cell? ⟨g,k,none⟩=some v:=by
 rw [h.cellAt k om];exact hv
structure afI (B:nG):Prop where
 ln:B.names.length≤1000000000
 lf:B.files.length≤1000000000
 lw:B.writes.length≤1000000000
 en: ∀ x ∈ B.names,x.n≤1000000000
 ef: ∀ x ∈ B.files,x.n≤1000000000
 ew: ∀ x ∈ B.writes,x.n≤1000000000
def iY.nameAt {w:World} {b:Nat} {V:oM} {B:nG} {S:Nat→Prop} (h:iY w b V B S) (k:Nat) (hk:k<B.names.length):
  ∃ g cap d a x e c,V.n= .slice (some ⟨g,0,none⟩) B.names.length cap∧V.nm= .slice (some ⟨d,0,none⟩) B.names.length a∧B.names[k]? = some x∧x ∈ B.names∧x.v= .slice e x.n c:=by
 obtain ⟨g,cap,f,_⟩:=gy h.rN om;obtain ⟨d,a,i,_⟩:=gy h.uU om;obtain ⟨e,c,j⟩:=gQ (h.eN _ (o9 hk));exact ⟨g,cap,d,a,B.names[k],e,c,f,i,bJ hk,o9 hk,j⟩
def iY.fileAt {w:World} {b:Nat} {V:oM} {B:nG} {S:Nat→Prop} (h:iY w b V B S) (k:Nat) (hk:k<B.files.length):
  ∃ g cap d a x e c,V.f= .slice (some ⟨g,0,none⟩) B.files.length cap∧V.fm= .slice (some ⟨d,0,none⟩) B.files.length a∧B.files[k]? = some x∧x ∈ B.files∧x.v= .slice e x.n c:=by
 obtain ⟨g,cap,i,_⟩:=gy h.rF om;obtain ⟨d,a,j,_⟩:=gy h.xQ om;obtain ⟨e,c,l⟩:=gQ (h.eF _ (o9 hk));exact ⟨g,cap,d,a,B.files[k],e,c,i,j,bJ hk,o9 hk,l⟩
def iY.axz {w:World} {b:Nat} {V:oM} {B:nG} {S:Nat→Prop} (h:iY w b V B S) (k:Nat) (hk:k<B.writes.length):
  ∃ g cap d a x e c,V.w= .slice (some ⟨g,0,none⟩) B.writes.length cap∧V.wm= .slice (some ⟨d,0,none⟩) B.writes.length a∧B.writes[k]? = some x∧x ∈ B.writes∧x.v= .slice e x.n c:=by
 obtain ⟨g,cap,f,_⟩:=gy h.rW om;obtain ⟨d,a,i,_⟩:=gy h.xR om;obtain ⟨e,c,j⟩:=gQ (h.eW _ (o9 hk));exact ⟨g,cap,d,a,B.writes[k],e,c,f,i,bJ hk,o9 hk,j⟩
def apE (n:Nat) (c:aj) (j:Nat) (hj:j<n):cl (List.replicate n c) j=c:=by
 unfold cl;rw [aN,rG,au hj];rfl
def axy (n:Nat) (c:fZ) (j:Nat) (hj:j<n):rP (List.replicate n c) j=c:=by
 unfold rP;rw [aN,rG,au hj];rfl
def aqD {w:World} {x:WS} {g cap:Nat} (h:w.ownsRow 0 38 64 (.slice (some ⟨g,0,none⟩) x.n cap) x.n (ah6 x)) (j:Nat) (hj:j<x.n):
  dU w g (j*64) 64∧dO w g (j*64) 64=cv (dV x.m):=by
 have a:Gi (List.replicate x.n (dV x.m)):=by
  intro c hc;rw [(afz.1 hc).2];exact Dn _
 have b:w.ownsRow 0 38 64 (.slice (some ⟨g,0,none⟩) (List.replicate x.n (dV x.m)).length cap) (List.replicate x.n (dV x.m)).length (aS (List.replicate x.n (dV x.m))):=by
  rw [Ai];exact h
 have e:=oP b a j (by simpa using hj);rw [apE _ _ _ hj] at e;exact ⟨oQ b a j (by simpa using hj),e⟩
def ah9 {w:World} {x:Xl} {g cap:Nat} (h:w.ownsRow 0 104 65 (.slice (some ⟨g,0,none⟩) x.n cap) x.n (ah8 x)) (j:Nat) (hj:j<x.n):
  dU w g (j*65) 65∧dO w g (j*65) 65=bT ⟨x.m,zc⟩:=by
 have a: ∀ c ∈ List.replicate x.n (⟨x.m,zc⟩:fZ),c.data.length=64:=by
  intro c hc;rw [(afz.1 hc).2];exact aV
 have b:Io w (.slice (some ⟨g,0,none⟩) (List.replicate x.n (⟨x.m,zc⟩:fZ)).length cap) (List.replicate x.n (⟨x.m,zc⟩:fZ)):=by
  refine ⟨?_,a⟩;rw [Ai];exact h
 have r:=b.range j (by simpa using hj);rw [axy _ _ _ hj] at r;exact ⟨sU r (tN aV),qU r (tN aV)⟩
def Ql (w:World) (n:Nat) (i:Value) (a:World):Prop:= ∃ k:Nat,k≤n∧i= .int .i64 k∧aC w a
def Vo (w:World) (b:Nat) (V:oM) (B:nG) (S:Nat→Prop) (h:iY w b V B S) (T:afI B):
  Calls Tryz.prog 35 #[.pointer (some ⟨b,0,none⟩)] w fun e c=>e= .returned (.bool true)∧aC w c:=by
 obtain ⟨an,cn,eN⟩:=gQ h.rN;obtain ⟨af,cf,eF⟩:=gQ h.rF;obtain ⟨aw,cw,eW⟩:=gQ h.rW;have hc: ∀ c,aC w c→c.cell? ⟨b,0,none⟩=some (.slice an B.names.length cn)∧c.cell? ⟨b,1,none⟩=some V.nm∧c.cell? ⟨b,2,none⟩=some (.slice af B.files.length cf)∧c.cell? ⟨b,3,none⟩=some V.fm∧c.cell? ⟨b,4,none⟩=some (.slice aw B.writes.length cw)∧c.cell? ⟨b,5,none⟩=some V.wm:=by
  intro c r;have Q:=h.below r;rw [Q.cell,Q.cell,Q.cell,Q.cell,Q.cell,Q.cell,← eN,← eF,← eW];exact ⟨rfl,rfl,rfl,rfl,rfl,rfl⟩
 have lN:(B.names.length:Int)≤1000000000:=by have:=T.ln;omega
 have lF:(B.files.length:Int)≤1000000000:=by have:=T.lf;omega
 have lW:(B.writes.length:Int)≤1000000000:=by have:=T.lw;omega
 have H:=ah h;have R:=ah hc;have HL:=ah T;have ag:=ah eN;have ai:=ah eF;have al:=ah eW;clear h hc T eN eF eW
 go_enter Tryz.func35,Tryz.ntmps35
 go_wp2
 go_loopw [3] (fun i c=>Ql w B.names.length i c) (fun i _=>B.names.length - (intOf i).toNat)
 case atStart=>exact ⟨0,om,rfl,bG _ _⟩
 case round=>
  obtain ⟨k,hk,rfl,r⟩:=hrel;have c0:=(uh R wr r).1;have G:=ah r;clear r
  by_cases p:k<B.names.length
  ·have M:(k:Int)<(B.names.length:Int):=om;go_wp2
   go_loopw [4] (fun i c=> ∃ x,B.names[k]? = some x∧Ql w x.n i c) (fun i _=>1000000000 - (intOf i).toNat)
   case atStart=>exact ⟨B.names[k],bJ p,0,om,rfl,uh G⟩
   case round=>
    obtain ⟨x,y,j,hj,rfl,q⟩:=hrel;clear c0;have f:=H.below q;have z:=uh R wr q;obtain ⟨g,cap,g2,aa,a,Z,U,A,C,o,hm,J⟩:=f.nameAt k p;obtain rfl:a=x:=by rw [o] at y;injection y
    have ad:(a.n:Int)≤1000000000:=by have:=HL.en a hm;omega
    obtain ⟨rfl,rfl⟩:an=some ⟨g,0,none⟩∧cn=cap:=by
     have K:=uh ag;rw [A] at K;injection K with t x2 D;exact ⟨t.symm,D.symm⟩
    have c0:=z.1;have c1:=z.2.1;rw [C] at c1;have E:=f.rN;rw [A] at E;have F:=f.uU;rw [C] at F;have O:=row_one E k p (v:=a.v) (by rw [jK,o];rfl);have P:=row_one F k p (v:= .string a.s) (by rw [jK,o];rfl);have l:=f.eN a hm;rw [J] at O l;have u:=ah q;have Hx:=ah o;have Hm:=ah hm;have HH:=ah f;clear f z A C o hm E F q J y
    by_cases N:j<a.n
    ·have X:(j:Int)<(a.n:Int):=om;obtain ⟨I,W,L,_⟩:=gy l om;obtain ⟨rfl,rfl⟩:Z=some ⟨I,0,none⟩∧U=W:=by injection L with t x2 D;exact ⟨t,D⟩
     have d1:=row_one l j N (v:= .string a.s) (by unfold ah7;rw [rG,au N]);clear l L;go_wp2
     go_quiet (fail)
     go_wp2;go_roundw
     case rel=>exact ⟨a,uh Hx,j+1,om,gn,u.trans ((((Kept.refl (fun _=>False) wr).drewN nq).below).mono u.size)⟩
     case measure=>exact bW
    ·have X: ¬ (j:Int)<(a.n:Int):=om;clear l P c1;go_wp2;go_roundw
     case rel=>exact ⟨k+1,om,gn,uh u⟩
     case measure=>exact bW
  ·have M: ¬ (k:Int)<(B.names.length:Int):=om;go_wp2;clear c0;have Y:=G;clear G hk p M;generalize Value.int .i64 (k:Int)=ao at*
   go_loopw [5] (fun i c=>Ql w B.files.length i c) (fun i _=>B.files.length - (intOf i).toNat)
   case atStart=>exact ⟨0,om,rfl,uh Y⟩
   case round=>
    obtain ⟨k,hk,rfl,r⟩:=hrel;have c0:=(uh R wr r).2.2.1;have G:=ah r;clear r
    by_cases p:k<B.files.length
    ·have M:(k:Int)<(B.files.length:Int):=om;go_wp2
     go_loopw [6] (fun i c=> ∃ x,B.files[k]? = some x∧Ql w x.n i c) (fun i _=>1000000000 - (intOf i).toNat)
     case atStart=>exact ⟨B.files[k],bJ p,0,om,rfl,uh G⟩
     case round=>
      obtain ⟨x,y,j,hj,rfl,q⟩:=hrel;clear c0;have f:=H.below q;have z:=uh R wr q;obtain ⟨g,cap,g2,aa,a,Z,U,A,C,o,hm,J⟩:=f.fileAt k p;obtain rfl:a=x:=by rw [o] at y;injection y
      have ad:(a.n:Int)≤1000000000:=by have:=HL.ef a hm;omega
      obtain ⟨rfl,rfl⟩:af=some ⟨g,0,none⟩∧cf=cap:=by
       have K:=uh ai;rw [A] at K;injection K with t x2 D;exact ⟨t.symm,D.symm⟩
      have c0:=z.2.2.1;have c1:=z.2.2.2.1;rw [C] at c1;have E:=f.rF;rw [A] at E;have F:=f.xQ;rw [C] at F;have O:=row_one E k p (v:=a.v) (by rw [jK,o];rfl);have P:=row_one F k p (v:= .int .u8 (a.m.toNat:Int)) (by rw [jK,o];rfl);have l:=f.eF a hm;rw [J] at O l;have u:=ah q;have Hx:=ah o;have Hm:=ah hm;have HH:=ah f;clear f z A C o hm E F q J y
      by_cases N:j<a.n
      ·have X:(j:Int)<(a.n:Int):=om;obtain ⟨I,W,L,_⟩:=gy l om;obtain ⟨rfl,rfl⟩:Z=some ⟨I,0,none⟩∧U=W:=by injection L with t x2 D;exact ⟨t,D⟩
       have r4: ∀ d os,dU (Go.Sort.grow (redrawn wr d) os) I (j*64) 64∧dO (Go.Sort.grow (redrawn wr d) os) I (j*64) 64=cv (dV a.m):=fun d os=>aqD (bV (S:=fun _=>False) (Kept.dQ (lJ wr d os)) l (fun _ _=>id)) j N;have l1:=fun d os=>(r4 d os).1;have l2:=fun d os=>(r4 d os).2;have x0:=fun d os=>Jm c0 d os;have t:=fun d os=>Jm c1 d os;have y0:=fun d os=>Jm O d os;have y2:=fun d os=>Jm P d os;have Hn:=ah (fun d os=>KZ a.m (Go.Sort.grow (redrawn wr d) os));have ab:=Dn a.m;have he:=wY ab ab;rw [dZ rfl] at he;clear l r4 L ab;go_wp2;clear c0 c1 O P;refine DJ kr kr ?_
       repeat (go_big_quiet_step (exact Aj (uh Hn _ _)))
       refine DK ?_;intro _ aq;obtain ⟨⟨dq,ar⟩,ae⟩:=aq;subst ae;clear x0 t y0 y2 l1 l2 Hn;go_wp2;go_roundw
       case rel=>exact ⟨a,uh Hx,j+1,om,gn,u.trans ((lJ wr dq ar).mono u.size)⟩
       case measure=>exact bW
      ·have X: ¬ (j:Int)<(a.n:Int):=om;clear l P c1;go_wp2;go_roundw
       case rel=>exact ⟨k+1,om,gn,uh u⟩
       case measure=>exact bW
    ·have M: ¬ (k:Int)<(B.files.length:Int):=om;go_wp2;clear c0;have av:=Y;clear av Y;have Y:=G;clear G hk p M;generalize Value.int .i64 (k:Int)=ao at*
     go_loopw [7] (fun i c=>Ql w B.writes.length i c) (fun i _=>B.writes.length - (intOf i).toNat)
     case atStart=>exact ⟨0,om,rfl,uh Y⟩
     case round=>
      obtain ⟨k,hk,rfl,r⟩:=hrel;have c0:=(uh R wr r).2.2.2.2.1;have G:=ah r;clear r
      by_cases p:k<B.writes.length
      ·have M:(k:Int)<(B.writes.length:Int):=om;go_wp2
       go_loopw [8] (fun i c=> ∃ x,B.writes[k]? = some x∧Ql w x.n i c) (fun i _=>1000000000 - (intOf i).toNat)
       case atStart=>exact ⟨B.writes[k],bJ p,0,om,rfl,uh G⟩
       case round=>
        obtain ⟨x,y,j,hj,rfl,q⟩:=hrel;clear c0;have f:=H.below q;have z:=uh R wr q;obtain ⟨g,cap,g2,aa,a,Z,U,A,C,o,hm,J⟩:=f.axz k p;obtain rfl:a=x:=by rw [o] at y;injection y
        have ad:(a.n:Int)≤1000000000:=by have:=HL.ew a hm;omega
        obtain ⟨rfl,rfl⟩:aw=some ⟨g,0,none⟩∧cw=cap:=by
         have K:=uh al;rw [A] at K;injection K with t x2 D;exact ⟨t.symm,D.symm⟩
        have c0:=z.2.2.2.2.1;have c1:=z.2.2.2.2.2;rw [C] at c1;have E:=f.rW;rw [A] at E;have F:=f.xR;rw [C] at F;have O:=row_one E k p (v:=a.v) (by rw [jK,o];rfl);have P:=row_one F k p (v:= .int .i64 a.m) (by rw [jK,o];rfl);have l:=f.eW a hm;rw [J] at O l;have u:=ah q;have Hx:=ah o;have Hm:=ah hm;have HH:=ah f;clear f z A C o hm E F q J y
        by_cases N:j<a.n
        ·have X:(j:Int)<(a.n:Int):=om;obtain ⟨I,W,L,_⟩:=gy l om;obtain ⟨rfl,rfl⟩:Z=some ⟨I,0,none⟩∧U=W:=by injection L with t x2 D;exact ⟨t,D⟩
         have d1: ∀ n,dU (wr.drewN n) I (j*65) 65:=fun n=>(ah9 l j N).1;have d3: ∀ n,dO (wr.drewN n) I (j*65) 65=bT ⟨a.m,zc⟩:=fun n=>(ah9 l j N).2;have he:=al7 (x:=⟨a.m,zc⟩) aV;clear l L;go_wp2
         go_quiet (fail)
         go_wp2;go_roundw
         case rel=>exact ⟨a,uh Hx,j+1,om,gn,u.trans ((((Kept.refl (fun _=>False) wr).drewN nq).below).mono u.size)⟩
         case measure=>exact bW
        ·have X: ¬ (j:Int)<(a.n:Int):=om;clear l P c1;go_wp2;go_roundw
         case rel=>exact ⟨k+1,om,gn,uh u⟩
         case measure=>exact bW
      ·have M: ¬ (k:Int)<(B.writes.length:Int):=om;go_wp2;clear c0;go_ret;exact ⟨rfl,uh G⟩
end
end Go.Proofs.YtknjjjenklfeoaaGreatDoor
