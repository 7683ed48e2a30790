import Derived.Test.YtknjjjenklfeoaaGreatDoorO37
set_option maxHeartbeats 8000000
set_option maxRecDepth 100000
set_option linter.all false
namespace Go.Proofs.YtknjjjenklfeoaaGreatDoor
open Go.RowKit
section
theorem Tryz.apG:(Tryz.prog.info? 34).map (fun i=>(i.zero,i.size,i.bytes))=some (some (.slice none 0 0),1,24):=kr
theorem GZ {w W:World} {b:Nat} {V:ou} {B:lX} {S:Nat→Prop} (h:iK w b V B S) (hk:Kept (fun k=>k=b∨V.n.ownBlock=some k∨V.nm.ownBlock=some k) w W) {base:Nat} {e:TypeId} {size:Nat} {v:Value} {n:Nat} {xs:List Value}
  (hr:w.ownsRow base e size v n xs) (h1:e≠77) (h2:e≠34) (h3: ∀ g,v.ownBlock=some g→V.nm.ownBlock≠some g):W.ownsRow base e size v n xs:=
 bQ hk hr fun g hg x=>by
  rcases x with x | x | x
  ·exact iw hr h.aF h1 g hg x
  ·exact xW hr h.rN h2 g hg x
  ·exact h3 g hg x
theorem aqp {α:Type} {l:List α} {a b c d x:α} {f:α→Nat} {n:Nat} (hx:x ∈ l++[a,b,c,d]) (ha:f a≤n) (hb:f b≤n) (hc:f c≤n) (hd:f d≤n):x ∈ l∨f x≤n:=by
 rcases gq.1 hx with y | y
 ·exact aA y
 ·simp only [dD,jM,jO] at y;rcases y with rfl | rfl | rfl | rfl
  ·exact ay ha
  ·exact ay hb
  ·exact ay hc
  ·exact ay hd
abbrev uV (N:Nat) (s:ByteArray):List Value:=List.replicate N (.string s)
theorem arD {w w6 w7 w8:World} {b:Nat} {V:ou} {B:lX} {S:Nat→Prop} {lv one two three:Value} {N g7 ji g8 kR:Nat} {m:ByteArray} {X7 X8:Obj} (hS: ∀ k,S k→k<w.heap.size) (hne: ∀ g,lv.ownBlock=some g→ ¬ S g)
  (h:iK w6 b V B S) (hl:w6.ownsRow 0 9 1 lv N (uV N m)) (h1:w6.ownsRow 0 9 1 one (N+1) (uV (N+1) m)) (h2:w6.ownsRow 0 9 1 two (N+2) (uV (N+2) m)) (h3:w6.ownsRow 0 9 1 three (N+3) (uV (N+3) m))
  (o1: ∀ g,one.ownBlock=some g→lv.ownBlock=some g∨w.heap.size≤g) (o2: ∀ g,two.ownBlock=some g→lv.ownBlock=some g∨w.heap.size≤g) (o3: ∀ g,three.ownBlock=some g→lv.ownBlock=some g∨w.heap.size≤g)
  (hK:Kept (fun k=>S k∨lv.ownBlock=some k) w w6)
  (hg7:(w6.alloc X7).grownBy w7 V.n.ownBlock) (r7:w7.ownsRow 0 34 1 (.slice (some ⟨g7,0,none⟩) (B.names.length+4) ji) (B.names.length+4) (B.names.map (·.v)++[lv,one,two,three])) (a7:V.n.ownBlock=some g7∨g7=w6.heap.size+1)
  (hg8:((w7.setCell ⟨b,0,none⟩ (.slice (some ⟨g7,0,none⟩) (B.names.length+4) ji)).alloc X8).grownBy w8 V.nm.ownBlock)
  (r8:w8.ownsRow 0 9 1 (.slice (some ⟨g8,0,none⟩) (B.names.length+4) kR) (B.names.length+4) ((B.names.map fun x=> .string x.s)++[.string m,.string m,.string m,.string m])) (a8:V.nm.ownBlock=some g8∨g8=w7.heap.size+1)
  (b8:w8.heap[b]? = some (.cells (yw { V with n:= .slice (some ⟨g7,0,none⟩) (B.names.length+4) ji } B.next).toArray 77 (0,0))):
  ∃ V' B' S',iK (w8.setCell ⟨b,1,none⟩ (.slice (some ⟨g8,0,none⟩) (B.names.length+4) kR)) b V' B' S'∧B'.next=B.next∧B'.names.length=B.names.length+4∧B'.writes=B.writes∧B'.files=B.files∧(∀ x ∈ B'.names,x ∈ B.names∨x.n≤N+3)∧
   Kept (fun k=>S k∨lv.ownBlock=some k) w (w8.setCell ⟨b,1,none⟩ (.slice (some ⟨g8,0,none⟩) (B.names.length+4) kR))∧(∀ k,S' k→S k∨lv.ownBlock=some k∨w.heap.size≤k):=by
 have KA:Kept (fun k=>k=b∨V.n.ownBlock=some k∨V.nm.ownBlock=some k) w6 (w7.setCell ⟨b,0,none⟩ (.slice (some ⟨g7,0,none⟩) (B.names.length+4) ji)):=
  Kept.setCell (S:=fun k=>k=b∨V.n.ownBlock=some k∨V.nm.ownBlock=some k) (((Kept.refl _ _).alloc X7).grown hg7 (fun g hg=>aA (ay (aA hg)))) (p:=⟨b,0,none⟩) (aA (aA rfl)) _
 have KB:Kept (fun k=>k=b∨V.n.ownBlock=some k∨V.nm.ownBlock=some k) (w7.setCell ⟨b,0,none⟩ (.slice (some ⟨g7,0,none⟩) (B.names.length+4) ji)) (w8.setCell ⟨b,1,none⟩ (.slice (some ⟨g8,0,none⟩) (B.names.length+4) kR)):=
  Kept.setCell (S:=fun k=>k=b∨V.n.ownBlock=some k∨V.nm.ownBlock=some k) (((Kept.refl _ _).alloc X8).grown hg8 (fun g hg=>aA (ay (ay hg)))) (p:=⟨b,1,none⟩) (aA (aA rfl)) _
 have oL:=KA.trans KB;have hb7:w7.heap[b]? = some (.cells (yw V B.next).toArray 77 (0,0)):=qH hg7 ((jE _ _ _ h.lt').trans h.aF) (iw h.rN h.aF dc);have s1:=hK.size;have s2:=KA.size;have s3:=KB.size;have s7:=size_setCell w7 ⟨b,0,none⟩ (.slice (some ⟨g7,0,none⟩) (B.names.length+4) ji);have nmS: ∀ g,V.nm.ownBlock=some g→S g:=fun g hg=>h.iC g (ay (aA hg));have aaX: ∀ g,lv.ownBlock=some g→V.nm.ownBlock≠some g:=fun g hg x=>hne g hg (nmS g x);have far: ∀ {v:Value},(∀ g,v.ownBlock=some g→lv.ownBlock=some g∨w.heap.size≤g)→ ∀ g,v.ownBlock=some g→V.nm.ownBlock≠some g:=fun o g hg x=>by
  rcases o g hg with z | z
  ·exact aaX g z x
  ·have:=hS g (nmS g x);omega
 have TB:(w7.setCell ⟨b,0,none⟩ (.slice (some ⟨g7,0,none⟩) (B.names.length+4) ji)).ownsRow 0 9 1 V.nm B.names.length (B.names.map fun x=> .string x.s):=
  bQ (Kept.only w7 b 0 _) (zN hg7 (h.uw.alloc X7) (xW h.uw h.rN dc)) (iw h.uw h.aF dc)
 have r7':(w7.setCell ⟨b,0,none⟩ (.slice (some ⟨g7,0,none⟩) (B.names.length+4) ji)).ownsRow 0 34 1 (.slice (some ⟨g7,0,none⟩) (B.names.length+4) ji) (B.names.length+4) (B.names.map (·.v)++[lv,one,two,three]):=
  bQ (Kept.only w7 b 0 _) r7 (iw r7 hb7 dc)
 have Ib:w8.ownsRow 0 34 1 (.slice (some ⟨g7,0,none⟩) (B.names.length+4) ji) (B.names.length+4) (B.names.map (·.v)++[lv,one,two,three]):=
  zN hg8 (r7'.alloc X8) (xW r7' TB dc)
 have newer: ∀ {v:Value} {n:Nat} {xs:List Value},w6.ownsRow 0 9 1 v n xs→(∀ g,v.ownBlock=some g→V.nm.ownBlock≠some g)→ ∀ g,v.ownBlock=some g→(Value.slice (some ⟨g8,0,none⟩) (B.names.length+4) kR).ownBlock≠some g:=fun hr ha g hg x=>by
  simp only [Value.ownBlock,jv] at x;rcases a8 with y | y
  ·exact ha g hg (by rw [← x];exact y)
  ·have:=(hr.lt g hg).2;omega
 refine ⟨{ V with n:= .slice (some ⟨g7,0,none⟩) (B.names.length+4) ji,nm:= .slice (some ⟨g8,0,none⟩) (B.names.length+4) kR },{ B with names:=B.names++[⟨lv,N,m⟩,⟨one,N+1,m⟩,⟨two,N+2,m⟩,⟨three,N+3,m⟩] },
  fun k=>S k∨lv.ownBlock=some k∨(w.heap.size≤k∧k<(w8.setCell ⟨b,1,none⟩ (.slice (some ⟨g8,0,none⟩) (B.names.length+4) kR)).heap.size),?_,rfl,sm,rfl,rfl,fun x hx=>aqp (f:=ZU.n) hx sm sm sm sm,?_,fun k hk=>by rcases hk with x | x | x;exact aA x;exact ay (aA x);exact ay (ay x.1)⟩
 ·exact {
   aF:=by rw [heap_setCell_same _ _ _ _ _ _ _ b8];rfl
   rN:=by
    have:=bQ (Kept.only w8 b 1 (.slice (some ⟨g8,0,none⟩) (B.names.length+4) kR)) Ib (iw Ib b8 dc)
    simpa using this
   uw:=by
    have:=bQ (Kept.only w8 b 1 (.slice (some ⟨g8,0,none⟩) (B.names.length+4) kR)) r8 (iw r8 b8 dc)
    simpa using this
   rF:=GZ h oL h.rF dc dc (xW h.rF h.uw dc)
   wY:=GZ h oL h.wY dc dc (xW h.wY h.uw dc)
   rW:=GZ h oL h.rW dc dc (xW h.rW h.uw dc)
   wZ:=GZ h oL h.wZ dc dc (xW h.wZ h.uw dc)
   eN:=fun x hx=>by
    rcases gq.1 hx with y | y
    ·exact GZ h oL (h.eN x y) dc dc (h.apart x y)
    ·simp only [dD,jM,jO] at y;rcases y with rfl | rfl | rfl | rfl
     ·exact GZ h oL hl dc dc aaX
     ·exact GZ h oL h1 dc dc (far o1)
     ·exact GZ h oL h2 dc dc (far o2)
     ·exact GZ h oL h3 dc dc (far o3)
   eF:=fun x hx=>GZ h oL (h.eF x hx) dc dc (xW (h.eF x hx) h.uw dc)
   eW:=fun x hx=>GZ h oL (h.eW x hx) dc dc (xW (h.eW x hx) h.uw dc)
   apart:=fun x hx=>by
    rcases gq.1 hx with y | y
    ·exact newer (h.eN x y) (h.apart x y)
    ·simp only [dD,jM,jO] at y;rcases y with rfl | rfl | rfl | rfl
     ·exact newer hl aaX
     ·exact newer h1 (far o1)
     ·exact newer h2 (far o2)
     ·exact newer h3 (far o3)
   zO:=aA h.zO
   iC:=fun g hg=>by
    have q8:=(r8.lt g8 rfl).2;have q7:=(Ib.lt g7 rfl).2;rcases hg with x | x | x | x | x | x
    ·simp only [Value.ownBlock,jv] at x;subst x;rcases a7 with y | y
     ·exact aA (h.iC _ (aA y))
     ·exact ay (ay ⟨om,by rw [size_setCell];exact q7⟩)
    ·simp only [Value.ownBlock,jv] at x;subst x;rcases a8 with y | y
     ·exact aA (h.iC _ (ay (aA y)))
     ·exact ay (ay ⟨om,by rw [size_setCell];exact q8⟩)
    ·exact aA (h.iC g (ay (ay (aA x))))
    ·exact aA (h.iC g (ay (ay (ay (aA x)))))
    ·exact aA (h.iC g (ay (ay (ay (ay (aA x))))))
    ·exact aA (h.iC g (ay (ay (ay (ay (ay x))))))
   GV:=fun x hx g hg=>aA (h.GV x hx g hg)
   GX:=fun x hx g hg=>by
    rcases gq.1 hx with y | y
    ·exact aA (h.GX x y g hg)
    ·simp only [dD,jM,jO] at y;rcases y with rfl | rfl | rfl | rfl
     ·exact ay (aA hg)
     ·rcases o1 g hg with z | z
      ·exact ay (aA z)
      ·exact ay (ay ⟨z,by have:=(h1.lt g hg).2;omega⟩)
     ·rcases o2 g hg with z | z
      ·exact ay (aA z)
      ·exact ay (ay ⟨z,by have:=(h2.lt g hg).2;omega⟩)
     ·rcases o3 g hg with z | z
      ·exact ay (aA z)
      ·exact ay (ay ⟨z,by have:=(h3.lt g hg).2;omega⟩)
   GY:=fun x hx g hg=>aA (h.GY x hx g hg)
   lt:=fun k hk=>by
    rcases hk with x | x | x
    ·have:=h.lt k x;omega
    ·have:=(hl.lt k x).2;omega
    ·exact x.2 }
 ·refine hK.trans (oL.mono fun k hk=> ?_);rcases hk with rfl | x | x
  ·exact aA h.zO
  ·exact aA (h.iC k (aA x))
  ·exact aA (h.iC k (ay (aA x)))
def Qk (xs:List Value) (m:ByteArray) (k:Nat):List Value:=uV k m++xs.drop k
theorem aqs (xs:List Value) (m:ByteArray) (k:Nat) (h:k<xs.length):(Qk xs m k).set k (.string m)=Qk xs m (k+1):=by
 unfold Qk uV;rw [Jv _ _ sm,zy,Bf,KO h,nK,KP,uG];rfl
theorem asP {w:World} {base g cap n:Nat} {e:TypeId} {xs:List Value} (h:w.ownsRow base e 1 (.slice (some ⟨g,0,none⟩) n cap) n xs) (k:Nat) (hk:k<n) (v:Value):
  (w.cell? ⟨g,k,none⟩).isSome=true∧w.frozen? ⟨g,k,none⟩=false∧(w.setCell ⟨g,k,none⟩ v).ownsRow base e 1 (.slice (some ⟨g,0,none⟩) n cap) n (xs.set k v):=by
 obtain ⟨h1,h2⟩:=h;rcases h2 with ⟨e0,_⟩ | ⟨g',cap',cur,e0,hb,hh,hn,hm,hs,ht⟩
 ·cases e0
 ·injection e0 with e1 _ e3;injection e1 with e1;injection e1 with e1 _ _;subst e1;subst e3;refine ⟨?_,eG hh k,by rw [rG];exact h1,ay ⟨g,cap,cur.setIfInBounds k v,rfl,hb,heap_setCell_same _ _ _ _ _ _ _ hh,hn,hm,by rw [Array.size_setIfInBounds];exact hs,?_⟩⟩
  ·rw [aG hh,alr om];rfl
  ·rw [Array.toList_setIfInBounds,Vj,← ht,Vj,List.take_set]
theorem aaW {w w6:World} {g3 cap3 g6 cap6 N a j H H0:Nat} {lv:Value} {m:ByteArray} (hr:w.ownsRow 0 9 1 (.slice (some ⟨g3,0,none⟩) (N+a) cap3) (N+a) (uV (N+a) m))
  (hg3:lv= .slice (some ⟨g3,0,none⟩) N cap3∨H0≤g3) (hlt0: ∀ g,lv.ownBlock=some g→g<H0) (hcase:(lv= .slice (some ⟨g6,0,none⟩) N cap6∧w.grownBy w6 (some g6))∨(g6=H∧w.grownBy w6 none))
  (h26:w6.ownsRow 0 9 1 (.slice (some ⟨g6,0,none⟩) (N+j) cap6) (N+j) (uV (N+j) m)) (haj:a≤j):w6.ownsRow 0 9 1 (.slice (some ⟨g3,0,none⟩) (N+a) cap3) (N+a) (uV (N+a) m):=by
 rcases hcase with ⟨e6,hg6⟩ | ⟨_,hg6⟩
 ·rcases hg3 with e3 | e3
  ·rw [e6] at e3;injection e3 with x1 _ x3;injection x1 with x1;injection x1 with x1 _ _;subst x1;subst x3;have h27:w6.ownsRow 0 9 1 (.slice (some ⟨g6,0,none⟩) (N+a+(j - a)) cap6) (N+a+(j - a)) (uV (N+a) m++uV (j - a) m):=by
    rw [show N+a+(j - a)=N+j by omega,show uV (N+a) m++uV (j - a) m=uV (N+j) m by rw [Y9];congr 1;omega];exact h26
   exact Uu h27 sm
  ·refine zN hg6 hr (fun g hg x=> ?_);simp only [Value.ownBlock,jv] at hg x
   have:=hlt0 g6 (by rw [e6];rfl)
   omega
 ·exact zN hg6 hr (fun g hg x=>by cases x)
theorem aat {w w6:World} {g6 cap6 N H:Nat} {lv:Value} {j:Nat} (hcase:(lv= .slice (some ⟨g6,0,none⟩) N cap6∧w.grownBy w6 (some g6))∨(g6=H∧w.grownBy w6 none)) {H0:Nat} (hH:H0≤H):
  (lv= .slice (some ⟨g6,0,none⟩) N cap6∨H0≤g6)∧ ∀ g,(Value.slice (some ⟨g6,0,none⟩) (N+j) cap6).ownBlock=some g→lv.ownBlock=some g∨H0≤g:=by
 rcases hcase with ⟨e6,_⟩ | ⟨e6,_⟩
 ·exact ⟨aA e6,fun g hg=>by simp only [Value.ownBlock,jv] at hg;subst hg;exact aA (by rw [e6];rfl)⟩
 ·exact ⟨ay om,fun g hg=>by simp only [Value.ownBlock,jv] at hg;exact ay om⟩
theorem ab7 {w:World} {g cap N j:Nat} {m:ByteArray} (h:w.ownsRow 0 9 1 (.slice (some ⟨g,0,none⟩) (N+j) cap) (N+j) (uV N m++uV j m)):w.ownsRow 0 9 1 (.slice (some ⟨g,0,none⟩) (N+j) cap) (N+j) (uV (N+j) m):=by
 rw [show uV (N+j) m=uV N m++uV j m from List.replicate_append_replicate.symm];exact h
theorem arC (w:World) (b:Nat) (V:ou) (B:lX) (S:Nat→Prop) (lv:Value) (xs:List Value) (h:iK w b V B S) (hl:w.ownsRow 0 9 1 lv xs.length xs)
  (hne: ∀ g,lv.ownBlock=some g→ ¬ S g) (hnx:B.next≤1000000000) (hfl:B.names.length≤10000000000) (hL:xs.length≤1000):
  Calls Tryz.prog 129 #[.pointer (some ⟨b,0,none⟩),lv] w fun e w'=>e= .returned (.tuple #[])∧
   ∃ V' B' S',iK w' b V' B' S'∧B'.next=B.next+1∧B'.names.length=B.names.length+4∧B'.writes=B.writes∧B'.files=B.files∧(∀ x ∈ B'.names,x ∈ B.names∨x.n≤xs.length+3)∧
    Kept (fun k=>S k∨lv.ownBlock=some k) w w'∧(∀ k,S' k→S k∨lv.ownBlock=some k∨w.heap.size≤k):=by
 have c6:=h.cell 6;rw [show (yw V B.next)[6]? = some (.int .i64 (B.next:Int)) from rfl] at c6;have z6:=eG h.aF 6;have h1:=h.ac0 (B.next+1);have hni:(B.next:Int)≤1000000000:=om;rw [show ((B.next+1:Nat):Int)=(B.next:Int)+1 by omega] at h1;have d6:(w.setCell ⟨b,6,none⟩ (.int .i64 ((B.next:Int)+1))).drew.cell? ⟨b,6,none⟩=some (.int .i64 ((B.next:Int)+1)):=by
  show (w.setCell ⟨b,6,none⟩ (.int .i64 ((B.next:Int)+1))).cell? ⟨b,6,none⟩=_;rw [h1.cell 6];show some (Value.int .i64 ((B.next+1:Nat):Int))=_;rw [show ((B.next+1:Nat):Int)=(B.next:Int)+1 by omega]
 go_enter Tryz.func129,Tryz.ntmps129
 go_wp2;generalize hW:w.setCell ⟨b,6,none⟩ (.int .i64 ((B.next:Int)+1))=W at*;have hcv:(convert 73 9 (.slice (some ⟨W.heap.size,0,none⟩) 2 2)).run Tryz.prog (W.alloc (.cells #[.int .u8 (((B.next:Int)+1)%256),.int .u8 (((B.next:Int)+1) / 256%256)] 5)).drew= .ok (.string (bJ [UInt8.ofNat ((B.next+1)%256),UInt8.ofNat ((B.next+1) / 256%256)])) (W.alloc (.cells #[.int .u8 (((B.next:Int)+1)%256),.int .u8 (((B.next:Int)+1) / 256%256)] 5)).drew:=by
  refine JO (w:=(W.alloc (.cells #[.int .u8 (((B.next:Int)+1)%256),.int .u8 (((B.next:Int)+1) / 256%256)] 5)).drew) [UInt8.ofNat ((B.next+1)%256),UInt8.ofNat ((B.next+1) / 256%256)] (fun j v hv=> ?_) 2;have hb:(W.alloc (.cells #[.int .u8 (((B.next:Int)+1)%256),.int .u8 (((B.next:Int)+1) / 256%256)] 5)).drew.heap[W.heap.size]? = some (.cells #[.int .u8 (((B.next:Int)+1)%256),.int .u8 (((B.next:Int)+1) / 256%256)] 5 (0,0)):=aW W _;rw [qR,aG hb]
  match j with
  | 0=>
   simp only [cv,jC,Ju,jv] at hv;rw [← hv,toNat_ofNat _ om]
   simp
  | 1=>
   simp only [cv,jC,Ju,EN,jv] at hv;rw [← hv,toNat_ofNat _ om]
   simp
  | k+2=>simp [cv] at hv
 have hq2:(bJ [UInt8.ofNat ((B.next+1)%256),UInt8.ofNat ((B.next+1) / 256%256)]).size=2:=rfl;have hq1:(⟨#[35]⟩:ByteArray).size=1:=rfl;generalize bJ [UInt8.ofNat ((B.next+1)%256),UInt8.ofNat ((B.next+1) / 256%256)]=t1 at*
 go_region
 go_wp2;have hW1:aC W (W.alloc (.cells #[.int .u8 (((B.next:Int)+1)%256),.int .u8 (((B.next:Int)+1) / 256%256)] 5)).drew:=((bG _ W).alloc (aP _) _).drew;generalize (W.alloc (.cells #[.int .u8 (((B.next:Int)+1)%256),.int .u8 (((B.next:Int)+1) / 256%256)] 5)).drew=W1 at*;generalize ((⟨#[35]⟩:ByteArray)++t1)=m at*;generalize ((B.next:Int)+1)%256=z0 at*;generalize ((B.next:Int)+1) / 256%256=z1 at*;generalize ((B.next:Int)+1) / 256=z2 at*;have hK0:Kept (fun k=>S k∨lv.ownBlock=some k) w W:=by rw [← hW];exact (Kept.only w b 6 (.int .i64 ((B.next:Int)+1))).mono (fun k hk=>aA (by rw [hk];exact h.zO))
 have HK0:=ah (hK0.trans (Kept.dS hW1));have hl0:W.ownsRow 0 9 1 lv xs.length xs:=by rw [← hW];exact bQ (Kept.only w b 6 (.int .i64 ((B.next:Int)+1))) hl (iw hl h.aF dc)
 have Hl0:=ah (bQ (Kept.dS (S:=fun _=>False) hW1) hl0 (fun _ _=>id));have HB0:=ah (h1.below hW1);have hlt0: ∀ g,lv.ownBlock=some g→g<w.heap.size:=fun g hg=>(hl.lt g hg).2;have JB:=ah hlt0;have uj:=ah hne;have HS:=ah h.lt;obtain ⟨la,jq,hlv⟩:=iq hl;have Hlv:=ah hlv;subst hlv;clear c6 z6 d6 h1 h hl hlt0 hne hcv hW1 hK0 hl0 hW;generalize hN:xs.length=N at*
 go_loopw [5] (fun i w'=> ∃ k:Nat,k≤N∧i= .int .i64 k∧w'.ownsRow 0 9 1 (.slice la N jq) N (Qk xs m k)∧iK w' b V { B with next:=B.next+1 } S∧Kept (fun k=>S k∨(Value.slice la N jq).ownBlock=some k) w w') (fun i _=>N - (intOf i).toNat)
 case atStart=>exact ⟨0,om,rfl,uh Hl0,uh HB0,uh HK0⟩
 case round=>
  obtain ⟨k,hk,rfl,hrow,hbk,hkp⟩:=hrel;clear Hl0 HB0 HK0
  by_cases hlt:k<N
  ·obtain ⟨g,cap2,e2,_⟩:=gB hrow om;obtain ⟨rfl,rfl⟩:la=some ⟨g,0,none⟩∧jq=cap2:=by injection e2 with x1 x2 x3;exact ⟨x1,x3⟩
   have hki:(k:Int)<(N:Int):=om;obtain ⟨t1,t2,t3⟩:=asP hrow k hlt (.string m);rw [aqs xs m k om] at t3;obtain ⟨ov,hov⟩:=alv.1 t1;have Iw:=ah t3;have DR:=ah (hbk.kept (T:=fun x=>x=g) (Kept.only wr g k (.string m)) (fun x hx e=>uh uj g rfl (by rw [← e];exact hx)));have Bz:=ah (hkp.trans ((Kept.only wr g k (.string m)).mono (T:=fun k=>S k∨(Value.slice (some ⟨g,0,none⟩) N jq).ownBlock=some k) (fun x e=>ay (by rw [e];rfl))));clear hrow hbk hkp e2 t1 t3;go_wp2;go_roundw
   case rel=>exact ⟨k+1,om,gn,uh Iw,uh DR,uh Bz⟩
   case measure=>exact cO
  ·have xK:k=N:=om;have hfull:Qk xs m k=uV N m:=by rw [xK];unfold Qk;rw [← hN,Zd,rU]
   rw [hfull] at hrow;have fA:=ah hrow;have DR:=ah hbk;have Bz:=ah hkp;clear hrow hbk hkp hfull;obtain ⟨i0,hi0,hz0,hz1,hz2⟩:=qy Tryz.abC;obtain ⟨i1,hi1,hx0,hx1,hx2⟩:=qy Tryz.apG
   go_wp2_with (first
    | (
     at_builtin
     refine OD _ rfl _ _ _ rfl 0 9 i0 _ 1 16 Tryz.underlying34 hi0 hz0 hz1 hz2 rfl om (.slice la N jq) N (uV N m) rfl (fA.alloc _) ⟨wr.heap.size,0,none⟩ 1 1 [.string m] rfl rfl (pU (cs:= #[.string m]) (t:=9) (fr:=(0,0)) (aW wr _)) (by simp [Value.oneCell']) om (by unfold maxLen;omega) om om (wr.heap.size+1) sm ?_;intro g3 cap3 w3 hown3 y8 hlt3;have L3:=ah (Oi (fA.alloc (.cells #[.string m] 9)) hown3 y8);have B3:=ah ((DR.below ((bG _ _).alloc (aP _) (.cells #[.string m] 9))).kept (CZ y8) (fun x hx e=>uh uj x e hx));have K3:=ah ((Bz.alloc (.cells #[.string m] 9)).trans ((CZ y8).mono (T:=fun k=>S k∨(Value.slice la N jq).ownBlock=some k) (fun k hk=>ay hk)));have G3:=ah (aat (j:=1) y8 (H0:=w.heap.size) (by have:=Bz.size;omega));have O3:=ah (ab7 (j:=1) hown3);clear hown3 y8)
    | (
     at_builtin
     refine OD _ rfl _ _ _ rfl 0 9 i0 _ 1 16 Tryz.underlying34 hi0 hz0 hz1 hz2 rfl om (.slice la N jq) N (uV N m) rfl (L3.alloc _) ⟨w3.heap.size,0,none⟩ 2 2 [.string m,.string m] rfl rfl (pU (cs:= #[.string m,.string m]) (t:=9) (fr:=(0,0)) (aW w3 _)) (by simp [Value.oneCell']) om (by unfold maxLen;omega) om om (w3.heap.size+1) sm ?_;intro g4 cap4 w4 hown4 P6 hlt4;have L4:=ah (Oi (L3.alloc (.cells #[.string m,.string m] 9)) hown4 P6);have B4:=ah ((B3.below ((bG _ _).alloc (aP _) (.cells #[.string m,.string m] 9))).kept (CZ P6) (fun x hx e=>uh uj x e hx));have K4:=ah ((K3.alloc (.cells #[.string m,.string m] 9)).trans ((CZ P6).mono (T:=fun k=>S k∨(Value.slice la N jq).ownBlock=some k) (fun k hk=>ay hk)));have G4:=ah (aat (j:=2) P6 (H0:=w.heap.size) (by have:=K3.size;omega));have O4:=ah (ab7 (j:=2) hown4);have ama:=ah (aaW (O3.alloc (.cells #[.string m,.string m] 9)) G3.1 JB P6 O4 om)
     clear hown4 P6)
    | (
     at_builtin
     refine OD _ rfl _ _ _ rfl 0 9 i0 _ 1 16 Tryz.underlying34 hi0 hz0 hz1 hz2 rfl om (.slice la N jq) N (uV N m) rfl (L4.alloc _) ⟨w4.heap.size,0,none⟩ 3 3 [.string m,.string m,.string m] rfl rfl (pU (cs:= #[.string m,.string m,.string m]) (t:=9) (fr:=(0,0)) (aW w4 _)) (by simp [Value.oneCell']) om (by unfold maxLen;omega) om om (w4.heap.size+1) sm ?_;intro g5 cap5 w5 hown5 NK uP;have L5:=ah (Oi (L4.alloc (.cells #[.string m,.string m,.string m] 9)) hown5 NK);have B5:=ah ((B4.below ((bG _ _).alloc (aP _) (.cells #[.string m,.string m,.string m] 9))).kept (CZ NK) (fun x hx e=>uh uj x e hx));have K5:=ah ((K4.alloc (.cells #[.string m,.string m,.string m] 9)).trans ((CZ NK).mono (T:=fun k=>S k∨(Value.slice la N jq).ownBlock=some k) (fun k hk=>ay hk)));have G5:=ah (aat (j:=3) NK (H0:=w.heap.size) (by have:=K4.size;omega));have O5:=ah (ab7 (j:=3) hown5)
     have amb:=ah (aaW (ama.alloc (.cells #[.string m,.string m,.string m] 9)) G3.1 JB NK O5 om);have amc:=ah (aaW (O4.alloc (.cells #[.string m,.string m,.string m] 9)) G4.1 JB NK O5 om);have c0:w5.cell? ⟨b,0,none⟩=some V.n:=B5.cell 0;clear hown5 NK)
    | (
     at_builtin
     refine xZ _ rfl _ _ _ rfl 0 34 i1 _ 1 24 Tryz.underlying25 hi1 hx0 hx1 hx2 rfl om V.n B.names.length (B.names.map (·.v)) rfl (B5.rN.alloc _) ⟨w5.heap.size,0,none⟩ 4 4 [.slice la N jq,.slice (some ⟨g3,0,none⟩) (N+1) cap3,.slice (some ⟨g4,0,none⟩) (N+2) cap4,.slice (some ⟨g5,0,none⟩) (N+3) cap5] rfl rfl (pU (cs:= #[.slice la N jq,.slice (some ⟨g3,0,none⟩) (N+1) cap3,.slice (some ⟨g4,0,none⟩) (N+2) cap4,.slice (some ⟨g5,0,none⟩) (N+3) cap5]) (t:=34) (fr:=(0,0)) (aW w5 _)) (by simp [Value.oneCell']) om (by unfold maxLen;omega) om om (w5.heap.size+1) sm ?_;intro g7 ji w7 Qa Fp P5 ahF;have b7:=ah (qH Fp (B5.below ((bG _ _).alloc (aP _) (.cells #[.slice la N jq,.slice (some ⟨g3,0,none⟩) (N+1) cap3,.slice (some ⟨g4,0,none⟩) (N+2) cap4,.slice (some ⟨g5,0,none⟩) (N+3) cap5] 34))).aF (iw B5.rN B5.aF dc));have c70:w7.cell? ⟨b,0,none⟩=some V.n:=(aG b7 0).trans rfl
     have c71:w7.cell? ⟨b,1,none⟩=some V.nm:=(aG b7 1).trans rfl;have z7: ∀ i,w7.frozen? ⟨b,i,none⟩=false:=fun i=>eG b7 i;have R9:=ah (bQ (Kept.only w7 b 0 (.slice (some ⟨g7,0,none⟩) (B.names.length+4) ji)) (zN Fp (B5.uw.alloc _) (xW B5.uw B5.rN dc)) (iw B5.uw B5.aF dc)))
    | (
     at_builtin
     refine xZ _ rfl _ _ _ rfl 0 9 i0 _ 1 16 Tryz.underlying34 hi0 hz0 hz1 hz2 rfl om V.nm B.names.length (B.names.map fun x=> .string x.s) rfl (R9.alloc _) ⟨w7.heap.size,0,none⟩ 4 4 [.string m,.string m,.string m,.string m] rfl rfl (pU (cs:= #[.string m,.string m,.string m,.string m]) (t:=9) (fr:=(0,0)) (by have:=aW (w7.setCell ⟨b,0,none⟩ (.slice (some ⟨g7,0,none⟩) (B.names.length+4) ji)) (.cells #[.string m,.string m,.string m,.string m] 9);rwa [size_setCell] at this)) (by simp [Value.oneCell']) om (by unfold maxLen;omega) om om (w7.heap.size+1) sm ?_;intro g8 kR w8 Ej Dk GR WS;have b8:=ah (qH Dk (show _=some (.cells (yw { V with n:= .slice (some ⟨g7,0,none⟩) (B.names.length+4) ji } (B.next+1)).toArray 77 (0,0)) from (jE _ _ _ (by rw [size_setCell];exact aO b7)).trans (by rw [heap_setCell_same _ _ _ _ _ _ _ (uh b7)];rfl)) (fun g hg=>iw B5.uw B5.aF dc g hg))
     have c81:w8.cell? ⟨b,1,none⟩=some V.nm:=(aG b8 1).trans rfl;have z8: ∀ i,w8.frozen? ⟨b,i,none⟩=false:=fun i=>eG b8 i)
    | fail)
   have E:=ah (arD HS uj B5 L5 amb amc O5 G3.2 G4.2 G5.2 K5 Fp Qa P5 Dk Ej GR b8)
   go_end0
   exact ⟨rfl,uh E⟩
section
variable {w:World} {p:Nat} {P:gW} {S:Nat→Prop}
theorem dO.Xz {z:Nat} {D1:dY} {Qv:Value} (h:dO w p P S) (hr:eP w z Qv D1) (hz: ¬ S z):
  dO (w.setCell ⟨p,1,none⟩ (.pointer (some ⟨z,0,none⟩))) p { P with y:=z,D:=D1,Pv:=Qv } (fun k=>(S k∨k=z)∨Qv.ownBlock=some k):=by
 have hk:=Kept.only w p 1 (.pointer (some ⟨z,0,none⟩));have key: ∀ {k:Nat} {cs:Array Value} {t:TypeId} {fr:Nat × Nat},w.heap[k]? = some (.cells cs t fr)→t≠107→k≠p:=by
  intro k cs t fr hb h1 e;subst e;exact h1 (Pz hb h.aF)
 have uQ: ∀ {base:Nat} {e:TypeId} {size:Nat} {v:Value} {n:Nat} {xs:List Value},w.ownsRow base e size v n xs→e≠107→ ∀ g,v.ownBlock=some g→g≠p:=by
  intro base e size v n xs hr' h1 g hg;obtain ⟨cs,fr,hb⟩:=KE hr' hg;exact key hb h1
 refine ⟨?_,h.iV.kept hk ?_,hr.kept hk (key hr.aF dc) (uQ hr.row dc),h.Dx.kept hk (uQ h.Dx.row dc),bQ hk h.Dy (uQ h.Dy dc),fun m hm=>(h.eM m hm).kept hk (key (h.eM m hm).aF dc) (uQ (h.eM m hm).row dc),fun m hm e=>hz ((show m.d=z from e) ▸ (h.BO m hm).1),h.JG,aA (aA h.zQ),fun k hk'=>aA (aA (h.BN k hk')),aA (ay rfl),?_,fun m hm=>⟨aA (aA (h.BO m hm).1),fun g hg=>aA (aA ((h.BO m hm).2 g hg))⟩,?_⟩
 ·rw [heap_setCell_same _ _ _ _ _ _ _ h.aF];rfl
 ·rintro k (e | e | e | e)
  ·rw [e];exact key h.iV.aF dc
  ·rw [e];exact key h.iV.bP.aF dc
  ·exact uQ h.iV.bP.jA dc k e
  ·exact uQ h.iV.bP.fF dc k e
 ·rintro g (e | e | e)
  ·exact ay e
  ·exact aA (aA (h.iC g (ay (aA e))))
  ·exact aA (aA (h.iC g (ay (ay e))))
 ·rintro k ((e | e) | e)
  ·exact iZ (h.lt k e) hk.size
  ·rw [e];exact iZ hr.lt hk.size
  ·exact iZ (hr.row.lt k e).2 hk.size
theorem vK.Xz {w5:World} {P1:gW} {S1:Nat→Prop} {z:Nat} {D1:dY} {Qv:Value} (h:dO w p P S) (h5:vK w w5 p P S P1 S1) (hr:eP w5 z Qv D1) (hz0:w.heap.size≤z) (hz: ¬ S1 z) (hQ: ∀ g,Qv.ownBlock=some g→w.heap.size≤g):
  vK w (w5.setCell ⟨p,1,none⟩ (.pointer (some ⟨z,0,none⟩))) p P S { P1 with y:=z,D:=D1,Pv:=Qv } (fun k=>(S1 k∨k=z)∨Qv.ownBlock=some k):=by
 refine ⟨h5.at'.Xz hr hz,h5.base,h5.marks,h5.ex,h5.log,h5.abL,h5.kept.trans ((Kept.only w5 p 1 _).mono fun k e=>by rw [e];exact h.zQ),?_⟩;rintro k ((e | e) | e)
 ·exact h5.new k e
 ·rw [e];exact ay hz0
 ·exact ay (hQ k e)
theorem vK.below {w5 w6:World} {P1:gW} {S1:Nat→Prop} (h5:vK w w5 p P S P1 S1) (hb:aC w5 w6):vK w w6 p P S P1 S1:=
 ⟨h5.at'.below hb,h5.base,h5.marks,h5.ex,h5.log,h5.abL,h5.kept.trans (Kept.dS hb),h5.new⟩
theorem vK.other {w3 w4 w5:World} {z:Nat} {Qv C1 L1:Value} {V':aB} (h:dO w p P S) (hb:aC w w3) (hs:bZ w3 w4 P.v P.Cv P.Lv C1 L1 V') (hk:Kept (fun x=>x=z∨Qv.ownBlock=some x) w4 w5)
  (hz:w.heap.size≤z∧z<w3.heap.size) (hQ: ∀ g,Qv.ownBlock=some g→w.heap.size≤g∧g<w3.heap.size) (hl:V'.L.length≤P.V.L.length+100) (hm:P.V.L.length≤V'.L.length):
  vK w w5 p P S { P with Cv:=C1,Lv:=L1,V:=V' } (fun k=>S k∨eX P.v C1 L1 k):=by
 have h3:=h.below hb;have h4:=h3.step hs;have hne: ∀ k,(S k∨eX P.v C1 L1 k)→ ¬ (k=z∨Qv.ownBlock=some k):=fun k hk' x=>by
  rcases h3.QS hs k hk' with y | y
  ·have hlt:=h.lt k y;rcases x with x | x
   ·omega
   ·have:=(hQ k x).1;omega
  ·rcases x with x | x
   ·omega
   ·have:=(hQ k x).2;omega
 refine ⟨h4.kept hk hne,rfl,rfl,rfl,hl,fun h0=>iZ h0 hm,?_,fun k hk'=> ?_⟩
 ·have og:Kept S w w4:=(Kept.dS hb).trans (h3.adb hs);refine ⟨hk.os.trans og.os,hk.tape.trans og.tape,hk.output.trans og.output,jZ og.size hk.size,fun k hk' hn=> ?_⟩;rw [hk.block k (iZ hk' og.size) (fun x=>by
   rcases x with x | x
   ·omega
   ·have:=(hQ k x).1;omega)]
  exact og.block k hk' hn
 ·rcases h3.QS hs k hk' with y | y
  ·exact aA y
  ·have:=hb.size;exact ay om
end
end
section
attribute [local go_sem ↓] dw fP fZ J7 jG
attribute [local go_sem] dK fO fV gK gy aV KG jc jd
theorem aqx {base:List aj} {V:aB} {N0:Nat} {E:List aX} (h:bD base V N0 E):H7 (aY (cl V.C 5)) (lenOf (aY (cl V.C 5)))=E.map (·.name):=by
 rw [h.jT.2,h.jT.1];unfold H7 jm;rw [List.take_left'];rfl
theorem aqw {V:aB} {N0:Nat} {E:List aX}:Ku (bU V.C N0 E).L (bU V.C N0 E).L.length=E.map (·.name):=by
 unfold Ku;rw [Ij,PL,OM];rfl
theorem amM (w:World) (p b:Nat) (P:gW) (S U:Nat→Prop) (N0:Nat) (E:List aX) (V:ou) (B:lX) (h:dO w p P S) (hst:pF P N0 E) (hb:iK w b V B U) (hnx:B.next≤900000000) (hnl:B.names.length≤9000000000) (o:nZ) (hk:o.kind=6):
  Calls Tryz.prog 67 #[.pointer (some ⟨p,0,none⟩),.pointer (some ⟨b,0,none⟩),.agg (dH o).toArray] w fun e w'=>e= .returned (.bool true)∧
   ∃ V' B' U',OZ w w' b B U V' B' U' (P.V.L.length+2):=by
 have hg:=hst.bP;have h7:=hg.file.seven;have hn1:=aqx hg;have hn2:Ku P.D.L P.D.L.length=E.map (·.name):=by rw [← hst.nS];exact aqw
 have WR:P.D.L.length=E.length:=by rw [← hst.nS,LC]
 have hlV:=hg.jT.2;have h4:=hg.file.jT.len;have hb0:aC w (w.alloc (.cells (dH o).toArray 80)):=fC;have hbx0:(w.alloc (.cells (dH o).toArray 80)).heap[w.heap.size]? = some (.cells (dH o).toArray 80 (0,0)):=aW _ _;have ck:(w.alloc (.cells (dH o).toArray 80)).cell? ⟨w.heap.size,0,none⟩=some (.int .i64 6):=by rw [aG hbx0 0,bW];show some (Value.int .i64 o.kind)=_;rw [hk]
 have c0:=(h.below hb0).c0;have H:=ah h;have HB:=ah hb;have B0:=ah hb0;have hUlt:=hb.lt;have ahb:=h.lt;have HL0:=ah (fun (W:World) (hB:aC w W)=>an6 W P.d P.v P.Cv P.Lv P.V (H.below hB).iV om);rw [hn1,hlV] at HL0;have HL1:=ah (fun (W:World) (hB:aC w W)=>asq W P.y P.Pv P.D (H.below hB).ref om);rw [hn2,WR] at HL1;have hNl:(E.map (·.name)).length=E.length:=tH _;generalize E.map (·.name)=NN at*;generalize E.length=n at*;clear h hb hb0 hbx0 hg hst hn1 hn2 hlV WR
 go_enter Tryz.func67,Tryz.ntmps67
 go_wp2_with fail
 generalize w.alloc (.cells (dH o).toArray 80)=w0 at*;refine (uh HL0 w0 B0).mono ?_;rintro e w1 ⟨lv,rfl,rl1,b1⟩;have B1:=ah (B0.trans (b1.mono B0.size));have hs0:w.heap.size≤w0.heap.size:=B0.size;have hlv: ∀ g,lv.ownBlock=some g→w.heap.size≤g:=fun g hg=>jZ hs0 (rl1.lt g hg).1;have c1:=(H.below B1).c1;have R1:=ah (Ci rl1 (nN _));clear b1 B0 c0 ck rl1 HL0
 go_wp2_with fail
 refine (uh HL1 w1 B1).mono ?_;rintro e w2 ⟨mv,rfl,rm2,b2⟩;have R2:=ah (bQ (Kept.dS (S:=fun _=>False) b2) R1 (fun _ _=>id));have M2:=ah (Ci rm2 (nN _));have B2:=ah (B1.trans (b2.mono B1.size));clear R1 rm2 b2 B1 c1 HL1;obtain ⟨la,jq,rfl⟩:=iq R2;obtain ⟨ma,aqn,rfl⟩:=iq M2;go_wp2;have hsv:(sv NN).length=n:=by rw [atX,hNl]
 have hget: ∀ k,k<n→(sv NN)[k]? = some (.string (bJ (NN.getD k []))):=fun k hk=>by
  unfold sv;rw [jD,aK,bI om];rfl
 have aeD:=ah hget;clear hget;have hn4:(n:Int)≤4:=om
 go_loopw [17,18] (fun s i w'=> ∃ k:Nat,k≤n∧s= .bool true∧i= .int .i64 k∧aC w2 w') (fun _ i _=>n - (intOf i).toNat)
 case atStart=>exact ⟨0,om,rfl,rfl,bG _ _⟩
 case round=>
  obtain ⟨k,hk',rfl,rfl,hb⟩:=hrel
  by_cases hlt:k<n
  ·have hki:(k:Int)<(n:Int):=om;have r1:=bQ (Kept.dS (S:=fun _=>False) hb) R2 (fun _ _=>id);have r2:=bQ (Kept.dS (S:=fun _=>False) hb) M2 (fun _ _=>id);obtain ⟨g,cap2,e2,_⟩:=gB r1 om;obtain ⟨rfl,rfl⟩:la=some ⟨g,0,none⟩∧jq=cap2:=by injection e2 with x1 x2 x3;exact ⟨x1,x3⟩
   obtain ⟨g3,cap3,e3,_⟩:=gB r2 om;obtain ⟨rfl,rfl⟩:ma=some ⟨g3,0,none⟩∧aqn=cap3:=by injection e3 with x1 x2 x3;exact ⟨x1,x3⟩
   have d1:=row_one r1 k hlt (uh aeD k hlt);have d2:=row_one r2 k hlt (uh aeD k hlt);have Hb:=ah hb;clear hb r1 r2 e2 e3;generalize bJ (NN.getD k [])=t at*;go_wp2
   go_quiet (fail)
   go_wp2;go_roundw
   case rel=>exact ⟨k+1,om,rfl,gn,Hb.trans ((((Kept.refl (fun _=>False) wr).drewN nq).below).mono Hb.size)⟩
   case measure=>exact cO
  ·have hki: ¬ (k:Int)<(n:Int):=om;have R3:=ah (bQ (Kept.dS (S:=fun _=>False) hb) R2 (fun _ _=>id));have B3:=ah (B2.trans (hb.mono B2.size));clear hb
   go_wp2_with fail
   have Ho:=ah (arC wr b V B U (.slice la n jq) (sv NN) (HB.below B3) (by rw [hsv];exact uh R3) (fun g hg hu=>by have:=hlv g hg;have:=hUlt g hu;omega) om om om);rw [hsv] at Ho;refine Ho.mono ?_;rintro e w4 ⟨rfl,V4,B4,U4,hB4,n4,l4,e4w,SK,m4,k4,s4⟩;have hfin:OZ w w4 b B U V4 B4 U4 (P.V.L.length+2):=by
    have hs3:=B3.size;refine ⟨hB4,om,by rw [SK];omega,by rw [e4w];omega,om,fun x hx=>aA (by rw [SK] at hx;exact hx),fun x hx=>aA (by rw [e4w] at hx;exact hx),fun x hx=> ?_,?_,fun k hk=> ?_⟩
    ·rcases m4 x hx with y | y
     ·exact aA y
     ·exact ay om
    ·refine ⟨k4.os.trans B3.os,k4.tape.trans B3.tape,k4.output.trans B3.output,jZ hs3 k4.size,fun k hk hnu=> ?_⟩;rw [k4.block k om (fun hu=> ?_),B3.block k hk];rcases hu with x | x
     ·exact hnu x
     ·have:=hlv k x;omega
    ·rcases s4 k hk with x | x | x
     ·exact aA x
     ·exact ay (hlv k x)
     ·exact ay om
   have Bv:=ah hfin;clear hfin hB4 k4 s4 m4 Ho;go_wp2;go_ret;exact ⟨rfl,_,_,_,uh Bv⟩
end
end Go.Proofs.YtknjjjenklfeoaaGreatDoor
