import Derived.Test.YtknjjjenklfeoaaGreatDoorU35
set_option maxHeartbeats 8000000
set_option maxRecDepth 100000
set_option linter.all false
namespace Go.Proofs.YtknjjjenklfeoaaGreatDoor
open Go.RowKit
structure yV where
 log:Nat
 d:Nat
 Pv:Value
 D:dR
def Rn (m:yV):List Value:=[.int .i64 m.log,.pointer (some ⟨m.d,0,none⟩)]
structure eP where
 d:Nat
 v:Nat
 y:Nat
 Cv:Value
 Lv:Value
 Pv:Value
 Mv:Value
 bv:Value
 ex:Bool
 V:aB
 D:dR
 B:List aj
 ms:List yV
def ad1 (P:eP):List Value:=[.pointer (some ⟨P.d,0,none⟩),.pointer (some ⟨P.y,0,none⟩),P.bv,.bool P.ex,P.Mv]
structure dL (w:World) (p:Nat) (P:eP) (S:Nat→Prop):Prop where
 aG:w.heap[p]? = some (.cells (ad1 P).toArray 107 (0,0))
 ig:pK w P.d P.v P.Cv P.Lv P.V
 ref:fB w P.y P.Pv P.D
 Dw:kK w P.bv P.B
 BP:w.ownsRow 0 109 2 P.Mv P.ms.length (P.ms.flatMap Rn)
 eM: ∀ m ∈ P.ms,fB w m.d m.Pv m.D
 Nr: ∀ m ∈ P.ms,m.d≠P.y
 Ky: ∀ g,P.bv.ownBlock=some g→ ¬ eX P.v P.Cv P.Lv g
 AL:S p
 Di: ∀ k,MW P.d P.v P.Cv P.Lv k→S k
 KX:S P.y
 iI: ∀ g,(P.Pv.ownBlock=some g∨P.Mv.ownBlock=some g∨P.bv.ownBlock=some g)→S g
 Dj: ∀ m ∈ P.ms,S m.d∧ ∀ g,m.Pv.ownBlock=some g→S g
 lt: ∀ k,S k→k<w.heap.size
section
variable {w w':World} {p:Nat} {P:eP} {S T:Nat→Prop}
def dL.kept (h:dL w p P S) (hk:Kept T w w') (a: ∀ k,S k→ ¬ T k):dL w' p P S where
 aG:=hk.aG (a p h.AL) h.aG
 ig:=h.ig.kept hk fun k d=>a k (h.Di k d)
 ref:=h.ref.kept hk (a _ h.KX) fun g b=>a g (h.iI g (aA b))
 Dw:=h.Dw.kept hk fun g b=>a g (h.iI g (ay (ay b)))
 BP:=bV hk h.BP fun g b=>a g (h.iI g (ay (aA b)))
 eM:=fun m hm=>(h.eM m hm).kept hk (a _ (h.Dj m hm).1) fun g b=>a g ((h.Dj m hm).2 g b)
 Nr:=h.Nr
 Ky:=h.Ky
 AL:=h.AL
 Di:=h.Di
 KX:=h.KX
 iI:=h.iI
 Dj:=h.Dj
 lt:=fun k c=>iL (h.lt k c) hk.size
def dL.below (h:dL w p P S) (a:aC w w'):dL w' p P S:=h.kept (T:=fun _=>False) (Kept.dQ a) (fun _ _=>id)
def dL.cell (h:dL w p P S) (i:Nat):w.cell? ⟨p,i,none⟩=(ad1 P)[i]? := by rw [aF h.aG,bZ]
def dL.fz (h:dL w p P S) (i:Nat):w.frozen? ⟨p,i,none⟩=false:=eY h.aG i
def dL.c0 (h:dL w p P S):w.cell? ⟨p,0,none⟩=some (.pointer (some ⟨P.d,0,none⟩)):=h.cell 0
def dL.c1 (h:dL w p P S):w.cell? ⟨p,1,none⟩=some (.pointer (some ⟨P.y,0,none⟩)):=h.cell 1
def dL.c2 (h:dL w p P S):w.cell? ⟨p,2,none⟩=some P.bv:=h.cell 2
def dL.c3 (h:dL w p P S):w.cell? ⟨p,3,none⟩=some (.bool P.ex):=h.cell 3
def dL.c4 (h:dL w p P S):w.cell? ⟨p,4,none⟩=some P.Mv:=h.cell 4
def dL.YS (h:dL w p P S): ∀ g,P.Mv.ownBlock=some g→g≠p:=iF h.BP h.aG dc
def LG {w:World} {base:Nat} {e:TypeId} {size:Nat} {v:Value} {n:Nat} {xs:List Value} (hr:w.ownsRow base e size v n xs) {g:Nat} (a:v.ownBlock=some g): ∃ cs fr,w.heap[g]? = some (.cells cs e fr):=by
 rcases hr.2 with ⟨rfl,_⟩ | ⟨c,cap,cur,rfl,_,b,_⟩
 ·cases a
 ·simp only [Value.ownBlock,jH] at a;subst a;exact ⟨_,_,b⟩
def QD {w:World} {k:Nat} {cs c:Array Value} {t b:TypeId} {fr d:Nat × Nat} (h:w.heap[k]? = some (.cells cs t fr)) (a:w.heap[k]? = some (.cells c b d)):t=b:=by
 rw [h] at a;injection a with a;injection a with _ a
def dL.OG (h:dL w p P S) {k:Nat} {cs:Array Value} {t:TypeId} {fr:Nat × Nat} (a:w.heap[k]? = some (.cells cs t fr)) (b:t≠121) (c:t≠38) (d:t≠104): ¬ eX P.v P.Cv P.Lv k:=by
 have hv:=h.ig.bH;rintro (e | e | e)
 ·subst e;exact b (QD a hv.aG)
 ·exact iF hv.jS a (fun x=>c x.symm) k e rfl
 ·exact iF hv.fJ a (fun x=>d x.symm) k e rfl
def dL.XM (h:dL w p P S) {y:Nat} {a:Value} {D:dR} (b:fB w y a D): ¬ eX P.v P.Cv P.Lv y∧ ∀ g,a.ownBlock=some g→ ¬ eX P.v P.Cv P.Lv g:=by
 refine ⟨h.OG b.aG dc dc dc,fun g c=> ?_⟩;obtain ⟨cs,fr,d⟩:=LG b.row c;exact h.OG d dc dc dc
def dL.step {b c:Value} {d:aB} (h:dL w p P S) (hs:dF w w' P.v P.Cv P.Lv b c d):
  dL w' p { P with Cv:=b,Lv:=c,V:=d } (fun k=>S k∨eX P.v b c k) where
 aG:=hs.kept.aG (h.OG h.aG dc dc dc) h.aG
 ig:=h.ig.step hs
 ref:=h.ref.kept hs.kept (h.XM h.ref).1 (h.XM h.ref).2
 Dw:=h.Dw.kept hs.kept h.Ky
 BP:=bV hs.kept h.BP fun g a=>by
  obtain ⟨cs,fr,f⟩:=LG h.BP a;exact h.OG f dc dc dc
 eM:=fun m hm=>(h.eM m hm).kept hs.kept (h.XM (h.eM m hm)).1 (h.XM (h.eM m hm)).2
 Nr:=h.Nr
 Ky:=fun g a i=>by
  rcases hs.new g i with x | x
  ·exact h.Ky g a x
  ·have:=h.lt g (h.iI g (ay (ay a)));omega
 AL:=aA h.AL
 Di:=by
  rintro k (e | e)
  ·exact aA (h.Di k (aA e))
  ·exact ay e
 KX:=aA h.KX
 iI:=fun g a=>aA (h.iI g a)
 Dj:=fun m hm=>⟨aA (h.Dj m hm).1,fun g a=>aA ((h.Dj m hm).2 g a)⟩
 lt:=by
  rintro k (e | e)
  ·exact iL (h.lt k e) hs.kept.size
  ·exact hs.at'.qV k e
def dL.SA {a b:Value} {c:aB} (h:dL w p P S) (hs:dF w w' P.v P.Cv P.Lv a b c): ∀ k,(S k∨eX P.v a b k)→S k∨w.heap.size≤k:=by
 rintro k (e | e)
 ·exact aA e
 ·rcases hs.new k e with x | x
  ·exact aA (h.Di k (ay x))
  ·exact ay x
def dL.aeP {a b:Value} {c:aB} (h:dL w p P S) (hs:dF w w' P.v P.Cv P.Lv a b c):Kept S w w':=hs.kept.mono fun k hk=>h.Di k (ay hk)
def dL.auU {D1:dR} {b:Value} (h:dL w p P S) (hk:Kept (fun k=>k=P.y) w w') (hr:fB w' P.y b D1):dL w' p { P with D:=D1,Pv:=b } (fun k=>S k∨b.ownBlock=some k):=by
 have key: ∀ {k:Nat} {cs:Array Value} {t:TypeId} {fr:Nat × Nat},w.heap[k]? = some (.cells cs t fr)→t≠70→k≠P.y:=by
  intro k cs t fr c d e;subst e;exact d (QD c h.ref.aG)
 have a: ∀ {base:Nat} {e:TypeId} {size:Nat} {v:Value} {n:Nat} {xs:List Value},w.ownsRow base e size v n xs→e≠70→ ∀ g,v.ownBlock=some g→g≠P.y:=by
  intro base e size v n xs i d g f;obtain ⟨cs,fr,c⟩:=LG i f;exact key c d
 refine ⟨hk.aG (key h.aG dc) h.aG,h.ig.kept hk ?_,hr,h.Dw.kept hk (a h.Dw.row dc),bV hk h.BP (a h.BP dc),fun m hm=>(h.eM m hm).kept hk (h.Nr m hm) (a (h.eM m hm).row dc),h.Nr,h.Ky,aA h.AL,fun k j=>aA (h.Di k j),aA h.KX,?_,fun m hm=>⟨aA (h.Dj m hm).1,fun g f=>aA ((h.Dj m hm).2 g f)⟩,?_⟩
 ·rintro k (e | e | e | e)
  ·rw [e];exact key h.ig.aG dc
  ·rw [e];exact key h.ig.bH.aG dc
  ·exact a h.ig.bH.jS dc k e
  ·exact a h.ig.bH.fJ dc k e
 ·rintro g (e | e | e)
  ·exact ay e
  ·exact aA (h.iI g (ay (aA e)))
  ·exact aA (h.iI g (ay (ay e)))
 ·rintro k (e | e)
  ·exact iL (h.lt k e) hk.size
  ·exact (hr.row.lt k e).2
def dL.aiH {a:World} {g5 cap5:Nat} {m:yV} (h:dL w p P S) (f:w.grownBy a P.Mv.ownBlock) (E:a.ownsRow 0 109 2 (.slice (some ⟨g5,0,none⟩) (P.ms.length+1) cap5) (P.ms.length+1) (P.ms.flatMap Rn++Rn m)) (A:P.Mv.ownBlock=some g5∨w.heap.size≤g5) (F:g5<a.heap.size)
  (hm:fB w m.d m.Pv m.D) (G:m.d≠P.y) (j:World) (L:j.heap.size≤w.heap.size) (B:j.heap.size≤m.d∧ ∀ g,m.Pv.ownBlock=some g→j.heap.size≤g):
  dL (a.setCell ⟨p,4,none⟩ (.slice (some ⟨g5,0,none⟩) (P.ms.length+1) cap5)) p { P with Mv:= .slice (some ⟨g5,0,none⟩) (P.ms.length+1) cap5,ms:=P.ms++[m] } (fun k=>S k∨k=g5∨k=m.d∨m.Pv.ownBlock=some k)∧
   Kept S w (a.setCell ⟨p,4,none⟩ (.slice (some ⟨g5,0,none⟩) (P.ms.length+1) cap5))∧ ∀ k,(S k∨k=g5∨k=m.d∨m.Pv.ownBlock=some k)→S k∨j.heap.size≤k:=by
 have H:Kept (fun k=>P.Mv.ownBlock=some k) w a:=⟨f.os,f.tape,f.output,f.size,fun k hk hs=>f.block k hk (fun e=>hs e.symm)⟩;have J:a.heap[p]? = some (.cells (ad1 P).toArray 107 (0,0)):=qW f h.aG h.YS;have K:=heap_setCell_same a p 4 (.slice (some ⟨g5,0,none⟩) (P.ms.length+1) cap5) _ _ _ J;have r:=Kept.only a p 4 (.slice (some ⟨g5,0,none⟩) (P.ms.length+1) cap5);have b:Kept (fun k=>P.Mv.ownBlock=some k∨k=p) w (a.setCell ⟨p,4,none⟩ (.slice (some ⟨g5,0,none⟩) (P.ms.length+1) cap5)):=(H.mono fun k hk=>aA hk).trans (r.mono fun k hk=>ay hk);have key: ∀ {k:Nat} {cs:Array Value} {t:TypeId} {fr:Nat × Nat},w.heap[k]? = some (.cells cs t fr)→t≠109→t≠107→ ¬ (P.Mv.ownBlock=some k∨k=p):=by
  intro k cs t fr l s u;rintro (e | e)
  ·exact iF h.BP l (fun x=>s x.symm) k e rfl
  ·subst e;exact u (QD l h.aG)
 have o: ∀ {base:Nat} {e:TypeId} {size:Nat} {v:Value} {n:Nat} {xs:List Value},w.ownsRow base e size v n xs→e≠109→e≠107→ ∀ g,v.ownBlock=some g→ ¬ (P.Mv.ownBlock=some g∨g=p):=by
  intro base e size v n xs I s u g c;obtain ⟨cs,fr,l⟩:=LG I c;exact key l s u
 have M:g5≠p:=fun e=>by
  rcases A with x | x
  ·exact h.YS g5 x e
  ·have:=h.lt _ h.AL;omega
 have q: ∀ {y:Nat} {C:Value} {D:dR},fB w y C D→fB (a.setCell ⟨p,4,none⟩ (.slice (some ⟨g5,0,none⟩) (P.ms.length+1) cap5)) y C D:=fun z=>z.kept b (key z.aG dc dc) (o z.row dc dc);refine ⟨⟨?_,h.ig.kept b ?_,q h.ref,h.Dw.kept b (o h.Dw.row dc dc),?_,fun x i=> ?_,fun x i=> ?_,h.Ky,aA h.AL,fun k hk=>aA (h.Di k hk),aA h.KX,?_,fun x i=> ?_,?_⟩,?_,?_⟩
 ·rw [K];rfl
 ·rintro k (e | e | e | e)
  ·rw [e];exact key h.ig.aG dc dc
  ·rw [e];exact key h.ig.bH.aG dc dc
  ·exact o h.ig.bH.jS dc dc k e
  ·exact o h.ig.bH.fJ dc dc k e
 ·have:=bV r E (fun g c e=>by simp only [Value.ownBlock,jH] at c;omega)
  simpa using this
 ·rcases fK.1 i with y | y
  ·exact q (h.eM x y)
  ·rw [iP.1 y];exact q hm
 ·rcases fK.1 i with y | y
  ·exact h.Nr x y
  ·rw [iP.1 y];exact G
 ·rintro g (e | e | e)
  ·exact aA (h.iI g (aA e))
  ·simp only [Value.ownBlock,jH] at e;exact ay (aA e.symm)
  ·exact aA (h.iI g (ay (ay e)))
 ·rcases fK.1 i with y | y
  ·exact ⟨aA (h.Dj x y).1,fun g c=>aA ((h.Dj x y).2 g c)⟩
  ·rw [iP.1 y];exact ⟨ay (ay (aA rfl)),fun g c=>ay (ay (ay c))⟩
 ·rintro k (e | e | e | e)
  ·exact iL (h.lt k e) b.size
  ·rw [e];exact iL F r.size
  ·rw [e];exact iL hm.lt b.size
  ·exact iL (hm.row.lt k e).2 b.size
 ·exact b.mono fun k hk=>by
   rcases hk with x | x
   ·exact h.iI k (ay (aA x))
   ·rw [x];exact h.AL
 ·rintro k (e | e | e | e)
  ·exact aA e
  ·rcases A with x | x
   ·exact aA (by rw [e];exact h.iI g5 (ay (aA x)))
   ·exact ay om
  ·exact ay (by rw [e];exact B.1)
  ·exact ay (B.2 k e)
end
structure lM where
 kind:Int
 n:Int
 name:ByteArray
 text:ByteArray
 raw:Value
 gone:Value
def dI (o:lM):List Value:=[.int .i64 o.kind,.int .i64 o.n,.string o.name,.string o.text,o.raw,o.gone]
def Nw (o:lM):(dI o).length=6:=rfl
def zo:lM:=⟨0,0,.empty,.empty,.slice none 0 0,.slice none 0 0⟩
def aj3 (a:Addr):Sem Value:=loadVar 80 a
def IZ (a:Addr):loadVar 80 a=aj3 a:=rfl
def Jd {w:World} {b o:Nat} (h:dU w b o 6):(aj3 ⟨b,o,none⟩).run Tryz.prog w= .ok (.agg (dO w b o 6).toArray) w:=
 BQ h 80 _ Tryz.underlying80 rfl kr
def ams (a:Addr) (v:Value):Sem Unit:=storeVar 80 a v
def awh (a:Addr) (v:Value):storeVar 80 a v=ams a v:=rfl
def anp:Sem Value:=zeroValue 80
def axK:zeroValue 80=anp:=rfl
def avy (w:World):anp.run Tryz.prog w= .ok (.agg (dI zo).toArray) w:=
 (uZ (P:=Tryz.prog) (t:=80) (v:= .agg (dI zo).toArray) (n:=6) kr).1 w
structure lM.Fits (o:lM):Prop where
 raw:o.raw.oneCell'=true
 gone:o.gone.oneCell'=true
def aty {o:lM} (h:o.Fits): ∀ v ∈ dI o,v.oneCell'=true:=by
 intro v hv;simp only [dI,cO,jM,jO] at hv;rcases hv with rfl | rfl | rfl | rfl | rfl | rfl
 ·rfl
 ·rfl
 ·rfl
 ·rfl
 ·exact h.raw
 ·exact h.gone
def avu {w:World} {z x:lM} (a:x.Fits):
  (ams ⟨w.heap.size,0,none⟩ (.agg (dI x).toArray)).run Tryz.prog (w.alloc (.cells (dI z).toArray 80))= .ok () (w.alloc (.cells (dI x).toArray 80)):=
 Ic w 80 (dI z).toArray (dI x).toArray (by simp only [jm,Nw];kernel_rfl) (by simp [Nw]) (vU (aty a))
end Go.Proofs.YtknjjjenklfeoaaGreatDoor
