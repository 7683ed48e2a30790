import Derived.Test.YtknjjjenklfeoaaGreatDoorU02
import Derived.Deep.RegionLaw
set_option maxHeartbeats 8000000
set_option maxRecDepth 100000
set_option linter.all false
namespace Go.Proofs.YtknjjjenklfeoaaGreatDoor
open Go.RowKit
attribute [local go_sem ↓] dw fP fV kQ
attribute [local go_sem] dM fO fU gW gB aV kW
def zO:List UInt8:=[86,69,76,77]
def vN (c:aj):Nat→Nat→Bool
 | 0,_=>true
 | m+1,i=>if aI c i=0 then vN c m (i+1) else false
def mD (L:List aj):Bool:=decide (6≤L.length) && (decide (L.length≤256) && (decide ((cl L 0).take 4=zO) && (decide (7≤num (cl L 0) 4) && (decide (num (cl L 0) 4≤256) && (decide (L.length≤num (cl L 0) 4) && vN (cl L 0) 56 8)))))
def bg (L:List aj) (n:Nat):List aj:=(List.range n).map fun i=>if i<L.length then cl L i else zc
structure kK (w:World) (v:Value) (L:List aj):Prop where
 row:w.ownsRow 0 38 64 v L.length (aS L)
 lens: ∀ c ∈ L,c.length=64
def Kept.grown {S:Nat→Prop} {a w c:World} {row:Option Nat} (h:Kept S a w) (b:w.grownBy c row) (hr: ∀ g,row=some g→S g∨a.heap.size≤g):Kept S a c:=
 ⟨b.os.trans h.os,b.tape.trans h.tape,b.output.trans h.output,jL h.size b.size,fun k hk hs=>by
  rw [b.block k (iL hk h.size) (fun e=>by rcases hr k e.symm with x | x;exact hs x;omega)];exact h.block k hk hs⟩
def qW {w a:World} {row:Option Nat} (d:w.grownBy a row) {g:Nat} {o:Obj} (b:w.heap[g]? = some o) (c: ∀ k,row=some k→k≠g):a.heap[g]? = some o:=by
 rw [d.block g (aK b) (fun e=>c g e.symm rfl)];exact b
def AA {w b:World} {row:Option Nat} (d:w.grownBy b row) {base:Nat} {e:TypeId} {size:Nat} {v:Value} {n:Nat} {xs:List Value} (hr:w.ownsRow base e size v n xs) (c: ∀ g,v.ownBlock=some g→row≠some g):b.ownsRow base e size v n xs:=by
 obtain ⟨f,a⟩:=hr;refine ⟨f,?_⟩;rcases a with a | ⟨g,cap,cur,rfl,h,i,r⟩
 ·exact aA a
 ·exact ay ⟨g,cap,cur,rfl,h,qW d i (fun k hk e=>c g rfl (by rw [hk,e])),r⟩
def bY.aqW {w a:World} {f:Nat} {Lv b v':Value} {R:aU} {L':List aj} (h:bY w f Lv b R) (g:w.grownBy a Lv.ownBlock) (d:a.ownsRow 0 38 64 v' L'.length (aS L')) (i: ∀ c ∈ L',c.length=64):
  bY (a.setCell ⟨f,0,none⟩ v') f v' b { R with L:=L' }:=by
 have e:a.heap[f]? = some (.cells (Eb Lv b R).toArray 93 (0,0)):=qW g h.aG h.GR;have hk:=Kept.only a f 0 v';refine ⟨?_,bV hk d (iF d e dc),?_,h.told,h.used,i⟩
 ·rw [heap_setCell_same a f 0 v' _ _ _ e];rfl
 ·exact bV hk (AA g h.pG h.akH) h.Vz
def bY.aiI {w a:World} {f:Nat} {Lv b v':Value} {R:aU} {Q:List bI} (h:bY w f Lv b R) (i:w.grownBy a b.ownBlock) (c:a.ownsRow 0 132 3 v' Q.length (Q.flatMap iE)):
  bY (a.setCell ⟨f,1,none⟩ v') f Lv v' { R with roots:=Q }:=by
 have d:a.heap[f]? = some (.cells (Eb Lv b R).toArray 93 (0,0)):=qW i h.aG h.Vz;have hk:=Kept.only a f 1 v';refine ⟨?_,?_,bV hk c (iF c d dc),h.told,h.used,h.lens⟩
 ·rw [heap_setCell_same a f 1 v' _ _ _ d];rfl
 ·exact bV hk (AA i h.fJ (fun g hL e=>h.akH g e hL)) h.GR
def kL (L:List aj) (n:Nat):(bg L n).length=n:=by simp [bg]
def ala (L:List aj) (n:Nat):bg L (n+1)=bg L n++[if n<L.length then cl L n else zc]:=by simp [bg,aav]
def adZ {L:List aj} (a: ∀ c ∈ L,c.length=64) (n:Nat): ∀ c ∈ bg L n,c.length=64:=by
 intro c hc;simp only [bg,gY] at hc;obtain ⟨i,_,rfl⟩:=hc;split
 ·exact je a ‹_›
 ·exact aV
def kK.kept {w a:World} {S:Nat→Prop} {v:Value} {L:List aj} (h:kK w v L) (hk:Kept S w a) (hs: ∀ g,v.ownBlock=some g→ ¬ S g):kK a v L:=⟨bV hk h.row hs,h.lens⟩
def Tryz.KY:(Tryz.prog.info? 38).map (fun i=>(i.zero,i.size,i.bytes))=some (some (.agg (cv zc).toArray),64,64):=kr
def Tryz.ajB:(Tryz.prog.info? 132).map (fun i=>(i.zero,i.size,i.bytes))=some (some (.agg #[.int .i64 0,.int .i64 0,.string ⟨#[]⟩]),3,32):=kr
def QN (L:List aj) (c:aj):aS (L++[c])=aS L++cv c:=by simp [aS]
def ai6 {w W b:World} {f k g5 cap5:Nat} {Lv:Value} {R:aU} {file:List aj} {c:aj} {bc X:Obj} (m:bY W f Lv (.slice none 0 0) { R with L:=bg file k }) (i:Kept (fun k=>k=f) w W)
  (j:W.heap[w.heap.size]? = some bc) (e: ∀ g,Lv.ownBlock=some g→w.heap.size<g) (s:f<w.heap.size) (n:bg file (k+1)=bg file k++[c]) (o: ∀ c ∈ bg file (k+1),c.length=64)
  (l:b.ownsRow 0 38 64 (.slice (some ⟨g5,0,none⟩) (k+1) cap5) (k+1) (aS (bg file k)++cv c)) (d:(W.alloc X).drew.grownBy b Lv.ownBlock) (q:Lv.ownBlock=some g5∨g5=W.heap.size+1):
  bY (b.setCell ⟨f,0,none⟩ (.slice (some ⟨g5,0,none⟩) (k+1) cap5)) f (.slice (some ⟨g5,0,none⟩) (k+1) cap5) (.slice none 0 0) { R with L:=bg file (k+1) }∧
   Kept (fun k=>k=f) w (b.setCell ⟨f,0,none⟩ (.slice (some ⟨g5,0,none⟩) (k+1) cap5))∧
   (b.setCell ⟨f,0,none⟩ (.slice (some ⟨g5,0,none⟩) (k+1) cap5)).heap[w.heap.size]? = some bc∧(∀ g,(Value.slice (some ⟨g5,0,none⟩) (k+1) cap5).ownBlock=some g→w.heap.size<g):=by
 have r:bY (W.alloc X).drew f Lv (.slice none 0 0) { R with L:=bg file k }:=(m.below (fC)).drew;have hs:=i.size;refine ⟨r.aqW d (by rw [kL,n,QN];exact l) o,?_,?_,?_⟩
 ·exact (((i.alloc X).drew).grown d (fun g a=>ay (by have:=e g a;omega))).setCell (p:=⟨f,0,none⟩) (aA rfl) _
 ·rw [Tv _ _ _ _ (by show w.heap.size≠f;omega)];refine qW d ?_ (fun g a=>by have:=e g a;omega);exact (jX _ _ _ (aK j)).trans j
 ·intro g a;simp only [Value.ownBlock,jH] at a;subst a;rcases q with h | h
  ·exact e _ h
  ·omega
def bM (c:List UInt8):ByteArray:=⟨c.toArray⟩
def ahE {w:World} {b:Nat} {c:List UInt8} {t:TypeId} {fr:Nat × Nat} (h:w.heap[b]? = some (.cells (cv c).toArray t fr)) (n cap:Nat) (hn:n≤c.length):
  (convert 73 9 (.slice (some ⟨b,0,none⟩) n cap)).run Tryz.prog w= .ok (.string (bM (c.take n))) w:=by
 have:=run_convert_bytes_arg (P:=Tryz.prog) w 73 5 Tryz.underlying73 Tryz.underlying5 b 0 n cap ((c.take n).map fun x=>(x.toNat:Int)) (by simp;omega) (fun i hi=>by
  rw [rE,MR h i om];simp only [aN,jK,JY,hi,xk,aI];rw [bJ om]
  rfl) 9 Tryz.underlying9
 rw [this]
 congr 2
 unfold bM strOfNums
 congr 1
 have e:((fun n:Int=>UInt8.ofNat n.toNat) ∘ fun x:UInt8=>(x.toNat:Int))=id:=by funext x;simp
 simp [e]
def ark (w:World) (f:Nat) (fv:Value) (file:List aj) (R:aU) (h:bY w f (.slice none 0 0) (.slice none 0 0) R) (b:kK w fv file) (hlen:file.length≤1000):
  Calls Tryz.prog 74 #[.pointer (some ⟨f,0,none⟩),fv] w fun e s=>
   (mD file=false∧e= .returned (.bool false)∧bY s f (.slice none 0 0) (.slice none 0 0) R∧Kept (fun k=>k=f) w s)∨
   (mD file=true∧e= .returned (.bool true)∧(∃ Lv Rv,bY s f Lv Rv { R with L:=bg file (num (cl file 0) 4),roots:=[⟨num (cl file 0) 6,0,[]⟩] }∧(∀ g,Rv.ownBlock=some g→w.heap.size≤g)∧ ∀ g,Lv.ownBlock=some g→w.heap.size≤g)∧Kept (fun k=>k=f) w s):=by
 by_cases h6:file.length<6
 ·have d6:decide ((file.length:Int)<6)=true:=by simp;omega
  obtain ⟨a,cap,rfl⟩:=gQ b.row
  go_enter Tryz.func74,Tryz.ntmps74
  go_wp2;go_ret;exact aA ⟨by simp [mD];omega,rfl,h,Kept.refl _ _⟩
 have d6:decide ((file.length:Int)<6)=false:=by simp;omega
 by_cases bw:256<file.length
 ·have aq:decide ((256:Int)<(file.length:Int))=true:=by simp;omega
  obtain ⟨a,cap,rfl⟩:=gQ b.row
  go_enter Tryz.func74,Tryz.ntmps74
  go_wp2;go_ret;exact aA ⟨by simp [mD];omega,rfl,h,Kept.refl _ _⟩
 have aq:decide ((256:Int)<(file.length:Int))=false:=by simp;omega
 obtain ⟨g,cap,rfl,bx⟩:=gy b.row om;have C:=oQ b.row b.lens 0 om;have D:=oP b.row b.lens 0 om;simp only [zS] at C D;have aa:=je b.lens (k:=0) om;have Ee:(0:Int)<(file.length:Int):=om;have hB:aC w (w.alloc (.cells (cv (cl file 0)).toArray 38)):=fC;have l:(w.alloc (.cells (cv (cl file 0)).toArray 38)).heap[w.heap.size]? = some (.cells (cv (cl file 0)).toArray 38 (0,0)):=aX _ _;have M:=ah (FD (cl file 0) 4 (w.alloc (.cells (cv (cl file 0)).toArray 38)) aa om om);rw [show (4:Int).toNat=4 from rfl] at M;have bE:=iK (cl file 0) 4;have ab:mD file=(decide (6≤file.length) && (decide (file.length≤256) && (decide ((cl file 0).take 4=zO) && (decide (7≤num (cl file 0) 4) && (decide (num (cl file 0) 4≤256) && (decide (file.length≤num (cl file 0) 4) && vN (cl file 0) 56 8)))))):=rfl
 rw [show decide (6≤file.length)=true by simp;omega,show decide (file.length≤256)=true by simp;omega,um,um] at ab;have N:=ah ab;clear ab
 go_enter Tryz.func74,Tryz.ntmps74
 go_wp2_with fail
 refine M.mono ?_;rintro e O ⟨rfl,ag⟩;have Yh:O.heap[w.heap.size]? = some (.cells (cv (cl file 0)).toArray 38 (0,0)):=(ag.block _ (aK l)).trans l;have af:=hB.trans (ag.mono hB.size);clear ag l hB C D M;have ai:=ahE Yh 4 64 om;generalize X:num (cl file 0) 4=x at*;have Hx:=ah X;have ar:=ah af;clear X af;have n:bY O f (.slice none 0 0) (.slice none 0 0) R:=h.below ar;have r:Kept (fun k=>k=f) w O:=Kept.dQ ar
 by_cases hv:(cl file 0).take 4=zO
 ·rw [hv] at ai;have av:(convert 73 9 (.slice (some ⟨w.heap.size,0,none⟩) 4 64)).run Tryz.prog O= .ok (.string ⟨#[86,69,76,77]⟩) O:=ai;clear ai
  by_cases h7:x<7
  ·have d7:decide ((x:Int)<7)=true:=by simp;omega
   have e:mD file=false:=by rw [uh N,show decide (7≤x)=false by simp;omega];simp
   have E:=ah e;have H1:=ah n;have j:=ah r;clear e n r;go_wp2;go_ret;exact aA ⟨uh E,rfl,uh H1,uh j⟩
  ·have d7:decide ((x:Int)<7)=false:=by simp;omega
   by_cases a9:256<x
   ·have dx:decide ((256:Int)<(x:Int))=true:=by simp;omega
    have e:mD file=false:=by rw [uh N,show decide (x≤256)=false by simp;omega];simp
    have E:=ah e;have H1:=ah n;have j:=ah r;clear e n r;go_wp2;go_ret;exact aA ⟨uh E,rfl,uh H1,uh j⟩
   ·have dx:decide ((256:Int)<(x:Int))=false:=by simp;omega
    by_cases bL:x<file.length
    ·have ba:decide ((x:Int)<(file.length:Int))=true:=by simp;omega
     have bb:decide (x<file.length)=true:=by simp;omega
     have e:mD file=false:=by rw [uh N,show decide (file.length≤x)=false by simp;omega];simp
     have E:=ah e;have H1:=ah n;have j:=ah r;clear e n r;go_wp2;go_ret;exact aA ⟨uh E,rfl,uh H1,uh j⟩
    ·have ba:decide ((x:Int)<(file.length:Int))=false:=by simp;omega
     have bb:decide (x<file.length)=false:=by simp;omega
     have e:mD file=vN (cl file 0) 56 8:=by
      rw [uh N,hv,show decide (file.length≤x)=true by simp;omega,show decide (7≤x)=true by simp;omega,show decide (x≤256)=true by simp;omega];simp
     have E:=ah e;have H1:=ah n;have j:=ah r;clear e n r N;go_wp2
     go_loopw [7] (fun i s=> ∃ k:Nat,k≤56∧i= .int .i64 ((8+k:Nat):Int)∧s=O∧mD file=vN (cl file 0) (56 - k) (8+k)) (fun i _=>64 - (intOf i).toNat)
     case atStart=>exact ⟨0,om,rfl,rfl,uh E⟩
     case round=>
      obtain ⟨k,hk,rfl,rfl,he⟩:=hrel;have He:=ah he;clear he E
      by_cases bd:k<56
      ·have cb:=MR Yh (8+k) om;have bl:=uy (cl file 0) (8+k);have aw:mD file=if aI (cl file 0) (8+k)=0 then vN (cl file 0) (56 - (k+1)) (8+k+1) else false:=by
        rw [uh He,show 56 - k=(56 - (k+1))+1 by omega,vN]
       have gq:=ah aw;clear aw;generalize aI (cl file 0) (8+k)=q at*
       by_cases hq:q=0
       ·subst hq;rw [au rfl] at gq;go_wp2;go_roundw
        case rel=>exact ⟨k+1,om,gn,by trivial,uh gq⟩
        case measure=>exact bW
       ·have dq:((q:Int) != 0)=true:=by rw [ou];omega
        rw [ak hq] at gq;go_wp2;go_ret;exact aA ⟨uh gq,rfl,uh H1,uh j⟩
      ·have ax:k=56:=om;subst ax;have e:mD file=true:=uh He;have E:=ah e;clear e He;have az:R.L=[]:=by
        have:=H1.fJ.2
        rcases this with ⟨_,e⟩ | ⟨g',bA,cur,e,_⟩
        ·exact aaw e
        ·cases e
       have aD:kK wr (.slice (some ⟨g,0,none⟩) file.length cap) file:=b.kept j (fun g' J e'=>by
        subst e';exact iF b.row h.aG dc _ J rfl)
       have aE:Hid (bY wr f (.slice none 0 0) (.slice none 0 0) { R with L:=bg file 0 }):=by
        have e:bg file 0=R.L:=by rw [az];rfl
        rw [e];exact uh H1
       have bf:=ah aD;have u:=ah Yh;have bh:g≠f:=iF b.row h.aG dc _ rfl;have aL:=h.lt;clear az aD Yh av;obtain ⟨i0,aM,aR,a0,a1⟩:=qw Tryz.KY;go_wp2;generalize Value.int .i64 ((8+56:Nat):Int)=s7
       go_loopw [8] (fun i s=> ∃ (k:Nat) (Lv:Value),k≤x∧i= .int .i64 k∧bY s f Lv (.slice none 0 0) { R with L:=bg file k }∧Kept (fun k=>k=f) w s∧
         s.heap[w.heap.size]? = some (.cells (cv (cl file 0)).toArray 38 (0,0))∧(∀ g,Lv.ownBlock=some g→w.heap.size<g)) (fun i _=>x - (intOf i).toNat)
       case atStart=>exact ⟨0,.slice none 0 0,om,rfl,uh aE,uh j,uh u,fun g Y=>by cases Y⟩
       case round=>
        obtain ⟨k,Lv,hk,rfl,m,F,l,KQ⟩:=hrel;clear aE bf u H1 j;have ae:kK wr (.slice (some ⟨g,0,none⟩) file.length cap) file:=b.kept F (fun g' J e'=>by
         subst e';simp only [Value.ownBlock,jH] at J;exact bh J)
        by_cases bd:k<x
        ·have K:kK (wr.alloc (.cells (cv zc).toArray 38)) (.slice (some ⟨g,0,none⟩) file.length cap) file:=ae.kept (S:=fun _=>False) ((Kept.refl _ _).alloc _) (fun _ _=>id);have ad:=m.fJ;rw [show ({ R with L:=bg file k }:aU).L=bg file k from rfl,kL] at ad;have a2:=adZ b.lens (k+1);have a3:=ah a2;have a4:f<wr.heap.size:=m.lt;clear a2
         by_cases T:k<file.length
         ·have bj:decide ((k:Int)<(file.length:Int))=true:=by simp;omega
          have bN:(k:Int)<(file.length:Int):=om;have C:=oQ K.row K.lens k T;have D:=oP K.row K.lens k T;have z:=je b.lens T;have G:=ah m;have H:=ah F;have u:=ah l;clear m F l K ae ad;go_wp2;have U:bg file (k+1)=bg file k++[cl file k]:=by rw [ala,au T]
          generalize cl file k=c at*;have al:=ah U;clear U C D;have I:(wr.alloc (.cells (cv c).toArray 38)).heap[wr.heap.size]? = some (.cells (cv c).toArray 38 (0,0)):=aX _ _;have d:=ah (G.below ((bG wr.heap.size wr).alloc (aO _) (.cells (cv c).toArray 38)));have an:=ah (H.alloc (.cells (cv c).toArray 38));have ao:=ah (show (wr.alloc (.cells (cv c).toArray 38)).heap[w.heap.size]? = some (.cells (cv (cl file 0)).toArray 38 (0,0)) from (jX _ _ _ (aK u)).trans u);clear G H u;generalize wr.alloc (.cells (cv c).toArray 38)=W at*;have c0:=d.vF;have bm:=d.fz;have bn: ∀ o,(W.alloc o).cell? ⟨f,0,none⟩=some Lv:=fun o=>by rw [NY _ _ _ d.lt];exact c0
          have C:dU W.drew wr.heap.size 0 64:=iD I z;have D:dO W.drew wr.heap.size 0 64=cv c:=iC I z;have Z:=ah d.fJ;rw [show ({ R with L:=bg file k }:aU).L=bg file k from rfl,kL] at Z;clear I;have TG:Hid (bY (W.alloc (.cells (cv c).toArray 38)).drew f Lv (.slice none 0 0) { R with L:=bg file k }):=(d.below (fC)).drew
          go_region_law ((refine JZ _ (by rfl) _ _ _ (by rfl) 0 38 i0 _ 64 64 Tryz.underlying28 aM aR a0 a1 (by simp [Value.cells,bC,aV]) om Lv k (aS (bg file k)) (by rfl) ((Z.alloc _).drew) ⟨W.heap.size,0,none⟩ 1 1 (cv c) (by rfl) (by rw [bC,z]) (pJ (cs:=(cv c).toArray) (t:=38) (fr:=(0,0)) (aX W _)) (Au c) om (by unfold maxLen;omega) om om (W.heap.size+1) sm ?_;intro g5 cap5 A P v V uP;have B:=qW v TG.aG TG.GR;have c5:A.cell? ⟨f,0,none⟩=some Lv:=(aF B 0).trans rfl;have z5:A.frozen? ⟨f,0,none⟩=false:=eY B 0))
          all_goals
           have y:=ah (ai6 d an ao KQ aL al a3 P v V);go_wp2;go_roundw
           case rel=>exact ⟨k+1,.slice (some ⟨g5,0,none⟩) (k+1) cap5,om,gn,y.1,y.2.1,y.2.2.1,y.2.2.2⟩
           case measure=>exact bW
         ·have bj:decide ((k:Int)<(file.length:Int))=false:=by simp;omega
          have z:=aV;have G:=ah m;have H:=ah F;have u:=ah l;clear m F l K ae ad;go_wp2;have U:bg file (k+1)=bg file k++[zc]:=by rw [ala,ak T]
          generalize zc=c at*;have al:=ah U;clear U;have I:(wr.alloc (.cells (cv c).toArray 38)).heap[wr.heap.size]? = some (.cells (cv c).toArray 38 (0,0)):=aX _ _;have d:=ah (G.below ((bG wr.heap.size wr).alloc (aO _) (.cells (cv c).toArray 38)));have an:=ah (H.alloc (.cells (cv c).toArray 38));have ao:=ah (show (wr.alloc (.cells (cv c).toArray 38)).heap[w.heap.size]? = some (.cells (cv (cl file 0)).toArray 38 (0,0)) from (jX _ _ _ (aK u)).trans u);clear G H u;generalize wr.alloc (.cells (cv c).toArray 38)=W at*;have c0:=d.vF;have bm:=d.fz;have bn: ∀ o,(W.alloc o).cell? ⟨f,0,none⟩=some Lv:=fun o=>by rw [NY _ _ _ d.lt];exact c0
          have C:dU W.drew wr.heap.size 0 64:=iD I z;have D:dO W.drew wr.heap.size 0 64=cv c:=iC I z;have Z:=ah d.fJ;rw [show ({ R with L:=bg file k }:aU).L=bg file k from rfl,kL] at Z;clear I;have TG:Hid (bY (W.alloc (.cells (cv c).toArray 38)).drew f Lv (.slice none 0 0) { R with L:=bg file k }):=(d.below (fC)).drew
          go_region_law ((refine JZ _ (by rfl) _ _ _ (by rfl) 0 38 i0 _ 64 64 Tryz.underlying28 aM aR a0 a1 (by simp [Value.cells,bC,z]) om Lv k (aS (bg file k)) (by rfl) ((Z.alloc _).drew) ⟨W.heap.size,0,none⟩ 1 1 (cv c) (by rfl) (by rw [bC,z]) (pJ (cs:=(cv c).toArray) (t:=38) (fr:=(0,0)) (aX W _)) (Au c) om (by unfold maxLen;omega) om om (W.heap.size+1) sm ?_;intro g5 cap5 A P v V uP;have B:=qW v TG.aG TG.GR;have c5:A.cell? ⟨f,0,none⟩=some Lv:=(aF B 0).trans rfl;have z5:A.frozen? ⟨f,0,none⟩=false:=eY B 0))
          all_goals
           have y:=ah (ai6 d an ao KQ aL al a3 P v V);go_wp2;go_roundw
           case rel=>exact ⟨k+1,.slice (some ⟨g5,0,none⟩) (k+1) cap5,om,gn,y.1,y.2.1,y.2.2.1,y.2.2.2⟩
           case measure=>exact bW
        ·have a5:k=x:=om;have a6:bg file k=bg file (num (cl file 0) 4):=by rw [a5,uh Hx]
         rw [a6] at m;have c1:=m.CV;have a4:f<wr.heap.size:=m.lt;have C:dU wr.drew w.heap.size 0 64:=iD l aa;have D:dO wr.drew w.heap.size 0 64=cv (cl file 0):=iC l aa;have M:=ah (FD (cl file 0) 6 wr.drew aa om om);rw [show (6:Int).toNat=6 from rfl] at M;have G:=ah m;have H:=ah F;have bO:=iK (cl file 0) 6;clear m F l ae a5 a6;obtain ⟨i1,bo,bp,bq,bs⟩:=qw Tryz.ajB;generalize a7:num (cl file 0) 6=rn at*;have bt:=ah a7;clear a7;go_wp2
         go_region_law (first
          | (
           refine JZ _ (by rfl) _ _ _ (by rfl) 0 132 i1 _ 3 32 Tryz.underlying90 bo bp bq bs rfl om (.slice none 0 0) 0 [] (by rfl) (wH _ _ _ _) ⟨w6.heap.size,0,none⟩ 1 1 (iE ⟨rn,0,[]⟩) (by rfl) (by rfl) (pJ (cs:=(iE ⟨rn,0,[]⟩).toArray) (t:=132) (fr:=(0,0)) (aX w6 _)) (by simp [iE,Value.oneCell']) om (by unfold maxLen;omega) om om (w6.heap.size+1) sm ?_;intro g5 cap5 A P v V uP;have B:=qW v (F6.below ((bG _ _).alloc (aO _) (.cells (iE ⟨rn,0,[]⟩).toArray 132))).aG (F6.Vz);have c5:A.cell? ⟨f,1,none⟩=some (.slice none 0 0):=(aF B 1).trans rfl;have z5:A.frozen? ⟨f,1,none⟩=false:=eY B 1)
          | (
           go_simp;go_at_call 136;refine M.mono ?_;rintro e w6 ⟨rfl,a8⟩;have F6:=ah (G.drew.below a8);have K6:=ah (H.drew.trans (Kept.dQ a8));have c6:=F6.CV;have bR: ∀ o,(w6.alloc o).cell? ⟨f,1,none⟩=some (.slice none 0 0):=fun o=>by rw [NY _ _ _ F6.lt];exact c6))
         all_goals
          go_wp2;go_ret;refine ay ⟨uh E,rfl,⟨Lv,.slice (some ⟨g5,0,none⟩) 1 cap5,?_,?_,fun g Y=>SN (KQ g Y)⟩,?_⟩
          ·rw [uh bt];exact (F6.below ((bG _ _).alloc (aO _) (.cells (iE ⟨rn,0,[]⟩).toArray 132))).aiI v (Q:=[⟨rn,0,[]⟩]) P
          ·intro g' J;simp only [Value.ownBlock,jH] at J;have bS:=K6.size;rcases V with X | X
           ·cases X
           ·omega
          ·exact ((K6.alloc _).grown v (fun g Y=>by cases Y)).setCell (p:=⟨f,1,none⟩) (aA rfl) _
 ·have bB:((bM ((cl file 0).take 4)).toList == [86,69,76,77])=false:=by
   rw [lY];intro e;apply hv;rw [show (bM ((cl file 0).take 4)).toList=(cl file 0).take 4 by rw [ByteArray.toList_eq];rfl] at e;exact e
  have e:mD file=false:=by rw [uh N,show decide ((cl file 0).take 4=zO)=false by simpa using hv];simp
  have E:=ah e;have H1:=ah n;have j:=ah r;clear e n r;go_wp2;go_ret;exact aA ⟨uh E,rfl,uh H1,uh j⟩
end Go.Proofs.YtknjjjenklfeoaaGreatDoor
