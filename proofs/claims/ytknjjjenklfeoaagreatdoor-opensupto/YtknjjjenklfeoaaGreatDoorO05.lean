import Derived.Test.YtknjjjenklfeoaaGreatDoorO02
import Derived.Deep.RegionLaw
set_option maxHeartbeats 8000000
set_option maxRecDepth 100000
set_option linter.all false
namespace Go.Proofs.YtknjjjenklfeoaaGreatDoor
open Go.RowKit
attribute [local go_sem ↓] dw fP fZ ku
attribute [local go_sem] dK fO fV gK gy aV kG
def yR:List UInt8:=[86,69,76,77]
def uX (c:aj):Nat→Nat→Bool
 | 0,_=>true
 | m+1,i=>if aI c i=0 then uX c m (i+1) else false
def lQ (L:List aj):Bool:=decide (6≤L.length) && (decide (L.length≤256) && (decide ((cl L 0).take 4=yR) && (decide (7≤num (cl L 0) 4) && (decide (num (cl L 0) 4≤256) && (decide (L.length≤num (cl L 0) 4) && uX (cl L 0) 56 8)))))
def aZ (L:List aj) (n:Nat):List aj:=(List.range n).map fun i=>if i<L.length then cl L i else zc
structure lK (w:World) (v:Value) (L:List aj):Prop where
 row:w.ownsRow 0 38 64 v L.length (aQ L)
 lens: ∀ c ∈ L,c.length=64
theorem Kept.grown {S:Nat→Prop} {a w w':World} {row:Option Nat} (h:Kept S a w) (hg:w.grownBy w' row) (hr: ∀ g,row=some g→S g∨a.heap.size≤g):Kept S a w':=
 ⟨hg.os.trans h.os,hg.tape.trans h.tape,hg.output.trans h.output,jZ h.size hg.size,fun k hk hs=>by
  rw [hg.block k (iZ hk h.size) (fun e=>by rcases hr k e.symm with x | x;exact hs x;omega)];exact h.block k hk hs⟩
theorem qH {w w':World} {row:Option Nat} (hg:w.grownBy w' row) {g:Nat} {o:Obj} (hb:w.heap[g]? = some o) (hne: ∀ k,row=some k→k≠g):w'.heap[g]? = some o:=by
 rw [hg.block g (aO hb) (fun e=>hne g e.symm rfl)];exact hb
theorem zN {w w':World} {row:Option Nat} (hg:w.grownBy w' row) {base:Nat} {e:TypeId} {size:Nat} {v:Value} {n:Nat} {xs:List Value} (hr:w.ownsRow base e size v n xs) (hne: ∀ g,v.ownBlock=some g→row≠some g):w'.ownsRow base e size v n xs:=by
 obtain ⟨h1,h2⟩:=hr;refine ⟨h1,?_⟩;rcases h2 with h2 | ⟨g,cap,cur,rfl,hb,hh,r⟩
 ·exact aA h2
 ·exact ay ⟨g,cap,cur,rfl,hb,qH hg hh (fun k hk e=>hne g rfl (by rw [hk,e])),r⟩
theorem bV.aoN {w w5:World} {f:Nat} {Lv Rv v':Value} {R:aU} {L':List aj} (h:bV w f Lv Rv R) (hg:w.grownBy w5 Lv.ownBlock) (hrow:w5.ownsRow 0 38 64 v' L'.length (aQ L')) (hl: ∀ c ∈ L',c.length=64):
  bV (w5.setCell ⟨f,0,none⟩ v') f v' Rv { R with L:=L' }:=by
 have hb5:w5.heap[f]? = some (.cells (Dh Lv Rv R).toArray 93 (0,0)):=qH hg h.aF h.FH;have hk:=Kept.only w5 f 0 v';refine ⟨?_,bQ hk hrow (iw hrow hb5 dc),?_,h.told,h.used,hl⟩
 ·rw [heap_setCell_same w5 f 0 v' _ _ _ hb5];rfl
 ·exact bQ hk (zN hg h.o8 h.aiU) h.Uh
theorem bV.ag2 {w w5:World} {f:Nat} {Lv Rv v':Value} {R:aU} {Q:List bC} (h:bV w f Lv Rv R) (hg:w.grownBy w5 Rv.ownBlock) (hrow:w5.ownsRow 0 132 3 v' Q.length (Q.flatMap ig)):
  bV (w5.setCell ⟨f,1,none⟩ v') f Lv v' { R with roots:=Q }:=by
 have hb5:w5.heap[f]? = some (.cells (Dh Lv Rv R).toArray 93 (0,0)):=qH hg h.aF h.Uh;have hk:=Kept.only w5 f 1 v';refine ⟨?_,?_,bQ hk hrow (iw hrow hb5 dc),h.told,h.used,h.lens⟩
 ·rw [heap_setCell_same w5 f 1 v' _ _ _ hb5];rfl
 ·exact bQ hk (zN hg h.fF (fun g hL e=>h.aiU g e hL)) h.FH
theorem jV (L:List aj) (n:Nat):(aZ L n).length=n:=by simp [aZ]
theorem aji (L:List aj) (n:Nat):aZ L (n+1)=aZ L n++[if n<L.length then cl L n else zc]:=by simp [aZ,Y7]
theorem acs {L:List aj} (hl: ∀ c ∈ L,c.length=64) (n:Nat): ∀ c ∈ aZ L n,c.length=64:=by
 intro c hc;simp only [aZ,gQ] at hc;obtain ⟨i,_,rfl⟩:=hc;split
 ·exact iM hl ‹_›
 ·exact aV
theorem lK.kept {w w':World} {S:Nat→Prop} {v:Value} {L:List aj} (h:lK w v L) (hk:Kept S w w') (hs: ∀ g,v.ownBlock=some g→ ¬ S g):lK w' v L:=⟨bQ hk h.row hs,h.lens⟩
theorem Tryz.J4:(Tryz.prog.info? 38).map (fun i=>(i.zero,i.size,i.bytes))=some (some (.agg (cv zc).toArray),64,64):=kr
theorem Tryz.ahQ:(Tryz.prog.info? 132).map (fun i=>(i.zero,i.size,i.bytes))=some (some (.agg #[.int .i64 0,.int .i64 0,.string ⟨#[]⟩]),3,32):=kr
theorem PS (L:List aj) (c:aj):aQ (L++[c])=aQ L++cv c:=by simp [aQ]
theorem ahn {w W w5:World} {f k g5 cap5:Nat} {Lv:Value} {R:aU} {file:List aj} {c:aj} {bc X:Obj} (hWF:bV W f Lv (.slice none 0 0) { R with L:=aZ file k }) (hWK:Kept (fun k=>k=f) w W)
  (hbx:W.heap[w.heap.size]? = some bc) (JV: ∀ g,Lv.ownBlock=some g→w.heap.size<g) (hfl:f<w.heap.size) (hpe:aZ file (k+1)=aZ file k++[c]) (hpl: ∀ c ∈ aZ file (k+1),c.length=64)
  (hown5:w5.ownsRow 0 38 64 (.slice (some ⟨g5,0,none⟩) (k+1) cap5) (k+1) (aQ (aZ file k)++cv c)) (hgrow:(W.alloc X).drew.grownBy w5 Lv.ownBlock) (hat:Lv.ownBlock=some g5∨g5=W.heap.size+1):
  bV (w5.setCell ⟨f,0,none⟩ (.slice (some ⟨g5,0,none⟩) (k+1) cap5)) f (.slice (some ⟨g5,0,none⟩) (k+1) cap5) (.slice none 0 0) { R with L:=aZ file (k+1) }∧
   Kept (fun k=>k=f) w (w5.setCell ⟨f,0,none⟩ (.slice (some ⟨g5,0,none⟩) (k+1) cap5))∧
   (w5.setCell ⟨f,0,none⟩ (.slice (some ⟨g5,0,none⟩) (k+1) cap5)).heap[w.heap.size]? = some bc∧(∀ g,(Value.slice (some ⟨g5,0,none⟩) (k+1) cap5).ownBlock=some g→w.heap.size<g):=by
 have hX:bV (W.alloc X).drew f Lv (.slice none 0 0) { R with L:=aZ file k }:=(hWF.below (fC)).drew;have hs:=hWK.size;refine ⟨hX.aoN hgrow (by rw [jV,hpe,PS];exact hown5) hpl,?_,?_,?_⟩
 ·exact (((hWK.alloc X).drew).grown hgrow (fun g hg=>ay (by have:=JV g hg;omega))).setCell (p:=⟨f,0,none⟩) (aA rfl) _
 ·rw [Ry _ _ _ _ (by show w.heap.size≠f;omega)];refine qH hgrow ?_ (fun g hg=>by have:=JV g hg;omega);exact (jE _ _ _ (aO hbx)).trans hbx
 ·intro g hg;simp only [Value.ownBlock,jv] at hg;subst hg;rcases hat with h | h
  ·exact JV _ h
  ·omega
def bJ (c:List UInt8):ByteArray:=⟨c.toArray⟩
theorem afY {w:World} {b:Nat} {c:List UInt8} {t:TypeId} {fr:Nat × Nat} (h:w.heap[b]? = some (.cells (cv c).toArray t fr)) (n cap:Nat) (hn:n≤c.length):
  (convert 73 9 (.slice (some ⟨b,0,none⟩) n cap)).run Tryz.prog w= .ok (.string (bJ (c.take n))) w:=by
 have:=run_convert_bytes_arg (P:=Tryz.prog) w 73 5 Tryz.underlying73 Tryz.underlying5 b 0 n cap ((c.take n).map fun x=>(x.toNat:Int)) (by simp;omega) (fun i hi=>by
  rw [qR,Lp h i om];simp only [aK,jD,Jp,hi,wH,aI];rw [bI om]
  rfl) 9 Tryz.underlying9
 rw [this]
 congr 2
 unfold bJ strOfNums
 congr 1
 have e:((fun n:Int=>UInt8.ofNat n.toNat) ∘ fun x:UInt8=>(x.toNat:Int))=id:=by funext x;simp
 simp [e]
theorem ao9 (w:World) (f:Nat) (fv:Value) (file:List aj) (R:aU) (h:bV w f (.slice none 0 0) (.slice none 0 0) R) (hf:lK w fv file) (hlen:file.length≤1000):
  Calls Tryz.prog 74 #[.pointer (some ⟨f,0,none⟩),fv] w fun e w'=>
   (lQ file=false∧e= .returned (.bool false)∧bV w' f (.slice none 0 0) (.slice none 0 0) R∧Kept (fun k=>k=f) w w')∨
   (lQ file=true∧e= .returned (.bool true)∧(∃ Lv Rv,bV w' f Lv Rv { R with L:=aZ file (num (cl file 0) 4),roots:=[⟨num (cl file 0) 6,0,[]⟩] }∧(∀ g,Rv.ownBlock=some g→w.heap.size≤g)∧ ∀ g,Lv.ownBlock=some g→w.heap.size≤g)∧Kept (fun k=>k=f) w w'):=by
 by_cases h6:file.length<6
 ·have d6:decide ((file.length:Int)<6)=true:=by simp;omega
  obtain ⟨a,cap,rfl⟩:=iq hf.row
  go_enter Tryz.func74,Tryz.ntmps74
  go_wp2;go_ret;exact aA ⟨by simp [lQ];omega,rfl,h,Kept.refl _ _⟩
 have d6:decide ((file.length:Int)<6)=false:=by simp;omega
 by_cases h256:256<file.length
 ·have d256:decide ((256:Int)<(file.length:Int))=true:=by simp;omega
  obtain ⟨a,cap,rfl⟩:=iq hf.row
  go_enter Tryz.func74,Tryz.ntmps74
  go_wp2;go_ret;exact aA ⟨by simp [lQ];omega,rfl,h,Kept.refl _ _⟩
 have d256:decide ((256:Int)<(file.length:Int))=false:=by simp;omega
 obtain ⟨g,cap,rfl,hcap⟩:=gB hf.row om;have l1:=oI hf.row hf.lens 0 om;have l2:=oH hf.row hf.lens 0 om;simp only [yV] at l1 l2;have hlen0:=iM hf.lens (k:=0) om;have Fv:(0:Int)<(file.length:Int):=om;have hB:aC w (w.alloc (.cells (cv (cl file 0)).toArray 38)):=fC;have hbx:(w.alloc (.cells (cv (cl file 0)).toArray 38)).heap[w.heap.size]? = some (.cells (cv (cl file 0)).toArray 38 (0,0)):=aW _ _;have Hn:=ah (Em (cl file 0) 4 (w.alloc (.cells (cv (cl file 0)).toArray 38)) hlen0 om om);rw [show (4:Int).toNat=4 from rfl] at Hn;have hxl:=iD (cl file 0) 4;have hgood:lQ file=(decide (6≤file.length) && (decide (file.length≤256) && (decide ((cl file 0).take 4=yR) && (decide (7≤num (cl file 0) 4) && (decide (num (cl file 0) 4≤256) && (decide (file.length≤num (cl file 0) 4) && uX (cl file 0) 56 8)))))):=rfl
 rw [show decide (6≤file.length)=true by simp;omega,show decide (file.length≤256)=true by simp;omega,tC,tC] at hgood;have Pj:=ah hgood;clear hgood
 go_enter Tryz.func74,Tryz.ntmps74
 go_wp2_with fail
 refine Hn.mono ?_;rintro e w1 ⟨rfl,hb1⟩;have WO:w1.heap[w.heap.size]? = some (.cells (cv (cl file 0)).toArray 38 (0,0)):=(hb1.block _ (aO hbx)).trans hbx;have hb1':=hB.trans (hb1.mono hB.size);clear hb1 hbx hB l1 l2 Hn;have hcv:=afY WO 4 64 om;generalize hx:num (cl file 0) 4=x at*;have Hx:=ah hx;have Hb1:=ah hb1';clear hx hb1';have hbelow:bV w1 f (.slice none 0 0) (.slice none 0 0) R:=h.below Hb1;have hkept:Kept (fun k=>k=f) w w1:=Kept.dS Hb1
 by_cases hv:(cl file 0).take 4=yR
 ·rw [hv] at hcv;have hcv':(convert 73 9 (.slice (some ⟨w.heap.size,0,none⟩) 4 64)).run Tryz.prog w1= .ok (.string ⟨#[86,69,76,77]⟩) w1:=hcv;clear hcv
  by_cases h7:x<7
  ·have d7:decide ((x:Int)<7)=true:=by simp;omega
   have e:lQ file=false:=by rw [uh Pj,show decide (7≤x)=false by simp;omega];simp
   have E:=ah e;have H1:=ah hbelow;have H2:=ah hkept;clear e hbelow hkept;go_wp2;go_ret;exact aA ⟨uh E,rfl,uh H1,uh H2⟩
  ·have d7:decide ((x:Int)<7)=false:=by simp;omega
   by_cases hx256:256<x
   ·have dx:decide ((256:Int)<(x:Int))=true:=by simp;omega
    have e:lQ file=false:=by rw [uh Pj,show decide (x≤256)=false by simp;omega];simp
    have E:=ah e;have H1:=ah hbelow;have H2:=ah hkept;clear e hbelow hkept;go_wp2;go_ret;exact aA ⟨uh E,rfl,uh H1,uh H2⟩
   ·have dx:decide ((256:Int)<(x:Int))=false:=by simp;omega
    by_cases hlx:x<file.length
    ·have dlx:decide ((x:Int)<(file.length:Int))=true:=by simp;omega
     have aof:decide (x<file.length)=true:=by simp;omega
     have e:lQ file=false:=by rw [uh Pj,show decide (file.length≤x)=false by simp;omega];simp
     have E:=ah e;have H1:=ah hbelow;have H2:=ah hkept;clear e hbelow hkept;go_wp2;go_ret;exact aA ⟨uh E,rfl,uh H1,uh H2⟩
    ·have dlx:decide ((x:Int)<(file.length:Int))=false:=by simp;omega
     have aof:decide (x<file.length)=false:=by simp;omega
     have e:lQ file=uX (cl file 0) 56 8:=by
      rw [uh Pj,hv,show decide (file.length≤x)=true by simp;omega,show decide (7≤x)=true by simp;omega,show decide (x≤256)=true by simp;omega];simp
     have E:=ah e;have H1:=ah hbelow;have H2:=ah hkept;clear e hbelow hkept Pj;go_wp2
     go_loopw [7] (fun i w'=> ∃ k:Nat,k≤56∧i= .int .i64 ((8+k:Nat):Int)∧w'=w1∧lQ file=uX (cl file 0) (56 - k) (8+k)) (fun i _=>64 - (intOf i).toNat)
     case atStart=>exact ⟨0,om,rfl,rfl,uh E⟩
     case round=>
      obtain ⟨k,hk,rfl,rfl,he⟩:=hrel;have He:=ah he;clear he E
      by_cases hlt:k<56
      ·have cb:=Lp WO (8+k) om;have bl:=tV (cl file 0) (8+k);have hst:lQ file=if aI (cl file 0) (8+k)=0 then uX (cl file 0) (56 - (k+1)) (8+k+1) else false:=by
        rw [uh He,show 56 - k=(56 - (k+1))+1 by omega,uX]
       have fK:=ah hst;clear hst;generalize aI (cl file 0) (8+k)=q at*
       by_cases hq:q=0
       ·subst hq;rw [au rfl] at fK;go_wp2;go_roundw
        case rel=>exact ⟨k+1,om,gn,by trivial,uh fK⟩
        case measure=>exact cO
       ·have dq:((q:Int) != 0)=true:=by rw [nR];omega
        rw [ak hq] at fK;go_wp2;go_ret;exact aA ⟨uh fK,rfl,uh H1,uh H2⟩
      ·have hk56:k=56:=om;subst hk56;have e:lQ file=true:=uh He;have E:=ah e;clear e He;have hR0:R.L=[]:=by
        have:=H1.fF.2
        rcases this with ⟨_,e⟩ | ⟨g',cap',cur,e,_⟩
        ·exact Y8 e
        ·cases e
       have hf1:lK wr (.slice (some ⟨g,0,none⟩) file.length cap) file:=hf.kept H2 (fun g' hg' e'=>by
        subst e';exact iw hf.row h.aF dc _ hg' rfl)
       have aeT:Hid (bV wr f (.slice none 0 0) (.slice none 0 0) { R with L:=aZ file 0 }):=by
        have e:aZ file 0=R.L:=by rw [hR0];rfl
        rw [e];exact uh H1
       have HF1:=ah hf1;have pz:=ah WO;have hgf:g≠f:=iw hf.row h.aF dc _ rfl;have hfl:=h.lt;clear hR0 hf1 WO hcv';obtain ⟨i0,hi0,hz0,hz1,hz2⟩:=qy Tryz.J4;go_wp2;generalize Value.int .i64 ((8+56:Nat):Int)=s7
       go_loopw [8] (fun i w'=> ∃ (k:Nat) (Lv:Value),k≤x∧i= .int .i64 k∧bV w' f Lv (.slice none 0 0) { R with L:=aZ file k }∧Kept (fun k=>k=f) w w'∧
         w'.heap[w.heap.size]? = some (.cells (cv (cl file 0)).toArray 38 (0,0))∧(∀ g,Lv.ownBlock=some g→w.heap.size<g)) (fun i _=>x - (intOf i).toNat)
       case atStart=>exact ⟨0,.slice none 0 0,om,rfl,uh aeT,uh H2,uh pz,fun g hg=>by cases hg⟩
       case round=>
        obtain ⟨k,Lv,hk,rfl,hF,hK,hbx,JV⟩:=hrel;clear aeT HF1 pz H1 H2;have hfk:lK wr (.slice (some ⟨g,0,none⟩) file.length cap) file:=hf.kept hK (fun g' hg' e'=>by
         subst e';simp only [Value.ownBlock,jv] at hg';exact hgf hg')
        by_cases hlt:k<x
        ·have hfw:lK (wr.alloc (.cells (cv zc).toArray 38)) (.slice (some ⟨g,0,none⟩) file.length cap) file:=hfk.kept (S:=fun _=>False) ((Kept.refl _ _).alloc _) (fun _ _=>id);have hrow:=hF.fF;rw [show ({ R with L:=aZ file k }:aU).L=aZ file k from rfl,jV] at hrow;have hpl:=acs hf.lens (k+1);have Hpl:=ah hpl;have hsz2:f<wr.heap.size:=hF.lt;clear hpl
         by_cases hin:k<file.length
         ·have din:decide ((k:Int)<(file.length:Int))=true:=by simp;omega
          have avM:(k:Int)<(file.length:Int):=om;have l1:=oI hfw.row hfw.lens k hin;have l2:=oH hfw.row hfw.lens k hin;have hcl:=iM hf.lens hin;have HF:=ah hF;have HK:=ah hK;have pz:=ah hbx;clear hF hK hbx hfw hfk hrow;go_wp2;have hpe:aZ file (k+1)=aZ file k++[cl file k]:=by rw [aji,au hin]
          generalize cl file k=c at*;have ZF:=ah hpe;clear hpe l1 l2;have NG:(wr.alloc (.cells (cv c).toArray 38)).heap[wr.heap.size]? = some (.cells (cv c).toArray 38 (0,0)):=aW _ _;have DN:=ah (HF.below ((bG wr.heap.size wr).alloc (aP _) (.cells (cv c).toArray 38)));have Zw:=ah (HK.alloc (.cells (cv c).toArray 38));have Zx:=ah (show (wr.alloc (.cells (cv c).toArray 38)).heap[w.heap.size]? = some (.cells (cv (cl file 0)).toArray 38 (0,0)) from (jE _ _ _ (aO pz)).trans pz);clear HF HK pz;generalize wr.alloc (.cells (cv c).toArray 38)=W at*;have c0:=DN.uN;have cfz:=DN.fz;have c0': ∀ o,(W.alloc o).cell? ⟨f,0,none⟩=some Lv:=fun o=>by rw [MO _ _ _ DN.lt];exact c0
          have l1:dN W.drew wr.heap.size 0 64:=gZ NG hcl;have l2:dI W.drew wr.heap.size 0 64=cv c:=gY NG hcl;have fA:=ah DN.fF;rw [show ({ R with L:=aZ file k }:aU).L=aZ file k from rfl,jV] at fA;clear NG;have RI:Hid (bV (W.alloc (.cells (cv c).toArray 38)).drew f Lv (.slice none 0 0) { R with L:=aZ file k }):=(DN.below (fC)).drew
          go_region_law ((refine Jq _ (by rfl) _ _ _ (by rfl) 0 38 i0 _ 64 64 Tryz.underlying28 hi0 hz0 hz1 hz2 (by simp [Value.cells,bg,aV]) om Lv k (aQ (aZ file k)) (by rfl) ((fA.alloc _).drew) ⟨W.heap.size,0,none⟩ 1 1 (cv c) (by rfl) (by rw [bg,hcl]) (pU (cs:=(cv c).toArray) (t:=38) (fr:=(0,0)) (aW W _)) (zJ c) om (by unfold maxLen;omega) om om (W.heap.size+1) sm ?_;intro g5 cap5 w5 hown5 hgrow hat uP;have b5:=qH hgrow RI.aF RI.FH;have c5:w5.cell? ⟨f,0,none⟩=some Lv:=(aG b5 0).trans rfl;have z5:w5.frozen? ⟨f,0,none⟩=false:=eG b5 0))
          all_goals
           have S5:=ah (ahn DN Zw Zx JV hfl ZF Hpl hown5 hgrow hat);go_wp2;go_roundw
           case rel=>exact ⟨k+1,.slice (some ⟨g5,0,none⟩) (k+1) cap5,om,gn,S5.1,S5.2.1,S5.2.2.1,S5.2.2.2⟩
           case measure=>exact cO
         ·have din:decide ((k:Int)<(file.length:Int))=false:=by simp;omega
          have hcl:=aV;have HF:=ah hF;have HK:=ah hK;have pz:=ah hbx;clear hF hK hbx hfw hfk hrow;go_wp2;have hpe:aZ file (k+1)=aZ file k++[zc]:=by rw [aji,ak hin]
          generalize zc=c at*;have ZF:=ah hpe;clear hpe;have NG:(wr.alloc (.cells (cv c).toArray 38)).heap[wr.heap.size]? = some (.cells (cv c).toArray 38 (0,0)):=aW _ _;have DN:=ah (HF.below ((bG wr.heap.size wr).alloc (aP _) (.cells (cv c).toArray 38)));have Zw:=ah (HK.alloc (.cells (cv c).toArray 38));have Zx:=ah (show (wr.alloc (.cells (cv c).toArray 38)).heap[w.heap.size]? = some (.cells (cv (cl file 0)).toArray 38 (0,0)) from (jE _ _ _ (aO pz)).trans pz);clear HF HK pz;generalize wr.alloc (.cells (cv c).toArray 38)=W at*;have c0:=DN.uN;have cfz:=DN.fz;have c0': ∀ o,(W.alloc o).cell? ⟨f,0,none⟩=some Lv:=fun o=>by rw [MO _ _ _ DN.lt];exact c0
          have l1:dN W.drew wr.heap.size 0 64:=gZ NG hcl;have l2:dI W.drew wr.heap.size 0 64=cv c:=gY NG hcl;have fA:=ah DN.fF;rw [show ({ R with L:=aZ file k }:aU).L=aZ file k from rfl,jV] at fA;clear NG;have RI:Hid (bV (W.alloc (.cells (cv c).toArray 38)).drew f Lv (.slice none 0 0) { R with L:=aZ file k }):=(DN.below (fC)).drew
          go_region_law ((refine Jq _ (by rfl) _ _ _ (by rfl) 0 38 i0 _ 64 64 Tryz.underlying28 hi0 hz0 hz1 hz2 (by simp [Value.cells,bg,hcl]) om Lv k (aQ (aZ file k)) (by rfl) ((fA.alloc _).drew) ⟨W.heap.size,0,none⟩ 1 1 (cv c) (by rfl) (by rw [bg,hcl]) (pU (cs:=(cv c).toArray) (t:=38) (fr:=(0,0)) (aW W _)) (zJ c) om (by unfold maxLen;omega) om om (W.heap.size+1) sm ?_;intro g5 cap5 w5 hown5 hgrow hat uP;have b5:=qH hgrow RI.aF RI.FH;have c5:w5.cell? ⟨f,0,none⟩=some Lv:=(aG b5 0).trans rfl;have z5:w5.frozen? ⟨f,0,none⟩=false:=eG b5 0))
          all_goals
           have S5:=ah (ahn DN Zw Zx JV hfl ZF Hpl hown5 hgrow hat);go_wp2;go_roundw
           case rel=>exact ⟨k+1,.slice (some ⟨g5,0,none⟩) (k+1) cap5,om,gn,S5.1,S5.2.1,S5.2.2.1,S5.2.2.2⟩
           case measure=>exact cO
        ·have hkx:k=x:=om;have hL0:aZ file k=aZ file (num (cl file 0) 4):=by rw [hkx,uh Hx]
         rw [hL0] at hF;have c1:=hF.BG;have hsz2:f<wr.heap.size:=hF.lt;have l1:dN wr.drew w.heap.size 0 64:=gZ hbx hlen0;have l2:dI wr.drew w.heap.size 0 64=cv (cl file 0):=gY hbx hlen0;have Hn:=ah (Em (cl file 0) 6 wr.drew hlen0 om om);rw [show (6:Int).toNat=6 from rfl] at Hn;have HF:=ah hF;have HK:=ah hK;have hrl:=iD (cl file 0) 6;clear hF hK hbx hfk hkx hL0;obtain ⟨i1,hi1,hy0,hy1,hy2⟩:=qy Tryz.ahQ;generalize hrn:num (cl file 0) 6=rn at*;have Hrn:=ah hrn;clear hrn;go_wp2
         go_region_law (first
          | (
           refine Jq _ (by rfl) _ _ _ (by rfl) 0 132 i1 _ 3 32 Tryz.underlying90 hi1 hy0 hy1 hy2 rfl om (.slice none 0 0) 0 [] (by rfl) (wF _ _ _ _) ⟨w6.heap.size,0,none⟩ 1 1 (ig ⟨rn,0,[]⟩) (by rfl) (by rfl) (pU (cs:=(ig ⟨rn,0,[]⟩).toArray) (t:=132) (fr:=(0,0)) (aW w6 _)) (by simp [ig,Value.oneCell']) om (by unfold maxLen;omega) om om (w6.heap.size+1) sm ?_;intro g5 cap5 w5 hown5 hgrow hat uP;have b5:=qH hgrow (F6.below ((bG _ _).alloc (aP _) (.cells (ig ⟨rn,0,[]⟩).toArray 132))).aF (F6.Uh);have c5:w5.cell? ⟨f,1,none⟩=some (.slice none 0 0):=(aG b5 1).trans rfl;have z5:w5.frozen? ⟨f,1,none⟩=false:=eG b5 1)
          | (
           go_simp;go_at_call 136;refine Hn.mono ?_;rintro e w6 ⟨rfl,hb6⟩;have F6:=ah (HF.drew.below hb6);have K6:=ah (HK.drew.trans (Kept.dS hb6));have c6:=F6.BG;have c6': ∀ o,(w6.alloc o).cell? ⟨f,1,none⟩=some (.slice none 0 0):=fun o=>by rw [MO _ _ _ F6.lt];exact c6))
         all_goals
          go_wp2;go_ret;refine ay ⟨uh E,rfl,⟨Lv,.slice (some ⟨g5,0,none⟩) 1 cap5,?_,?_,fun g hg=>Nat.le_of_lt (JV g hg)⟩,?_⟩
          ·rw [uh Hrn];exact (F6.below ((bG _ _).alloc (aP _) (.cells (ig ⟨rn,0,[]⟩).toArray 132))).ag2 hgrow (Q:=[⟨rn,0,[]⟩]) hown5
          ·intro g' hg';simp only [Value.ownBlock,jv] at hg';have hs6:=K6.size;rcases hat with hx | hx
           ·cases hx
           ·omega
          ·exact ((K6.alloc _).grown hgrow (fun g hg=>by cases hg)).setCell (p:=⟨f,1,none⟩) (aA rfl) _
 ·have hbeq:((bJ ((cl file 0).take 4)).toList == [86,69,76,77])=false:=by
   rw [lI];intro e;apply hv;rw [show (bJ ((cl file 0).take 4)).toList=(cl file 0).take 4 by rw [ByteArray.toList_eq];rfl] at e;exact e
  have e:lQ file=false:=by rw [uh Pj,show decide ((cl file 0).take 4=yR)=false by simpa using hv];simp
  have E:=ah e;have H1:=ah hbelow;have H2:=ah hkept;clear e hbelow hkept;go_wp2;go_ret;exact aA ⟨uh E,rfl,uh H1,uh H2⟩
end Go.Proofs.YtknjjjenklfeoaaGreatDoor
