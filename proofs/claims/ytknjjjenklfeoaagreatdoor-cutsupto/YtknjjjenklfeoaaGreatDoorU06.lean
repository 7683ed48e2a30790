import Derived.Test.YtknjjjenklfeoaaGreatDoorU05
import Derived.Lib.EndianBits
set_option maxHeartbeats 8000000
set_option maxRecDepth 100000
set_option linter.all false
namespace Go.Proofs.YtknjjjenklfeoaaGreatDoor
open Go.RowKit
section
attribute [local go_sem ↓] apb
attribute [local go_sem] avi
def Kept.toBelow {S:Nat→Prop} {n:Nat} {w W b:World} (hk:Kept S W b) (hB:Below n w W) (hn:n≤W.heap.size) (c: ∀ k,S k→n≤k):Below n w b:=
 ⟨hk.os.trans hB.os,hk.tape.trans hB.tape,hk.output.trans hB.output,jL hB.size hk.size,fun k a=>(hk.block k (iL a hn) (fun x=>by have:=c k x;omega)).trans (hB.block k a)⟩
def arj {file:List aj} (h:mD file=true):6≤file.length∧file.length≤256∧7≤num (cl file 0) 4∧num (cl file 0) 4≤256∧file.length≤num (cl file 0) 4:=by
 simp only [mD,wI,decide_eq_true_eq] at h;omega
structure agD (W w':World) (f:Nat) (Lv Rv:Value) (R R':aU) (k:Nat):Prop where
 at':bY w' f Lv Rv R'
 kept:Kept (fun k=>k=f) W w'
 hL:R'.L=R.L
 hR:R'.roots=R.roots
 low:vk (1+2000*k) R'
 zF: ∀ i,i<k→rX R.L (rootOf R i).N
structure aoj (w w':World) (file:List aj) (Lv Rv:Value):Prop where
 at':bY w' w.heap.size Lv Rv (look file)
 below:aC w w'
 fresh: ∀ g,Lv.ownBlock=some g→w.heap.size≤g
def Pe (w:World) (U:Value) (file:List aj) (hf:kK w U file) (hlen:file.length≤1000):
  Calls Tryz.prog 41 #[U] w fun e s=>
   e= .returned (.pointer (some ⟨w.heap.size,0,none⟩))∧ ∃ Lv V,aoj w s file Lv V:=by
 have ax:bY (w.alloc (.cells (Eb (.slice none 0 0) (.slice none 0 0) R0).toArray 93)) w.heap.size (.slice none 0 0) (.slice none 0 0) R0:=
  ⟨aX _ _,wH _ _ _ _,wH _ _ _ _,by simp [R0,FX],by simp [R0,FX],by intro c hc;cases hc⟩
 have az:aC w (w.alloc (.cells (Eb (.slice none 0 0) (.slice none 0 0) R0).toArray 93)):=fC;have aD:kK (w.alloc (.cells (Eb (.slice none 0 0) (.slice none 0 0) R0).toArray 93)) U file:=hf.kept (S:=fun _=>False) ((Kept.refl _ _).alloc _) (fun _ _=>id);have aE:(w.alloc (.cells (Eb (.slice none 0 0) (.slice none 0 0) R0).toArray 93)).heap.size=w.heap.size+1:=sm;have Hh:=ah (ark _ w.heap.size U file R0 ax aD hlen);have ag:=ah az;have H:=ah aE;clear ax az aD aE
 go_enter Tryz.func41,Tryz.ntmps41
 go_wp2_with fail
 generalize w.alloc (.cells (Eb (.slice none 0 0) (.slice none 0 0) R0).toArray 93)=W at*;refine Hh.mono ?_;rintro e w1 (⟨z,rfl,t,I⟩ | ⟨z,rfl,⟨Lv,V,t,aL,aM⟩,I⟩)
 ·have hl:look file={ R0 with bad:=0 }:=by simp [look,z]
  have c1:=t.DX;have z1:=t.fz;have Hb:=ah (t.Sr 0);have HL:=ah hl;have HK:=ah I;clear z t I hl Hh;go_wp2;go_ret;refine ⟨rfl,_,_,by rw [uh HL];exact uh Hb,?_,fun g hg=>by cases hg⟩;exact (HK.setCell (p:=⟨w.heap.size,514,none⟩) (aA rfl) (.int .i64 0)).toBelow ag (by have:=uh H;omega) (fun k hk=>om)
 ·have X:Hid (∀ g,Lv.ownBlock=some g→w.heap.size≤g):=fun g hg=>by have:=aM g hg;have:=uh H;omega
  clear aM;have bR:=arj z;have aa:(gJ file).L.length=num (cl file 0) 4:=kL _ _;have bo:Hid (bY w1 w.heap.size Lv V (gJ file)):=t;have ai:=ah I;have aR:=ah aL;have TK:=ah (aso w1 w.heap.size Lv V (gJ file) t (by rw [aa];omega) rfl);have a0:look file=if (ji (gJ file)).1=false then { gJ file with roots:=(ji (gJ file)).2,bad:=5 }
    else if (iQ file).1=false then (iQ file).2
    else { (iQ file).2 with bad:=xO (iQ file).2 (iQ file).2.roots.length 0 (qB (iQ file).2 256 0) }:=by simp [look,z]
  have o:=ah a0;clear t I aL z a0 Hh
  go_wp2_with fail
  refine TK.mono ?_;rintro e w2 ⟨rfl,al,B,a1,QV⟩;have a3:aC w w2:=by
   refine a1.toBelow (ai.toBelow ag (by have:=uh H;omega) (fun k hk=>om)) (by have:=ai.size;have:=uh H;omega) (fun k hk=> ?_);rcases hk with x | x
   ·omega
   ·have:=uh aR k x;have:=uh H;omega
  have an:=ah a3;clear a3 a1 QV ai aR bo TK ag;cases hls:(ji (gJ file)).1 with
  | false=>
   rw [hls,au rfl] at o;have c1:=B.DX;have z1:=B.fz;have Hb:=ah (B.Sr 5);clear hls B;go_wp2;go_ret;refine ⟨rfl,_,_,by rw [uh o];exact uh Hb,?_,uh X⟩;exact an.setCell (p:=⟨w.heap.size,514,none⟩) (aO _) _
  | true=>
   rw [hls,ak dc] at o;clear hls;have a4:Hid (bY w2 w.heap.size Lv al { gJ file with roots:=(ji (gJ file)).2,used:=LM 0 }):=B;clear B;go_wp2
   go_loopw [5] (fun i s=> ∃ k:Nat,k≤6∧i= .int .i64 k∧bY s w.heap.size Lv al { gJ file with roots:=(ji (gJ file)).2,used:=LM k }∧aC w s) (fun i _=>6 - (intOf i).toNat)
   case atStart=>exact ⟨0,om,rfl,uh a4,uh an⟩
   case round=>
    obtain ⟨k,hk,rfl,d,hB⟩:=hrel;clear a4 an
    by_cases bp:k<6
    ·have cu:=d.Ud k om;have zu:=d.fz;have Hs:=ah (d.amd k 1 om);have j:=ah hB;clear d hB;go_wp2;go_roundw
     case rel=>
      refine ⟨k+1,om,gn,?_,j.setCell (p:=⟨w.heap.size,258+k,none⟩) (aO _) _⟩;rw [← aw5 k bp];exact uh Hs
     case measure=>exact bW
    ·have bq:k=6:=om;subst bq;have f:Hid (bY wr w.heap.size Lv al (qR file)):=d;have j:=ah hB;clear d hB;have ao:=aor file;have c1:=f.CV;obtain ⟨D,A,QV⟩:=gQ f.pG;have jF:(qR file).L.length≤256:=by show (gJ file).L.length≤256;rw [aa];omega
     have bs:5≤(qR file).L.length:=by show 5≤(gJ file).L.length;rw [aa];omega
     have a5:iQ file=BU (qR file).roots.length 0 (qR file):=rfl;have ab:vk 1 (qR file):=fun n=>aw4 6 n;have a6:=ah a5;have bt:=ah ao;have a7:=ah ab;clear a5 ab;generalize qR file=R2 at*;subst QV;have bS:=ao.2.2;clear ao;have EL:Hid (agD wr wr w.heap.size Lv (.slice D R2.roots.length A) R2 R2 0):=⟨uh f,Kept.refl _ _,rfl,rfl,uh a7,fun i hi=>om⟩;clear f a7 c1;have P:=j;clear j;go_wp2;generalize Value.int .i64 ((6:Nat):Int)=s5;generalize wr=W3 at*
     go_loopw [6] (fun i s=> ∃ (k:Nat) (R':aU),k≤R2.roots.length∧i= .int .i64 k∧agD W3 s w.heap.size Lv (.slice D R2.roots.length A) R2 R' k∧iQ file=BU (R2.roots.length - k) k R') (fun i _=>R2.roots.length - (intOf i).toNat)
     case atStart=>exact ⟨0,R2,om,rfl,uh EL,uh a6⟩
     case round=>
      obtain ⟨k,R',hk,rfl,a,he⟩:=hrel;have Y:=ah he;clear he EL a6;have c1:=a.at'.CV
      by_cases O:k<R2.roots.length
      ·have l:=a.at'.pG;rw [a.hR] at l;obtain ⟨g2,ad,K,_⟩:=gy l om;obtain ⟨rfl,rfl⟩:D=some ⟨g2,0,none⟩∧A=ad:=by injection K with x1 x2 x3;exact ⟨x1,x3⟩
       have r0:=yN l k O 0 om;have v:=yN l k O 1 om;have y:=yN l k O 2 om;have a8:rootOf R' k=rootOf R2 k:=by unfold rootOf;rw [a.hR]
       rw [show R2.roots.getD k ⟨0,0,[]⟩=rootOf R2 k from rfl] at r0 v y;simp only [iE,J6,Gg,jW] at r0 v y;have aq:=bt.1 _ (avb O);have Ap:=ah (awS wr w.heap.size Lv _ R' (rootOf R2 k) a.at' (by rw [a.hL];exact jF) aq.1 aq.2 (1+2000*k) om a.low);have bX:(k:Int)<(R2.roots.length:Int):=om;have a9:iQ file=if (tree R' (rootOf R2 k)).1 then BU (R2.roots.length - (k+1)) (k+1) (tree R' (rootOf R2 k)).2 else (false,(tree R' (rootOf R2 k)).2):=by
        rw [uh Y,show R2.roots.length - k=(R2.roots.length - (k+1))+1 by omega,BU,a8]
       have E:=ah a9;have F:=ah a;clear a9 a Y l K a8 aq;have ar:=fun h=>awU (R:=R') (r:=rootOf R2 k) h;rw [F.hL] at ar;have ba:=ah ar;clear ar;unfold iE at Ap
       go_wp2_with fail
       refine Ap.mono ?_;rintro e w4 ⟨rfl,Q⟩;clear Ap r0 v y c1;cases htt:(tree R' (rootOf R2 k)).1 with
       | false=>
        rw [htt] at E;have q:iQ file=(false,(tree R' (rootOf R2 k)).2):=uh E;rw [show (iQ file).1=false by rw [q],au rfl,show (iQ file).2=(tree R' (rootOf R2 k)).2 by rw [q]] at o;have u:=ah Q;clear htt E q Q;go_wp2;go_ret;refine ⟨rfl,_,_,by rw [uh o];exact u.at',?_,uh X⟩;exact (F.kept.trans u.kept).toBelow P P.size (fun k hk=>om)
       | true=>
        rw [htt] at E;have hi:=uh ba htt;have q:iQ file=BU (R2.roots.length - (k+1)) (k+1) (tree R' (rootOf R2 k)).2:=uh E;have HX:=ah q;have HI:=ah hi;have u:=ah Q;clear htt E q Q hi ba;go_wp2;go_roundw
        case rel=>
         refine ⟨k+1,(tree R' (rootOf R2 k)).2,om,gn,⟨u.at',F.kept.trans u.kept,u.hL.trans F.hL,u.hR.trans F.hR,u.low.mono om,fun i hi=> ?_⟩,uh HX⟩
         by_cases bw:i=k
         ·subst bw;exact uh HI
         ·exact F.zF i om
        case measure=>exact bW
      ·have bx:k=R2.roots.length:=om;have q:iQ file=(true,R'):=by rw [uh Y,bx,Bg];rfl
       rw [show (iQ file).1=true by rw [q],ak dc,show (iQ file).2=R' by rw [q]] at o;have ae:vk 100000 R':=a.low.mono om;have bA:R'.L.length≤256:=by rw [a.hL];exact jF
       have af:5≤R'.L.length:=by rw [a.hL];exact bs
       have bb: ∀ i,i<R'.roots.length→rX R'.L (rootOf R' i).N:=by
        intro i hi;rw [a.hR] at hi;rw [show rootOf R' i=rootOf R2 i by unfold rootOf;rw [a.hR],a.hL];exact a.zF i om
       have bB:=ah bb;have bd:aC w wr:=a.kept.toBelow P P.size (fun k hk=>om);have Hc:=ah (ap4 wr w.heap.size Lv _ R' a.at' af (ae.mono om));have bf:R'.roots.length=R2.roots.length:=by rw [a.hR]
       have f:=ah a.at';have bE:=ah bd;have cb:=a.at'.DX;have zb:=a.at'.fz;clear a q Y bb bd
       go_wp2_with fail
       refine Hc.mono ?_;rintro e w4 ⟨rfl,rfl⟩;have bh:=ah (f.Sr (qB R' 256 0));have bj:=ah (bE.setCell (p:=⟨w.heap.size,514,none⟩) (aO _) (.int .i64 (qB R' 256 0)));generalize bl:qB R' 256 0=Z at*;have b3:=ah bl;clear Hc bl;go_wp2;generalize Value.int .i64 (k:Int)=s6;have bm:xO R' R'.roots.length 0 Z=xO R' R2.roots.length 0 Z:=by rw [bf]
       rw [bm] at o;generalize hM:xO R' R2.roots.length 0 Z=M at o;have HM:=ah hM;clear hM bm cb f
       go_loopw [7] (fun i s=> ∃ (m:Nat) (b:Int),m≤R2.roots.length∧i= .int .i64 m∧bY s w.heap.size Lv (.slice D R2.roots.length A) { R' with bad:=b }∧aC w s∧xO R' (R2.roots.length - m) m b=M) (fun i _=>R2.roots.length - (intOf i).toNat)
       case atStart=>exact ⟨0,Z,om,rfl,uh bh,uh bj,uh HM⟩
       case round=>
        obtain ⟨m,b,hm,rfl,d,hB,hz⟩:=hrel;have Hz:=ah hz;clear hz HM bh bj;have c1:=d.CV;have cb:=d.DX;have zb:=d.fz
        by_cases bO:m<R2.roots.length
        ·have J:(if b<0 then xO R' (R2.roots.length - (m+1)) (m+1) (marked R' (rootOf R' m)).1 else b)=M:=by
          rw [← uh Hz,show R2.roots.length - m=(R2.roots.length - (m+1))+1 by omega,xO]
         have C:=ah J;clear J Hz
         by_cases av:b<0
         ·rw [au av] at C;have l:=d.pG;rw [show ({ R' with bad:=b }:aU).roots=R'.roots from rfl] at l;have G:wr.ownsRow 0 132 3 (.slice D R'.roots.length A) R'.roots.length (R'.roots.flatMap iE):=by rw [bf] at *;exact l
          obtain ⟨g2,ad,K,_⟩:=gy G om;obtain ⟨rfl,rfl⟩:D=some ⟨g2,0,none⟩∧A=ad:=by injection K with x1 x2 x3;exact ⟨x1,x3⟩
          have r0:=yN G m om 0 om;have v:=yN G m om 1 om;have y:=yN G m om 2 om;rw [show R'.roots.getD m ⟨0,0,[]⟩=rootOf R' m from rfl] at r0 v y;simp only [iE,J6,Gg,jW] at r0 v y;have uK:=ah (akq wr w.heap.size Lv _ { R' with bad:=b } (rootOf R' m) d bA af (uh bB m om) (ae.mono om));rw [asL] at uK;have Nc:(m:Int)<(R2.roots.length:Int):=om;have f:=ah d;have j:=ah hB;clear d hB l G K;unfold iE at uK
          go_wp2_with fail
          refine uK.mono ?_;rintro e w5 ⟨rfl,aw⟩;have T:=f.below aw;have b4:=T.DX;have b6:=T.fz;have bL:=ah (T.Sr (marked R' (rootOf R' m)).1);have bN:=ah ((j.trans (aw.mono j.size)).setCell (p:=⟨w.heap.size,514,none⟩) (aO _) (.int .i64 (marked R' (rootOf R' m)).1));clear uK aw T f j r0 v y c1 cb zb;generalize (marked R' (rootOf R' m)).1=b5 at*;generalize (marked R' (rootOf R' m)).2=q5 at*;go_wp2;go_roundw
          case rel=>exact ⟨m+1,b5,om,gn,uh bL,uh bN,uh C⟩
          case measure=>exact bW
         ·rw [ak av] at C;have db:decide (b<0)=false:=by simpa using av
          have f:=ah d;have j:=ah hB;clear d hB;go_wp2;go_ret;exact ⟨rfl,Lv,_,by rw [uh o,← uh C];exact uh f,uh j,uh X⟩
        ·have bn:m=R2.roots.length:=om;have J:b=M:=by rw [← uh Hz,bn,Bg];rfl
         have C:=ah J;have f:=ah d;have j:=ah hB;clear d hB J Hz bn;go_wp2;go_ret;exact ⟨rfl,Lv,_,by rw [uh o,← uh C];exact uh f,uh j,uh X⟩
end
structure kD where
 name:List UInt8
 C:List aj
structure dR where
 C:List aj
 L:List kD
def gu (p:kD):List Value:= .string (bM p.name) :: aS p.C
def wP (D:dR) (Pv:Value):List Value:=aS D.C++[Pv]
structure uJ (C:List aj):Prop where
 all:Gi C
 len:C.length=64
def uJ.flat {C:List aj} (h:uJ C):(aS C).length=4096:=by rw [zi C h.all,h.len]
structure fB (w:World) (d:Nat) (Pv:Value) (D:dR):Prop where
 aG:w.heap[d]? = some (.cells (wP D Pv).toArray 70 (0,0))
 row:w.ownsRow 0 139 4097 Pv D.L.length (D.L.flatMap gu)
 cont:uJ D.C
 zK: ∀ p ∈ D.L,uJ p.C
def fB.lt {w:World} {d:Nat} {Pv:Value} {D:dR} (h:fB w d Pv D):d<w.heap.size:=aK h.aG
def fB.xE {w:World} {d:Nat} {Pv:Value} {D:dR} (h:fB w d Pv D):w.cell? ⟨d,4096,none⟩=some Pv:=by
 rw [aF h.aG,bZ,wP,nP (by rw [h.cont.flat];omega),h.cont.flat];rfl
def fB.range {w:World} {d:Nat} {Pv:Value} {D:dR} (h:fB w d Pv D):w.rangeAt d 0 (aS D.C):=fun j v hv=>by
 have hj:=(Ia.1 hv).1;rw [rE,aF h.aG,bZ,wP,nV hj];exact hv
def fB.has {w:World} {d:Nat} {Pv:Value} {D:dR} (h:fB w d Pv D):dU w d 0 4096:=sU h.range h.cont.flat
def fB.cells {w:World} {d:Nat} {Pv:Value} {D:dR} (h:fB w d Pv D):dO w d 0 4096=aS D.C:=qU h.range h.cont.flat
def fB.neP {w:World} {d:Nat} {Pv:Value} {D:dR} (h:fB w d Pv D): ∀ g,Pv.ownBlock=some g→g≠d:=iF h.row h.aG dc
def fB.kept {w a:World} {d:Nat} {Pv:Value} {D:dR} {S:Nat→Prop} (h:fB w d Pv D) (hk:Kept S w a) (b: ¬ S d) (c: ∀ g,Pv.ownBlock=some g→ ¬ S g):fB a d Pv D:=
 ⟨hk.aG b h.aG,bV hk h.row c,h.cont,h.zK⟩
def fB.below {w a:World} {d:Nat} {Pv:Value} {D:dR} (h:fB w d Pv D) (b:aC w a):fB a d Pv D:=
 h.kept (S:=fun _=>False) (Kept.dQ b) id (fun _ _=>id)
def fB.drewN {w:World} {d:Nat} {Pv:Value} {D:dR} (h:fB w d Pv D) (n:Nat):fB (w.drewN n) d Pv D:=
 h.kept (S:=fun _=>False) ((Kept.refl _ _).drewN n) id (fun _ _=>id)
def abA (parts:Array (Nat × Value)):Sem Value:=Instr.build 70 parts
def OB (parts:Array (Nat × Value)):Instr.build 70 parts=abA parts:=rfl
def RZ {w:World} {C:List aj} (c:Gi C) (d:C.length=64):(abA #[(0,.agg (aS C).toArray)]).run Tryz.prog w= .ok (.agg (wP ⟨C,[]⟩ (.slice none 0 0)).toArray) w:=by
 have e:=(uZ (P:=Tryz.prog) (t:=70) (v:= .agg (wP ⟨zD,[]⟩ (.slice none 0 0)).toArray) (n:=4097) kr).1;have a:=(uJ.mk c d).flat;have b:=(uJ.mk (C:=zD) NV NW).flat;have f:Instr.fill (fun x=>(#[(0,4096),(4096,1)]:Array (Nat × Nat))[x]?) (aS zD++[Value.slice none 0 0]).toArray [(0,Value.agg (aS C).toArray)]=some (wP ⟨C,[]⟩ (.slice none 0 0)).toArray:=by
  rw [KO _ _ 0 0 4096 (.agg (aS C).toArray) [] (by rfl) (by simp [Value.cells,a]) (by simp [b]),Instr.fill,show (Value.agg (aS C).toArray).cells.toList=aS C from rfl,
   PN (aS zD) [Value.slice none 0 0] (aS C) (by rw [b,a])]
  rfl
 exact LH w 70 _ (.agg (wP ⟨zD,[]⟩ (.slice none 0 0)).toArray) #[(0,4096),(4096,1)] #[(0,.agg (aS C).toArray)] _ Tryz.underlying70 e (fun w=>kr) f
def abD (parts:Array (Nat × Value)):Sem Value:=Instr.build 139 parts
def Xv (parts:Array (Nat × Value)):Instr.build 139 parts=abD parts:=rfl
def Si {w:World} {nm:List UInt8} {C:List aj} (c:Gi C) (d:C.length=64):(abD #[(0,.string (bM nm)),(1,.agg (aS C).toArray)]).run Tryz.prog w= .ok (.agg (gu ⟨nm,C⟩).toArray) w:=by
 have e:=(uZ (P:=Tryz.prog) (t:=139) (v:= .agg (gu ⟨[],zD⟩).toArray) (n:=4097) kr).1;have a:=(uJ.mk c d).flat;have b:=(uJ.mk (C:=zD) NV NW).flat;have f:Instr.fill (fun x=>(#[(0,1),(1,4096)]:Array (Nat × Nat))[x]?) ([Value.string (bM [])]++aS zD).toArray [(0,Value.string (bM nm)),(1,Value.agg (aS C).toArray)]=some (gu ⟨nm,C⟩).toArray:=by
  rw [KO _ _ 0 0 1 (.string (bM nm)) _ (by rfl) (by rfl) sm,show (Value.string (bM nm)).cells.toList=[Value.string (bM nm)] from rfl,PN [Value.string (bM [])] (aS zD) [Value.string (bM nm)] rfl,
   KO _ _ 1 1 4096 (.agg (aS C).toArray) [] (by rfl) (by simp [Value.cells,a]) (by simp [b]),Instr.fill,show (Value.agg (aS C).toArray).cells.toList=aS C from rfl]
  have:=ZE [Value.string (bM nm)] (aS zD) (aS C) (by rw [b,a])
  rw [show ([Value.string (bM nm)]:List Value).length=1 from rfl] at this;rw [this];rfl
 exact LH w 139 _ (.agg (gu ⟨[],zD⟩).toArray) #[(0,1),(1,4096)] #[(0,.string (bM nm)),(1,.agg (aS C).toArray)] _ Tryz.underlying139 e (fun w=>kr) f
structure fZ where
 cl:Int
 data:aj
def bT (x:fZ):List Value:= .int .i64 x.cl :: cv x.data
def tN {x:fZ} (h:x.data.length=64):(bT x).length=65:=by simp [bT,bC,h]
def NU (x:fZ): ∀ v ∈ bT x,v.oneCell'=true:=by
 intro v hv;rcases cO.1 hv with h | h
 ·rw [h];rfl
 ·exact Au _ v h
def jg (l:List fZ):List Value:=l.flatMap bT
def rP (l:List fZ) (k:Nat):fZ:=l.getD k ⟨0,zc⟩
def Nb (l:List fZ) (b: ∀ x ∈ l,x.data.length=64):(jg l).length=l.length*65:=by
 induction l with
 | nil=>rfl
 | cons a r ih=>
  have d:=tN (b a sm);have e:=ih (fun c hc=>b c (by simp [hc]));simp only [jg,qx,oL,iO] at*;omega
def acI (l:List fZ) (b: ∀ x ∈ l,x.data.length=64) (k:Nat) (hk:k<l.length) (j:Nat) (hj:j<65):(jg l)[k*65+j]? = (bT (rP l k))[j]? := by
 induction l generalizing k with
 | nil=>simp at hk
 | cons a r ih=>
  have d:=tN (b a sm);cases k with
  | zero=>
   simp only [jg,qx,rP,EG,zS,rE];rw [nV om]
  | succ k=>
   have e:=ih (fun c hc=>b c (by simp [hc])) k (by simpa using hk);simp only [jg,qx,rP,J5] at*;rw [nP om,d,← e]
   congr 1
   omega
def aao {l:List fZ} {k:Nat} (hk:k<l.length):rP l k ∈ l:=by
 unfold rP;rw [aN,bJ hk];exact o9 hk
structure Io (w:World) (v:Value) (l:List fZ):Prop where
 row:w.ownsRow 0 104 65 v l.length (jg l)
 lens: ∀ x ∈ l,x.data.length=64
def Io.kept {w a:World} {S:Nat→Prop} {v:Value} {l:List fZ} (h:Io w v l) (hk:Kept S w a) (hs: ∀ g,v.ownBlock=some g→ ¬ S g):Io a v l:=⟨bV hk h.row hs,h.lens⟩
def Io.range {w:World} {g cap:Nat} {l:List fZ} (h:Io w (.slice (some ⟨g,0,none⟩) l.length cap) l) (k:Nat) (hk:k<l.length):w.rangeAt g (k*65) (bT (rP l k)):=by
 intro j v hv;have hj:j<65:=by
  have:=(Ia.1 hv).1
  rw [tN (h.lens _ (aao hk))] at this;exact this
 rw [h.row.cellAt (k*65+j) om,acI l h.lens k hk j hj];exact hv
def akb (a:Addr):Sem Value:=loadVar 104 a
def kV (a:Addr):loadVar 104 a=akb a:=rfl
def kZ {w:World} {b o:Nat} (h:dU w b o 65):(akb ⟨b,o,none⟩).run Tryz.prog w= .ok (.agg (dO w b o 65).toArray) w:=
 BQ h 104 _ Tryz.underlying104 rfl kr
def VY (a:Addr) (v:Value):Sem Unit:=storeVar 104 a v
def ng (a:Addr) (v:Value):storeVar 104 a v=VY a v:=rfl
def anv:Sem Value:=zeroValue 104
def nD:zeroValue 104=anv:=rfl
def mX (w:World):anv.run Tryz.prog w= .ok (.agg (bT ⟨0,zc⟩).toArray) w:=
 (uZ (P:=Tryz.prog) (t:=104) (v:= .agg (bT ⟨0,zc⟩).toArray) (n:=65) kr).1 w
def mV {w:World} {z x:fZ} (b:z.data.length=64) (a:x.data.length=64):
  (VY ⟨w.heap.size,0,none⟩ (.agg (bT x).toArray)).run Tryz.prog (w.alloc (.cells (bT z).toArray 104))= .ok () (w.alloc (.cells (bT x).toArray 104)):=
 Ic w 104 (bT z).toArray (bT x).toArray (by simp only [jm,tN a];kernel_rfl) (by simp [tN b,tN a]) (vU (NU x))
def Zq {w:World} {base g cap:Nat} {L:List aj} (h:w.ownsRow base 38 64 (.slice (some ⟨g,0,none⟩) L.length cap) L.length (aS L)) (b: ∀ c ∈ L,c.length=64) (k:Nat) (hk:k<L.length) (c:aj) (hc:c.length=64):
  (w.setCells g (k*64) (cv c)).ownsRow base 38 64 (.slice (some ⟨g,0,none⟩) L.length cap) (L.set k c).length (aS (L.set k c)):=by
 have f: ∀ x ∈ L.set k c,x.length=64:=by
  intro x m;rcases Oc m with y | y
  ·exact b x y
  ·rw [y];exact hc
 refine ⟨zi _ f,?_⟩;rcases h.2 with ⟨e,_⟩ | ⟨j,d,cur,e,n,o,hn,hm,hs,p⟩
 ·cases e
 ·obtain ⟨rfl,rfl⟩:j=g∧d=cap:=by injection e with a _ q;injection a with a;injection a with a;exact ⟨a.symm,q.symm⟩
  refine ay ⟨j,d,mY cur (k*64) (cv c),sm,n,KU _ _ _ _ _ _ _ o,by simpa using hn,hm,by rw [ZG];exact hs,?_⟩;have u:=zi L b;have r:=aeD L b k hk c hc;refine uY fun i=> ?_;rw [rV]
  by_cases hi:i<L.length*64
  ·rw [JY,au hi,aaA,Ey _ _ _ _ (by rw [bC,hc,hs];have:=Qb 64 hn;omega)];have l:(mY (aS L).toArray (k*64) (cv c))[i]? = (aS (L.set k c)).toArray[i]? := by rw [r]
   rw [Ey _ _ _ _ (by rw [bC,hc];simp;omega),bZ,bZ] at l;rw [← l];have s:cur[i]? = (aS L)[i]? := by rw [← p,JY,au hi,aaA]
   rw [s]
  ·have t:=zi _ f;rw [rV] at t;rw [eG (by rw [yg];omega),eG om]
def VL {w:World} {base g cap:Nat} {L:List aj} (h:w.ownsRow base 38 64 (.slice (some ⟨g,0,none⟩) L.length cap) L.length (aS L)) (k:Nat) (hk:k<L.length):w.there g (k*64) 64:=by
 rcases h.2 with ⟨e,_⟩ | ⟨c,b,cur,e,i,d,hn,hm,hs,j⟩
 ·cases e
 ·obtain ⟨rfl,rfl⟩:c=g∧b=cap:=by injection e with a _ f;injection a with a;injection a with a;exact ⟨a.symm,f.symm⟩
  exact iW d _ _ (by rw [hs];have:=Qb 64 hn;omega)
section
attribute [local go_sem ↓] dw fP fV kQ kV ng nD
attribute [local go_sem] dM fO fU gW gB aV kW kZ mX mV
def VQ:Value→Nat
 | .slice _ n _=>n
 | _=>0
def oW (l:List aj) (n:Nat):List aj:=l++List.replicate (n - l.length) zc
def FQ (l:List aj) (x:fZ):List aj:=if x.cl<0 then l else (oW l (x.cl.toNat+1)).set x.cl.toNat x.data
def replay (l:List aj) (log:List fZ):List aj:=log.foldl FQ l
def alS (w:World) (fv lv:Value) (file:List aj) (log:List fZ) (D:kK w fv file) (P:Io w lv log) (a0:file.length≤1000) (a9:log.length≤1000000000) (a1: ∀ x ∈ log,x.cl<1000):
  Calls Tryz.prog 61 #[fv,lv] w fun e q=> ∃ v,e= .returned v∧q.ownsRow w.heap.size 38 64 v (replay file log).length (aS (replay file log))∧(∀ c ∈ replay file log,c.length=64)∧aC w q:=by
 obtain ⟨fa,zh,rfl⟩:=gQ D.row;obtain ⟨la,jh,rfl⟩:=gQ P.row;obtain ⟨i0,ag,ai,al,an⟩:=qw Tryz.KY
 go_enter Tryz.func61,Tryz.ntmps61
 go_wp2
 go_loopw [5,6] (fun v i q=> ∃ k:Nat,k≤file.length∧i= .int .i64 k∧q.ownsRow w.heap.size 38 64 v k (aS (file.take k))∧aC w q) (fun _ i _=>file.length - (intOf i).toNat)
 case atStart=>exact ⟨0,om,rfl,wH _ _ _ _,bG _ _⟩
 case round=>
  obtain ⟨k,hk,rfl,b,f⟩:=hrel
  by_cases B:k<file.length
  ·have C:=D.kept (S:=fun _=>False) (Kept.dQ f) (fun _ _=>id);obtain ⟨g,T,E,_⟩:=gy D.row om;obtain ⟨rfl,rfl⟩:fa=some ⟨g,0,none⟩∧zh=T:=by injection E with F x2 G;exact ⟨F,G⟩
   have Z:=oQ C.row C.lens k B;have H:=oP C.row C.lens k B;have a2:=je D.lens B;have ba:(k:Int)<(file.length:Int):=om;have ht:file.take (k+1)=file.take k++[cl file k]:=by
    rw [x9 B];unfold cl;rw [aN,bJ B];rfl
   have Ht:=ah ht;have p:=ah b;have d:=ah f;clear ht b f C E;generalize cl file k=c at*
   go_wp2_with (at_builtin;refine yc _ rfl _ _ _ rfl w.heap.size 38 i0 _ 64 64 Tryz.underlying28 ag ai al an (by simp [Value.cells,bC,aV]) om u5 k (aS (file.take k)) rfl (p.alloc _) ⟨wr.heap.size,0,none⟩ 1 1 (cv c) rfl (by rw [bC,a2]) (pJ (cs:=(cv c).toArray) (t:=38) (fr:=(0,0)) (aX wr _)) (Au c) om (by unfold maxLen;omega) om (by have:=d.size;simp;omega) (wr.heap.size+1) sm ?_;intro g5 cap5 w5 R M ao uP)
   have S5:=ah ((d.alloc d.size (.cells (cv c).toArray 38)).grown M (by have:=d.size;simp;omega) (fun k hk=>(p.lt k hk).1));go_roundw
   case rel=>exact ⟨k+1,om,gn,by rw [uh Ht,QN];exact R,uh S5⟩
   case measure=>exact bW
  ·have GH:k=file.length:=om;have p:Hid (wr.ownsRow w.heap.size 38 64 u5 file.length (aS file)):=by rw [GH,H7] at b;exact b
   have d:=ah f;clear b f GH;go_wp2;generalize Value.int .i64 (k:Int)=s6
   go_loopw [5,7] (fun v i q=> ∃ (m:Nat) (l:List aj),m≤log.length∧i= .int .i64 m∧q.ownsRow w.heap.size 38 64 v l.length (aS l)∧(∀ c ∈ l,c.length=64)∧l.length≤1000∧aC w q∧replay l (log.drop m)=replay file log) (fun _ i _=>log.length - (intOf i).toNat)
   case atStart=>exact ⟨0,file,om,rfl,uh p,D.lens,a0,uh d,rfl⟩
   case round=>
    obtain ⟨m,l,hm,rfl,b,X,ab,f,he⟩:=hrel;have Q:=ah he;clear he p d
    by_cases z:m<log.length
    ·have Y:=P.kept (S:=fun _=>False) (Kept.dQ f) (fun _ _=>id);obtain ⟨g,T,E,_⟩:=gy P.row om;obtain ⟨rfl,rfl⟩:la=some ⟨g,0,none⟩∧jh=T:=by injection E with F x2 G;exact ⟨F,G⟩
     have U:=aao z;have s:=P.lens _ U;have ad:=a1 _ U;have Z:=sU (n:=65) (Y.range m z) (tN s);have H:=qU (n:=65) (Y.range m z) (tN s);have Nc:(m:Int)<(log.length:Int):=om;have aa:log.drop m=rP log m :: log.drop (m+1):=by
      rw [LU z];unfold rP;rw [aN,bJ z];rfl
     have aq:replay (FQ l (rP log m)) (log.drop (m+1))=replay file log:=by rw [← uh Q,aa];rfl
     have I:=ah aq;have p:=ah b;have d:=ah f;clear aq b f Y E U aa Q;generalize rP log m=x at*;have y0:(wr.alloc (.cells (bT x).toArray 104)).cell? ⟨wr.heap.size,0,none⟩=some (.int .i64 x.cl):=by rw [wM];rfl
     by_cases A:x.cl<0
     ·have dn:decide (x.cl<0)=true:=by simpa using A
      rw [show FQ l x=l by simp [FQ,A]] at I;go_wp2;go_roundw
      case rel=>exact ⟨m+1,l,om,gn,p.alloc _,X,ab,d.alloc d.size _,uh I⟩
      case measure=>exact bW
     ·have dn:decide (x.cl<0)=false:=by simpa using A
      obtain ⟨o,O⟩:=Cj (show 0≤x.cl by omega);have ar:FQ l x=(oW l (o+1)).set o x.data:=by unfold FQ;rw [ak A,O];rfl
      rw [ar] at I;rw [O] at y0 dn ad;have r:(wr.alloc (.cells (bT x).toArray 104)).heap[wr.heap.size]? = some (.cells (bT x).toArray 104 (0,0)):=aX _ _;have J:=ah r;have av:=ah (d.alloc d.size (.cells (bT x).toArray 104));have aw:=ah (p.alloc (.cells (bT x).toArray 104));have bb:=d.size;have a3:Hid (∀ g,u5.ownBlock=some g→g<wr.heap.size):=fun g K=>(p.lt g K).2;have a4:=ah O;clear ar O A r d p;go_wp2;clear Z H y0;generalize wr.alloc (.cells (bT x).toArray 104)=W at*;generalize wr.heap.size=u at*
      go_loopw [5] (fun v q=> ∃ n:Nat,l.length+n≤max l.length (o+1)∧q.ownsRow w.heap.size 38 64 v (l++List.replicate n zc).length (aS (l++List.replicate n zc))∧q.heap[u]? = some (.cells (bT x).toArray 104 (0,0))∧(∀ g,v.ownBlock=some g→g≠u)∧aC w q) (fun v _=>o+1 - VQ v)
      case atStart=>
       refine ⟨0,om,by simpa using uh aw,uh J,fun g K e=> ?_,uh av⟩
       have:=uh a3 g K
       omega
      case round=>
       obtain ⟨n,hn,b,r,V,f⟩:=hrel;clear aw J av;rw [oL,Ai] at b;obtain ⟨a,cap,hv⟩:=gQ b;subst hv;have z0:wr.cell? ⟨u,0,none⟩=some (.int .i64 (o:Int)):=by rw [aF r,← uh a4];rfl
       have L: ∀ c ∈ l++List.replicate n zc,c.length=64:=by
        intro c hc;rcases fK.1 hc with h | h
        ·exact X c h
        ·rw [Mc h];exact aV
       by_cases hle:l.length+n≤o
       ·have dl:decide (((l.length+n:Nat):Int)≤(o:Int))=true:=by simp;omega
        have ae:l++List.replicate (n+1) zc=(l++List.replicate n zc)++[zc]:=by rw [LV,tV]
        have ax:=ah ae;have p:=ah b;have J:=ah r;have d:=ah f;have az:=ah V;have TK:=ah L;clear ae b r f V L;generalize aD:l++List.replicate n zc=H at*
        go_wp2_with (at_builtin;refine yc _ rfl _ _ _ rfl w.heap.size 38 i0 _ 64 64 Tryz.underlying28 ag ai al an (by simp [Value.cells,bC,aV]) om (.slice a (l.length+n) cap) (l.length+n) (aS H) rfl (p.alloc _) ⟨wr.heap.size,0,none⟩ 1 1 (cv zc) rfl (by rw [bC,aV]) (pJ (cs:=(cv zc).toArray) (t:=38) (fr:=(0,0)) (aX wr _)) (Au zc) om (by unfold maxLen;omega) om (by have:=d.size;simp;omega) (wr.heap.size+1) sm ?_;intro g5 cap5 w5 R M ao uP)
        have bd:=d.size;have a5:=aK J;have S1:=ah ((d.alloc d.size (.cells (cv zc).toArray 38)).grown M (by simp;omega) (fun k hk=>(p.lt k hk).1));have S2:=ah (qW M (show (wr.alloc (.cells (cv zc).toArray 38)).heap[u]? = some (.cells (bT x).toArray 104 (0,0)) from (jX _ _ _ a5).trans J) (fun k hk=>uh az k hk));have S3:Hid (∀ g,(Value.slice (some ⟨g5,0,none⟩) (l.length+n+1) cap5).ownBlock=some g→g≠u):=fun g K e=>by
         simp only [Value.ownBlock,jH] at K;rcases ao with h | h
         ·exact uh az g5 h om
         ·omega
        go_roundw
        case rel=>
         refine ⟨n+1,om,?_,uh S2,uh S3,uh S1⟩;rw [uh ax,QN,oL,← aD,oL,Ai,aD];exact R
        case measure=>simp [VQ];omega
       ·have dl:decide (((l.length+n:Nat):Int)≤(o:Int))=false:=by simp;omega
        have aE:oW l (o+1)=l++List.replicate n zc:=by
         unfold oW
         congr 2
         omega
        rw [aE] at I;obtain ⟨g,aL,e3,a8⟩:=gy b om;obtain ⟨rfl,rfl⟩:a=some ⟨g,0,none⟩∧cap=aL:=by injection e3 with F x2 G;exact ⟨F,G⟩
        have N:(l++List.replicate n zc).length=l.length+n:=sm;rw [← N] at b;have af:o<(l++List.replicate n zc).length:=by rw [N];omega
        have th:=VL b o af;have Js:=ah (Zq b L o af x.data s);have k1:wr.rangeAt u 1 (cv x.data):=fun j v hv=>by
         rw [aF r,bZ,Ci];exact hv
        have Z:=sU (n:=64) k1 (by rw [bC,s]);have H:=qU (n:=64) k1 (by rw [bC,s]);have a6:w.heap.size≤g:=(b.lt g rfl).1;have HB:=ah (below_setCells f a6 (o*64) (cv x.data));have aM: ∀ c ∈ (l++List.replicate n zc).set o x.data,c.length=64:=by
         intro c hc;rcases Oc hc with y | y
         ·exact L c y
         ·rw [y];exact s
        have a7:=ah aM;have bf:(o:Int)<((l.length+n:Nat):Int):=om;rw [N] at Js;clear b r V f L k1 aE e3 aM;go_wp2;go_roundw
        case rel=>
         refine ⟨m+1,(l++List.replicate n zc).set o x.data,om,gn,?_,uh a7,by rw [rV,N];omega,uh HB,uh I⟩;exact uh Js
        case measure=>exact bW
    ·have aR:m=log.length:=om;have hx:l=replay file log:=by rw [← uh Q,aR,aaB];rfl
     have Hx:=ah hx;have p:=ah b;have d:=ah f;clear hx b f Q aR;go_wp2;go_ret;exact ⟨u5,rfl,by rw [← uh Hx];exact uh p,by rw [← uh Hx];exact X,uh d⟩
end
def uG (L:List fZ):Nat→Nat
 | 0=>0
 | k+1=>if (rP L k).cl<0 then k+1 else uG L k
def adh (L:List fZ): ∀ k,uG L k≤k
 | 0=>aO _
 | k+1=>by
  have:=adh L k
  unfold uG
  split <;> omega
def Bv (last gn:Nat) (gs:Nat→Bool) (i:Nat):Bool:=decide (last≤i) && (decide (0<gn) && gs ((i - last)%gn))
structure MF (w:World) (a:Option Addr) (n:Nat) (gs:Nat→Bool):Prop where
 some:0<n→ ∃ g o,a=some ⟨g,o,none⟩∧g<w.heap.size∧ ∀ i,i<n→w.cell? ⟨g,o+i,none⟩=some (.bool (gs i))
def MF.below {w b:World} {a:Option Addr} {n:Nat} {gs:Nat→Bool} (h:MF w a n gs) (c:aC w b):MF b a n gs:=by
 refine ⟨fun h0=> ?_⟩;obtain ⟨g,o,e,d,hr⟩:=h.some h0;exact ⟨g,o,e,iL d c.size,fun i hi=>(Md (c.block _ d)).trans (hr i hi)⟩
section
attribute [local go_sem ↓] dw fP fV kU mZ nC jR kP kJ kF lG lI kR
attribute [local go_sem] dM fO fU gW gB aV kY mP mW mQ mO gX jT kN kH lq kX iM kG lu lD lC kM
def atM (a b:Nat) (c:a<256) (d:b<256):bits .or .u16 ((a:Int)*256) (b:Int)=((256*a+b:Nat):Int):=by
 rw [bits_join .u16 16 dc wraps_u16 8 ((a:Int)*256) (b:Int) om om om om om om];omega
def atN (n:Nat) (hn:n<32768):bits .or .u16 (n:Int) 32768=((n+32768:Nat):Int):=by
 rw [bits_join_low .u16 16 dc wraps_u16 15 (n:Int) 32768 om om om om om om];omega
def agI (n:Nat) (hn:n<65536):bits .andNot .u16 (n:Int) 32768=((n%32768:Nat):Int):=by
 have h:bits .andNot .u16 (n:Int) 32768=bits .and .u16 (n:Int) 32767:=by
  simp only [bits];rw [show ~~~(BitVec.ofInt IntKind.u16.bits 32768)=BitVec.ofInt IntKind.u16.bits 32767 from by decide]
 rw [h,show (32767:Int)=2 ^ 15 - 1 by decide,bits_mask .u16 16 dc wraps_u16 15 dc (n:Int) om om];omega
def aou (n:Nat) (hn:n<65536):bits .and .u16 (n:Int) 32768=if 32768≤n then 32768 else 0:=by
 have h:=(bits_nat .u16 16 dc wraps_u16 n 32768 hn dc).1;rw [show ((32768:Nat):Int)=32768 from rfl] at h;rw [h];have key:n &&& 2 ^ 15=if 32768≤n then 2 ^ 15 else 0:=by
  refine Nat.eq_of_testBit_eq fun i=> ?_;rw [Nat.testBit_and,Nat.testBit_two_pow]
  by_cases hi:15=i
  ·subst hi;rw [dZ rfl,aaz,Nat.testBit_eq_decide_div_mod_eq];split
   ·rw [show n / 2 ^ 15=1 by omega];decide
   ·rw [show n / 2 ^ 15=0 by omega];decide
  ·rw [gK hi,SQ];split
   ·rw [Nat.testBit_two_pow,gK hi]
   ·simp
 rw [show (32768:Nat)=2 ^ 15 from rfl,key]
 split <;> rfl
def RD (c:List UInt8) (at':Int) (w:World) (hc:c.length=64) (h0:0≤at') (b:at'<63):
  Calls Tryz.prog 149 #[.agg (cv c).toArray,.int .i64 at'] w fun e a=>e= .returned (.int .u16 (num c at'.toNat:Nat))∧aC w a:=by
 obtain ⟨n,rfl⟩:=Cj h0;have b1:=uy c n;have b2:=uy c (n+1);have d:(w.alloc (.cells (cv c).toArray 38)).cell? ⟨w.heap.size,n,none⟩=some (.int .u8 (aI c n:Nat)):=by
  rw [wM,bZ,vG];omega
 have f:(w.alloc (.cells (cv c).toArray 38)).cell? ⟨w.heap.size,n+1,none⟩=some (.int .u8 (aI c (n+1):Nat)):=by
  rw [wM,bZ,vG];omega
 go_enter Tryz.func149,Tryz.ntmps149
 go_wp2
 go_quiet (fail)
 go_wp2;go_ret;refine ⟨?_,?_⟩
 ·exact VJ (atM _ _ b1 b2)
 ·exact (((Kept.refl (fun _=>False) w).alloc _).drewN _).below
def YL (n:Nat) (hn:n<65536) (w:World):Calls Tryz.prog 105 #[.int .u16 (n:Nat)] w fun e a=>e= .returned (.bool (decide (32768≤n)))∧a=w:=by
 go_enter Tryz.func105,Tryz.ntmps105
 go_wp2;go_ret;refine ⟨?_,rfl⟩;rw [show bits BinOp.and IntKind.u16 (n:Int) 32768=_ from aou n hn]
 by_cases h:32768≤n
 ·rw [au h,dZ h];rfl
 ·rw [ak h,gK h];rfl
def CW (n:Nat) (hn:n<65536) (w:World):Calls Tryz.prog 108 #[.int .u16 (n:Nat)] w fun e a=>e= .returned (.int .i64 ((n%32768:Nat):Int))∧a=w:=by
 go_enter Tryz.func108,Tryz.ntmps108
 go_wp2;go_ret;refine ⟨?_,rfl⟩;rw [show bits BinOp.andNot IntKind.u16 (n:Int) 32768=_ from agI n hn];exact VJ (IntWalk.wrap64_in _ om)
def Y9 (n:Nat) (hn:n<32768) (w:World):Calls Tryz.prog 161 #[.int .i64 (n:Nat)] w fun e a=>e= .returned (.int .u16 ((n+32768:Nat):Int))∧a=w:=by
 go_enter Tryz.func161,Tryz.ntmps161
 go_wp2;go_ret;refine ⟨?_,rfl⟩;exact VJ (atN n hn)
end
end Go.Proofs.YtknjjjenklfeoaaGreatDoor
