import Derived.Test.YtknjjjenklfeoaaGreatDoorO07
set_option maxHeartbeats 8000000
set_option maxRecDepth 100000
set_option linter.all false
namespace Go.Proofs.YtknjjjenklfeoaaGreatDoor
open Go.RowKit
structure iU where
 cl:Int
 data:aj
def bM (x:iU):List Value:= .int .i64 x.cl :: cv x.data
theorem uF {x:iU} (h:x.data.length=64):(bM x).length=65:=by simp [bM,bg,h]
theorem OE (x:iU): ∀ v ∈ bM x,v.oneCell'=true:=by
 intro v hv;rcases dD.1 hv with h | h
 ·rw [h];rfl
 ·exact zJ _ v h
def iY (l:List iU):List Value:=l.flatMap bM
def CG (l:List iU) (k:Nat):iU:=l.getD k ⟨0,zc⟩
theorem Nw (l:List iU) (hl: ∀ x ∈ l,x.data.length=64):(iY l).length=l.length*65:=by
 induction l with
 | nil=>rfl
 | cons a r ih=>
  have h1:=uF (hl a sm);have h2:=ih (fun c hc=>hl c (by simp [hc]));simp only [iY,qA,oO,iQ] at*;omega
theorem aa7 (l:List iU) (hl: ∀ x ∈ l,x.data.length=64) (k:Nat) (hk:k<l.length) (j:Nat) (hj:j<65):(iY l)[k*65+j]? = (bM (CG l k))[j]? := by
 induction l generalizing k with
 | nil=>simp at hk
 | cons a r ih=>
  have h1:=uF (hl a sm);cases k with
  | zero=>
   simp only [iY,qA,CG,DF,yV,qR];rw [oJ om]
  | succ k=>
   have h2:=ih (fun c hc=>hl c (by simp [hc])) k (by simpa using hk);simp only [iY,qA,CG,Jt] at*;rw [nP om,h1,← h2]
   congr 1
   omega
theorem ak7 {l:List iU} {k:Nat} (hk:k<l.length):CG l k ∈ l:=by
 unfold CG;rw [aK,bI hk];exact oP hk
structure Le (w:World) (v:Value) (l:List iU):Prop where
 row:w.ownsRow 0 104 65 v l.length (iY l)
 lens: ∀ x ∈ l,x.data.length=64
theorem Le.kept {w w':World} {S:Nat→Prop} {v:Value} {l:List iU} (h:Le w v l) (hk:Kept S w w') (hs: ∀ g,v.ownBlock=some g→ ¬ S g):Le w' v l:=⟨bQ hk h.row hs,h.lens⟩
theorem Le.range {w:World} {g cap:Nat} {l:List iU} (h:Le w (.slice (some ⟨g,0,none⟩) l.length cap) l) (k:Nat) (hk:k<l.length):w.rangeAt g (k*65) (bM (CG l k)):=by
 intro j v hv;have hj:j<65:=by
  have:=(FW.1 hv).1
  rw [uF (h.lens _ (ak7 hk))] at this;exact this
 rw [h.row.cellAt (k*65+j) om,aa7 l h.lens k hk j hj];exact hv
def aio (a:Addr):Sem Value:=loadVar 104 a
theorem kT (a:Addr):loadVar 104 a=aio a:=rfl
theorem kY {w:World} {b o:Nat} (h:dN w b o 65):(aio ⟨b,o,none⟩).run Tryz.prog w= .ok (.agg (dI w b o 65).toArray) w:=
 AX h 104 _ Tryz.underlying104 rfl kr
def UG (a:Addr) (v:Value):Sem Unit:=storeVar 104 a v
theorem mQ (a:Addr) (v:Value):storeVar 104 a v=UG a v:=rfl
def alq:Sem Value:=zeroValue 104
theorem mW:zeroValue 104=alq:=rfl
theorem mO (w:World):alq.run Tryz.prog w= .ok (.agg (bM ⟨0,zc⟩).toArray) w:=
 (uI (P:=Tryz.prog) (t:=104) (v:= .agg (bM ⟨0,zc⟩).toArray) (n:=65) kr).1 w
theorem lT {w:World} {z x:iU} (hz:z.data.length=64) (hx:x.data.length=64):
  (UG ⟨w.heap.size,0,none⟩ (.agg (bM x).toArray)).run Tryz.prog (w.alloc (.cells (bM z).toArray 104))= .ok () (w.alloc (.cells (bM x).toArray 104)):=
 FY w 104 (bM z).toArray (bM x).toArray (by simp only [iR,uF hx];kernel_rfl) (by simp [uF hz,uF hx]) (vg (OE x))
theorem Yc {w:World} {base g cap:Nat} {L:List aj} (h:w.ownsRow base 38 64 (.slice (some ⟨g,0,none⟩) L.length cap) L.length (aQ L)) (hl: ∀ c ∈ L,c.length=64) (k:Nat) (hk:k<L.length) (c:aj) (hc:c.length=64):
  (w.setCells g (k*64) (cv c)).ownsRow base 38 64 (.slice (some ⟨g,0,none⟩) L.length cap) (L.set k c).length (aQ (L.set k c)):=by
 have hl': ∀ x ∈ L.set k c,x.length=64:=by
  intro x hx;rcases MR hx with y | y
  ·exact hl x y
  ·rw [y];exact hc
 refine ⟨yC _ hl',?_⟩;rcases h.2 with ⟨e,_⟩ | ⟨g',cap',cur,e,hb,hh,hn,hm,hs,ht⟩
 ·cases e
 ·obtain ⟨rfl,rfl⟩:g'=g∧cap'=cap:=by injection e with x1 _ x3;injection x1 with x1;injection x1 with x1;exact ⟨x1.symm,x3.symm⟩
  refine ay ⟨g',cap',lU cur (k*64) (cv c),sm,hb,JY _ _ _ _ _ _ _ hh,by simpa using hn,hm,by rw [Yq];exact hs,?_⟩;have hfl:=yC L hl;have e2:=acZ L hl k hk c hc;refine uH fun i=> ?_;rw [rG]
  by_cases hi:i<L.length*64
  ·rw [Jp,au hi,Zc,DC _ _ _ _ (by rw [bg,hc,hs];have:=OJ 64 hn;omega)];have e3:(lU (aQ L).toArray (k*64) (cv c))[i]? = (aQ (L.set k c)).toArray[i]? := by rw [e2]
   rw [DC _ _ _ _ (by rw [bg,hc];simp;omega),bW,bW] at e3;rw [← e3];have e4:cur[i]? = (aQ L)[i]? := by rw [← ht,Jp,au hi,Zc]
   rw [e4]
  ·have IK:=yC _ hl';rw [rG] at IK;rw [eu (by rw [xu];omega),eu om]
theorem Uw {w:World} {base g cap:Nat} {L:List aj} (h:w.ownsRow base 38 64 (.slice (some ⟨g,0,none⟩) L.length cap) L.length (aQ L)) (k:Nat) (hk:k<L.length):w.there g (k*64) 64:=by
 rcases h.2 with ⟨e,_⟩ | ⟨g',cap',cur,e,hb,hh,hn,hm,hs,ht⟩
 ·cases e
 ·obtain ⟨rfl,rfl⟩:g'=g∧cap'=cap:=by injection e with x1 _ x3;injection x1 with x1;injection x1 with x1;exact ⟨x1.symm,x3.symm⟩
  exact iI hh _ _ (by rw [hs];have:=OJ 64 hn;omega)
section
attribute [local go_sem ↓] dw fP fZ ku kT mQ mW
attribute [local go_sem] dK fO fV gK gy aV kG kY mO lT
def UA:Value→Nat
 | .slice _ n _=>n
 | _=>0
def oW (l:List aj) (n:Nat):List aj:=l++List.replicate (n - l.length) zc
def I7 (l:List aj) (x:iU):List aj:=if x.cl<0 then l else (oW l (x.cl.toNat+1)).set x.cl.toNat x.data
def replay (l:List aj) (log:List iU):List aj:=log.foldl I7 l
theorem asG (w:World) (fv lv:Value) (file:List aj) (log:List iU) (hf:lK w fv file) (hl:Le w lv log) (hfl:file.length≤1000) (hll:log.length≤1000000000) (hcl: ∀ x ∈ log,x.cl<1000):
  Calls Tryz.prog 61 #[fv,lv] w fun e w'=> ∃ v,e= .returned v∧w'.ownsRow w.heap.size 38 64 v (replay file log).length (aQ (replay file log))∧(∀ c ∈ replay file log,c.length=64)∧aC w w':=by
 obtain ⟨fa,yB,rfl⟩:=iq hf.row;obtain ⟨la,jq,rfl⟩:=iq hl.row;obtain ⟨i0,hi0,hz0,hz1,hz2⟩:=qy Tryz.J4
 go_enter Tryz.func61,Tryz.ntmps61
 go_wp2
 go_loopw [5,6] (fun v i w'=> ∃ k:Nat,k≤file.length∧i= .int .i64 k∧w'.ownsRow w.heap.size 38 64 v k (aQ (file.take k))∧aC w w') (fun _ i _=>file.length - (intOf i).toNat)
 case atStart=>exact ⟨0,om,rfl,wF _ _ _ _,bG _ _⟩
 case round=>
  obtain ⟨k,hk,rfl,hrow,hb⟩:=hrel
  by_cases hlt:k<file.length
  ·have hfk:=hf.kept (S:=fun _=>False) (Kept.dS hb) (fun _ _=>id);obtain ⟨g,cap2,e2,_⟩:=gB hf.row om;obtain ⟨rfl,rfl⟩:fa=some ⟨g,0,none⟩∧yB=cap2:=by injection e2 with x1 x2 x3;exact ⟨x1,x3⟩
   have l1:=oI hfk.row hfk.lens k hlt;have l2:=oH hfk.row hfk.lens k hlt;have hcc:=iM hf.lens hlt;have hki:(k:Int)<(file.length:Int):=om;have ht:file.take (k+1)=file.take k++[cl file k]:=by
    rw [yU hlt];unfold cl;rw [aK,bI hlt];rfl
   have Ht:=ah ht;have fA:=ah hrow;have Hb:=ah hb;clear ht hrow hb hfk e2;generalize cl file k=c at*
   go_wp2_with (at_builtin;refine xZ _ rfl _ _ _ rfl w.heap.size 38 i0 _ 64 64 Tryz.underlying28 hi0 hz0 hz1 hz2 (by simp [Value.cells,bg,aV]) om u5 k (aQ (file.take k)) rfl (fA.alloc _) ⟨wr.heap.size,0,none⟩ 1 1 (cv c) rfl (by rw [bg,hcc]) (pU (cs:=(cv c).toArray) (t:=38) (fr:=(0,0)) (aW wr _)) (zJ c) om (by unfold maxLen;omega) om (by have:=Hb.size;simp;omega) (wr.heap.size+1) sm ?_;intro g5 cap5 w5 hown5 hgrow hat uP)
   have S5:=ah ((Hb.alloc Hb.size (.cells (cv c).toArray 38)).grown hgrow (by have:=Hb.size;simp;omega) (fun k hk=>(fA.lt k hk).1));go_roundw
   case rel=>exact ⟨k+1,om,gn,by rw [uh Ht,PS];exact hown5,uh S5⟩
   case measure=>exact cO
  ·have Fq:k=file.length:=om;have fA:Hid (wr.ownsRow w.heap.size 38 64 u5 file.length (aQ file)):=by rw [Fq,Ij] at hrow;exact hrow
   have Hb:=ah hb;clear hrow hb Fq;go_wp2;generalize Value.int .i64 (k:Int)=s6
   go_loopw [5,7] (fun v i w'=> ∃ (m:Nat) (l:List aj),m≤log.length∧i= .int .i64 m∧w'.ownsRow w.heap.size 38 64 v l.length (aQ l)∧(∀ c ∈ l,c.length=64)∧l.length≤1000∧aC w w'∧replay l (log.drop m)=replay file log) (fun _ i _=>log.length - (intOf i).toNat)
   case atStart=>exact ⟨0,file,om,rfl,uh fA,hf.lens,hfl,uh Hb,rfl⟩
   case round=>
    obtain ⟨m,l,hm,rfl,hrow,hls,hl1000,hb,he⟩:=hrel;have He:=ah he;clear he fA Hb
    by_cases hlt2:m<log.length
    ·have hlk:=hl.kept (S:=fun _=>False) (Kept.dS hb) (fun _ _=>id);obtain ⟨g,cap2,e2,_⟩:=gB hl.row om;obtain ⟨rfl,rfl⟩:la=some ⟨g,0,none⟩∧jq=cap2:=by injection e2 with x1 x2 x3;exact ⟨x1,x3⟩
     have hmem:=ak7 hlt2;have hdl:=hl.lens _ hmem;have hc1000:=hcl _ hmem;have l1:=sV (n:=65) (hlk.range m hlt2) (uF hdl);have l2:=qX (n:=65) (hlk.range m hlt2) (uF hdl);have TJ:(m:Int)<(log.length:Int):=om;have hdrop:log.drop m=CG log m :: log.drop (m+1):=by
      rw [KO hlt2];unfold CG;rw [aK,bI hlt2];rfl
     have hnx:replay (I7 l (CG log m)) (log.drop (m+1))=replay file log:=by rw [← uh He,hdrop];rfl
     have RQ:=ah hnx;have fA:=ah hrow;have Hb:=ah hb;clear hnx hrow hb hlk e2 hmem hdrop He;generalize CG log m=x at*;have y0:(wr.alloc (.cells (bM x).toArray 104)).cell? ⟨wr.heap.size,0,none⟩=some (.int .i64 x.cl):=by rw [vX];rfl
     by_cases hneg:x.cl<0
     ·have dn:decide (x.cl<0)=true:=by simpa using hneg
      rw [show I7 l x=l by simp [I7,hneg]] at RQ;go_wp2;go_roundw
      case rel=>exact ⟨m+1,l,om,gn,fA.alloc _,hls,hl1000,Hb.alloc Hb.size _,uh RQ⟩
      case measure=>exact cO
     ·have dn:decide (x.cl<0)=false:=by simpa using hneg
      obtain ⟨cx,hcx⟩:=CP (show 0≤x.cl by omega);have hrp:I7 l x=(oW l (cx+1)).set cx x.data:=by unfold I7;rw [ak hneg,hcx];rfl
      rw [hrp] at RQ;rw [hcx] at y0 dn hc1000;have hbx:(wr.alloc (.cells (bM x).toArray 104)).heap[wr.heap.size]? = some (.cells (bM x).toArray 104 (0,0)):=aW _ _;have pz:=ah hbx;have HbW:=ah (Hb.alloc Hb.size (.cells (bM x).toArray 104));have aeO:=ah (fA.alloc (.cells (bM x).toArray 104));have hws:=Hb.size;have alD:Hid (∀ g,u5.ownBlock=some g→g<wr.heap.size):=fun g hg=>(fA.lt g hg).2;have Hcx:=ah hcx;clear hrp hcx hneg hbx Hb fA;go_wp2;clear l1 l2 y0;generalize wr.alloc (.cells (bM x).toArray 104)=W at*;generalize wr.heap.size=bx at*
      go_loopw [5] (fun v w'=> ∃ n:Nat,l.length+n≤max l.length (cx+1)∧w'.ownsRow w.heap.size 38 64 v (l++List.replicate n zc).length (aQ (l++List.replicate n zc))∧w'.heap[bx]? = some (.cells (bM x).toArray 104 (0,0))∧(∀ g,v.ownBlock=some g→g≠bx)∧aC w w') (fun v _=>cx+1 - UA v)
      case atStart=>
       refine ⟨0,om,by simpa using uh aeO,uh pz,fun g hg e=> ?_,uh HbW⟩
       have:=uh alD g hg
       omega
      case round=>
       obtain ⟨n,hn,hrow,hbx,hown,hb⟩:=hrel;clear aeO pz HbW;rw [oO,zy] at hrow;obtain ⟨a,cap,hv⟩:=iq hrow;subst hv;have z0:wr.cell? ⟨bx,0,none⟩=some (.int .i64 (cx:Int)):=by rw [aG hbx,← uh Hcx];rfl
       have TI: ∀ c ∈ l++List.replicate n zc,c.length=64:=by
        intro c hc;rcases gq.1 hc with h | h
        ·exact hls c h
        ·rw [KT h];exact aV
       by_cases hle:l.length+n≤cx
       ·have dl:decide (((l.length+n:Nat):Int)≤(cx:Int))=true:=by simp;omega
        have hrep:l++List.replicate (n+1) zc=(l++List.replicate n zc)++[zc]:=by rw [KP,uG]
        have Hrep:=ah hrep;have fA:=ah hrow;have pz:=ah hbx;have Hb:=ah hb;have aeM:=ah hown;have RP:=ah TI;clear hrep hrow hbx hb hown TI;generalize hlr:l++List.replicate n zc=l2 at*
        go_wp2_with (at_builtin;refine xZ _ rfl _ _ _ rfl w.heap.size 38 i0 _ 64 64 Tryz.underlying28 hi0 hz0 hz1 hz2 (by simp [Value.cells,bg,aV]) om (.slice a (l.length+n) cap) (l.length+n) (aQ l2) rfl (fA.alloc _) ⟨wr.heap.size,0,none⟩ 1 1 (cv zc) rfl (by rw [bg,aV]) (pU (cs:=(cv zc).toArray) (t:=38) (fr:=(0,0)) (aW wr _)) (zJ zc) om (by unfold maxLen;omega) om (by have:=Hb.size;simp;omega) (wr.heap.size+1) sm ?_;intro g5 cap5 w5 hown5 hgrow hat uP)
        have hsz:=Hb.size;have ao5:=aO pz;have S1:=ah ((Hb.alloc Hb.size (.cells (cv zc).toArray 38)).grown hgrow (by simp;omega) (fun k hk=>(fA.lt k hk).1));have S2:=ah (qH hgrow (show (wr.alloc (.cells (cv zc).toArray 38)).heap[bx]? = some (.cells (bM x).toArray 104 (0,0)) from (jE _ _ _ ao5).trans pz) (fun k hk=>uh aeM k hk));have S3:Hid (∀ g,(Value.slice (some ⟨g5,0,none⟩) (l.length+n+1) cap5).ownBlock=some g→g≠bx):=fun g hg e=>by
         simp only [Value.ownBlock,jv] at hg;rcases hat with h | h
         ·exact uh aeM g5 h om
         ·omega
        go_roundw
        case rel=>
         refine ⟨n+1,om,?_,uh S2,uh S3,uh S1⟩;rw [uh Hrep,PS,oO,← hlr,oO,zy,hlr];exact hown5
        case measure=>simp [UA];omega
       ·have dl:decide (((l.length+n:Nat):Int)≤(cx:Int))=false:=by simp;omega
        have hg1:oW l (cx+1)=l++List.replicate n zc:=by
         unfold oW
         congr 2
         omega
        rw [hg1] at RQ;obtain ⟨g,cap',e3,hcap⟩:=gB hrow om;obtain ⟨rfl,rfl⟩:a=some ⟨g,0,none⟩∧cap=cap':=by injection e3 with x1 x2 x3;exact ⟨x1,x3⟩
        have hlen':(l++List.replicate n zc).length=l.length+n:=sm;rw [← hlen'] at hrow;have hlt3:cx<(l++List.replicate n zc).length:=by rw [hlen'];omega
        have th:=Uw hrow cx hlt3;have Iw:=ah (Yc hrow TI cx hlt3 x.data hdl);have k1:wr.rangeAt bx 1 (cv x.data):=fun j v hv=>by
         rw [aG hbx,bW,Bh];exact hv
        have l1:=sV (n:=64) k1 (by rw [bg,hdl]);have l2:=qX (n:=64) k1 (by rw [bg,hdl]);have hgb:w.heap.size≤g:=(hrow.lt g rfl).1;have HB:=ah (below_setCells hb hgb (cx*64) (cv x.data));have ahE: ∀ c ∈ (l++List.replicate n zc).set cx x.data,c.length=64:=by
         intro c hc;rcases MR hc with y | y
         ·exact TI c y
         ·rw [y];exact hdl
        have alY:=ah ahE;have avI:(cx:Int)<((l.length+n:Nat):Int):=om;rw [hlen'] at Iw;clear hrow hbx hown hb TI k1 hg1 e3 ahE;go_wp2;go_roundw
        case rel=>
         refine ⟨m+1,(l++List.replicate n zc).set cx x.data,om,gn,?_,uh alY,by rw [rG,hlen'];omega,uh HB,uh RQ⟩;exact uh Iw
        case measure=>exact cO
    ·have hml:m=log.length:=om;have hx:l=replay file log:=by rw [← uh He,hml,Zd];rfl
     have Hx:=ah hx;have fA:=ah hrow;have Hb:=ah hb;clear hx hrow hb He hml;go_wp2;go_ret;exact ⟨u5,rfl,by rw [← uh Hx];exact uh fA,by rw [← uh Hx];exact hls,uh Hb⟩
end
section
attribute [local go_sem ↓] dw fP fZ jG
attribute [local go_sem] dK fO fV aV
theorem Dp (n:Int) (w:World):Calls Tryz.prog 64 #[.int .i64 n] w fun e w'=>e= .returned (.int .i64 n)∧w'=w:=by
 go_enter Tryz.func64,Tryz.ntmps64
 go_wp2;go_ret;exact ⟨rfl,rfl⟩
structure Gm (w w':World) (z c:aj):Prop where
 below:aC w w'
 one:w'.heap[w.heap.size]? = some (.cells (cv z).toArray 38 (0,0))
 two:w'.heap[w.heap.size+1]? = some (.cells (cv c).toArray 38 (0,0))
theorem Gm.start (w:World):Gm w ((w.alloc (.cells (cv zc).toArray 38)).alloc (.cells (cv zc).toArray 38)) zc zc:=by
 refine ⟨(fC).alloc sm _,?_,?_⟩
 ·rw [jE _ _ _ sm];exact aW _ _
 ·have:=aW (w.alloc (.cells (cv zc).toArray 38)) (.cells (cv zc).toArray 38)
  simpa using this
theorem aaN (c:aj) (i:Nat) (b:UInt8):(cv c).set i (.int .u8 (b.toNat:Int))=cv (c.set i b):=by simp [cv,MV]
theorem Gm.set {w w':World} {z c:aj} (h:Gm w w' z c) (i:Nat) (b:UInt8):Gm w (w'.setCell ⟨w.heap.size+1,i,none⟩ (.int .u8 (b.toNat:Int))) z (c.set i b):=
 ⟨h.below.setCell sm _,by rw [Ry _ _ _ _ sm];exact h.one,by rw [heap_setCell_same _ _ _ _ _ _ _ h.two,Af,aaN]⟩
def JK (l:List UInt8) (k:Nat):aj:=l.take k++List.replicate (64 - k) 0
def EZ (l:List UInt8):aj:=JK l (min l.length 64)
theorem VU (l:List UInt8) (k:Nat) (h:k≤l.length) (h2:k≤64):(JK l k).length=64:=by simp [JK];omega
theorem anJ (l:List UInt8) (k:Nat) (h:k<l.length) (h2:k<64):(JK l k).set k (l.getD k 0)=JK l (k+1):=by
 unfold JK;rw [Jv _ _ (by simp;omega),xu,show k - min k l.length=0 by omega,show 64 - k=(64 - (k+1))+1 by omega,UU,nK,yU h,uG];rw [aK,bI h];rfl
theorem Gm.back {w w':World} {z c:aj} (h:Gm w w' z c) (hz:z.length=64) (hc:c.length=64):
  w'.there w.heap.size 0 64∧dN w' (w.heap.size+1) 0 64∧dI w' (w.heap.size+1) 0 64=cv c∧dN (w'.setCells w.heap.size 0 (cv c)) w.heap.size 0 64∧dI (w'.setCells w.heap.size 0 (cv c)) w.heap.size 0 64=cv c∧aC w (w'.setCells w.heap.size 0 (cv c)):=by
 have hs:=Nr h.one hz hc;exact ⟨iI h.one _ _ (by simp [bg,hz]),gZ h.two hc,gY h.two hc,gZ hs hc,gY hs hc,below_setCells h.below (aP _) _ _⟩
theorem afP (s:ByteArray) (w:World) (hs:s.size≤maxLen):
  Calls Tryz.prog 45 #[.string s] w fun e w'=>e= .returned (.agg (cv (EZ s.data.toList)).toArray)∧aC w w':=by
 unfold maxLen at hs;have hlen:s.data.toList.length=s.size:=by rw [UR];rfl
 have BA:Hid (EZ s.data.toList=JK s.data.toList (min s.size 64)):=by unfold EZ;rw [hlen];rfl
 have T0:=ah (Gm.start w);have Hlen:=ah hlen;clear hlen
 go_enter Tryz.func45,Tryz.ntmps45
 go_wp2
 go_loopw [4] (fun i w'=> ∃ k:Nat,k≤s.size∧k≤64∧i= .int .i64 k∧Gm w w' zc (JK s.data.toList k)) (fun i _=>64 - (intOf i).toNat)
 case atStart=>exact ⟨0,om,om,rfl,uh T0⟩
 case round=>
  obtain ⟨k,hk,hk64,rfl,ht⟩:=hrel;clear T0
  by_cases hlt:k<s.size∧k<64
  ·obtain ⟨h1,h2⟩:=hlt;have hl:=VU s.data.toList k (by rw [uh Hlen];omega) om;have cb:=Lp ht.two k om;have zb:=eG ht.two k;have hget:s.data.toList.getD k 0=s[k]:=by
    rw [aK,bI (by rw [uh Hlen];exact h1)];rfl
   have hset:=ht.set k s[k];rw [← hget,anJ _ _ (by rw [uh Hlen];exact h1) h2,hget] at hset;have HS:=ah hset;clear ht hset hget hl;go_wp2;go_roundw
   case rel=>exact ⟨k+1,om,om,gn,uh HS⟩
   case measure=>exact cO
  ·have hkm:k=min s.size 64:=om;have hl:=VU s.data.toList k (by rw [uh Hlen];omega) om;rw [← hkm] at BA;obtain ⟨b1,b2,b3,b4,b5,b6⟩:=ht.back aV hl;have HB:=ah b6;clear ht b6 hkm;generalize JK s.data.toList k=c at*
   by_cases h1:k<s.size
   ·have h64: ¬ (k:Int)<64:=om;go_wp2;rw [uh BA];exact gV (v:= .agg (cv c).toArray) (qK Tryz.results45 ⟨w.heap.size,0,none⟩ rfl (by rw [dw,dK b4,b5])) rfl ⟨rfl,uh HB⟩
   ·go_wp2;rw [uh BA];exact gV (v:= .agg (cv c).toArray) (qK Tryz.results45 ⟨w.heap.size,0,none⟩ rfl (by rw [dw,dK b4,b5])) rfl ⟨rfl,uh HB⟩
theorem akA (L:List aj) (k:Nat) (h:k<L.length):L.take (k+1)=L.take k++[cl L k]:=by
 rw [yU h];unfold cl;rw [aK,bI h];rfl
theorem ath (w:World) (av bv:Value) (A B:List aj) (hA:lK w av A) (hB:lK w bv B) (hAl:A.length≤100000) (hBl:B.length≤100000):
  Calls Tryz.prog 60 #[av,bv] w fun e w'=>e= .returned (.bool (decide (A=B)))∧aC w w':=by
 obtain ⟨aa,amh,rfl⟩:=iq hA.row;obtain ⟨ba,afd,rfl⟩:=iq hB.row;have hAi:(A.length:Int)≤100000:=om;have hBi:(B.length:Int)≤100000:=om
 by_cases hlen:A.length=B.length
 ·have dl:((A.length:Int) != (B.length:Int))=false:=by rw [adP];omega
  have Hlen:=ah hlen;clear hlen
  go_enter Tryz.func60,Tryz.ntmps60
  go_wp2
  go_loopw [5] (fun i w'=> ∃ k:Nat,k≤A.length∧i= .int .i64 k∧aC w w'∧A.take k=B.take k) (fun i _=>A.length - (intOf i).toNat)
  case atStart=>exact ⟨0,om,rfl,bG _ _,rfl⟩
  case round=>
   obtain ⟨k,hk,rfl,hb,ht⟩:=hrel;have Ht:=ah ht;have Hb:=ah hb;have hA':=hA.kept (S:=fun _=>False) (Kept.dS hb) (fun _ _=>id);have hB':=hB.kept (S:=fun _=>False) (Kept.dS hb) (fun _ _=>id);clear ht hb
   by_cases hlt:k<A.length
   ·have WT:k<B.length:=by rw [← uh Hlen];exact hlt
    obtain ⟨g,cap2,e2,_⟩:=gB hA.row om;obtain ⟨rfl,rfl⟩:aa=some ⟨g,0,none⟩∧amh=cap2:=by injection e2 with x1 x2 x3;exact ⟨x1,x3⟩
    obtain ⟨g',cap3,e3,_⟩:=gB hB.row om;obtain ⟨rfl,rfl⟩:ba=some ⟨g',0,none⟩∧afd=cap3:=by injection e3 with x1 x2 x3;exact ⟨x1,x3⟩
    have l1: ∀ n,dN (wr.drewN n) g (k*64) 64:=fun n=>oI hA'.row hA'.lens k hlt;have l2: ∀ n,dI (wr.drewN n) g (k*64) 64=cv (cl A k):=fun n=>oH hA'.row hA'.lens k hlt;have l3: ∀ n,dN (wr.drewN n) g' (k*64) 64:=fun n=>oI hB'.row hB'.lens k WT;have l4: ∀ n,dI (wr.drewN n) g' (k*64) 64=cv (cl B k):=fun n=>oH hB'.row hB'.lens k WT;have hca:=iM hA.lens hlt;have hcb:=iM hB.lens WT;have he:=wE hca hcb;have hki:(k:Int)<(A.length:Int):=om;have hkj:(k:Int)<(B.length:Int):=om;have ZM:=ah (akA A k hlt);have ZN:=ah (akA B k WT);clear e2 e3 hA' hB'
    by_cases hcc:cl A k=cl B k
    ·rw [eH hcc] at he;have Hn:Hid (A.take (k+1)=B.take (k+1)):=by
      have h1:=uh ZM;have h2:=uh ZN;have h3:=uh Ht;rw [h3,hcc,← h2] at h1;exact h1
     clear hcc ZM ZN;go_wp2
     go_quiet (fail)
     go_wp2;go_roundw
     case rel=>exact ⟨k+1,om,gn,Hb.trans ((((Kept.refl (fun _=>False) wr).drewN nq).below).mono Hb.size),uh Hn⟩
     case measure=>exact cO
    ·rw [gU hcc] at he;have Hn:Hid (decide (A=B)=false):=by
      refine gU ?_;intro e;exact hcc (by rw [e])
     clear hcc ZM ZN;go_wp2
     go_quiet (fail)
     go_wp2;go_ret;exact ⟨by rw [uh Hn];rfl,Hb.trans ((((Kept.refl (fun _=>False) wr).drewN nq).below).mono Hb.size)⟩
   ·have hx:A=B:=by
     have h:=uh Ht;have hkA:k=A.length:=om;rw [hkA,Ij,uh Hlen,Ij] at h;exact h
    have Hn:Hid (decide (A=B)=true):=eH hx;clear hx;go_wp2;go_ret;exact ⟨by rw [uh Hn];rfl,uh Hb⟩
 ·have dl:((A.length:Int) != (B.length:Int))=true:=by rw [nR];omega
  have Hn:Hid (decide (A=B)=false):=gU (fun e=>hlen (by rw [e]));clear hlen
  go_enter Tryz.func60,Tryz.ntmps60
  go_wp2;go_ret;exact ⟨by rw [uh Hn];rfl,bG _ _⟩
def dR (m:UInt8):aj:=(zc.set 0 m).set 63 (m ^^^ 85)
theorem BX (m:UInt8):(dR m).length=64:=by simp [dR,aV]
theorem amX (m:UInt8):bits BinOp.xor IntKind.u8 (m.toNat:Int) 85=((m ^^^ 85).toNat:Int):=by
 have h: ∀ n:Fin 256,bits BinOp.xor IntKind.u8 ((n.val:Nat):Int) 85=(((UInt8.ofNat n.val) ^^^ 85).toNat:Int):=by decide +kernel
 have:=h ⟨m.toNat,m.toNat_lt⟩
 simpa using this
theorem J5 (m:UInt8) (w:World):
  Calls Tryz.prog 68 #[.int .u8 (m.toNat:Int)] w fun e w'=>e= .returned (.agg (cv (dR m)).toArray)∧aC w w':=by
 have t0:=Gm.start w;have c0:=Lp t0.two 0 (by rw [aV];omega);have hm0:(cv zc).set 0 (.int .u8 (m.toNat:Int))=cv (zc.set 0 m):=aaN zc 0 m;have hm1:((cv zc).set 0 (.int .u8 (m.toNat:Int))).set 63 (.int .u8 (bits BinOp.xor IntKind.u8 (m.toNat:Int) 85))=cv (dR m):=by rw [hm0,amX,aaN];rfl
 have t2:Gm w ((w.alloc (.cells (cv zc).toArray 38)).alloc (.cells (cv (dR m)).toArray 38)) zc (dR m):=by
  refine ⟨(fC).alloc sm _,?_,?_⟩
  ·rw [jE _ _ _ sm];exact aW _ _
  ·have:=aW (w.alloc (.cells (cv zc).toArray 38)) (.cells (cv (dR m)).toArray 38)
   simpa using this
 obtain ⟨b1,b2,b3,b4,b5,b6⟩:=t2.back aV (BX m);have hml:=BX m;have HB:=ah b6;clear t0 t2 b6 hm0
 go_enter Tryz.func68,Tryz.ntmps68
 go_wp2;exact gV (v:= .agg (cv (dR m)).toArray) (qK Tryz.results68 ⟨w.heap.size,0,none⟩ rfl (by rw [dw,dK b4,b5])) rfl ⟨rfl,uh HB⟩
end
section
variable {P:Program} (w:World)
theorem amj (t ty:TypeId) (base:Nat) (e:TypeId) (i:TypeInfo) (z:Value) (size bytes:Nat) (ht:P.underlying t=some (.slice e)) (hi:P.info? e=some i) (hz:i.zero=some z)
  (hsize:i.size=size) (hby:i.bytes=bytes) (v:Value) (n:Nat) (xs:List Value) (hown:w.ownsRow base e size v n xs)
  (ad:Addr) (m c:Nat) (news:List Value) (hl:news.length=m*size) (hnews: ∀ j u,news[j]? = some u→w.cell? (ad.add j)=some u) (h1: ∀ u ∈ news,u.oneCell'=true)
  (hm:0<m) (h63:n+m≤maxLen) (hbytes:(n+m)*bytes≤140737488355328) (g cap:Nat) (w':World)
  (hr:(Builtin.append_ #[t,t] ty #[v,.slice (some ad) m c]).run P w= .ok (.slice (some ⟨g,0,none⟩) (n+m) cap) w') (hg:w.grownBy w' v.ownBlock):
  (v= .slice (some ⟨g,0,none⟩) n cap∧w.grownBy w' (some g))∨(g=w.heap.size∧w.grownBy w' none):=by
 subst hsize;subst hby;have hsmall:n+m≤9223372036854775807:=by simp only [maxLen] at h63;omega
 rcases hown.2 with ⟨rfl,rfl⟩ | ⟨g0,cap0,cur,rfl,hb,hh,hn,hc,hs,htk⟩
 ·have hr2:=run_append_nil (P:=P) w t ty e i z ht hi hz ad m c news hl hnews om om (by have hb:=hbytes;simp only [qR] at hb;omega);rw [hr2] at hr;injection hr with e1 e2;injection e1 with e1 _ _;injection e1 with e1;injection e1 with e1 _ _;refine ay ⟨e1.symm,?_⟩;rw [← e2];exact ⟨rfl,rfl,rfl,sm,fun k hk _=>jE w.drew _ k hk⟩
 ·by_cases hroom:n+m≤cap0
  ·have hfit:n*i.size+news.length≤cur.size:=by rw [hl,hs,← Nat.add_mul];exact OJ _ hroom
   have hr2:=run_append_room (P:=P) w t ty e i ht hi g0 n cap0 cur hh ad m c news hl hnews h1 hroom hfit;rw [hr2] at hr;injection hr with e1 _;injection e1 with e1 _ e3;injection e1 with e1;injection e1 with e1 _ _;subst e1;subst e3;exact aA ⟨rfl,hg⟩
  ·have hr2:=run_append_grow (P:=P) w t ty e i z ht hi hz ⟨g0,0,none⟩ n cap0 xs hown.1 (hown.cells (g:=g0) rfl) ad m c news hl hnews om om (growslice_fits om hbytes);rw [hr2] at hr;injection hr with e1 e2;injection e1 with e1 _ _;injection e1 with e1;injection e1 with e1 _ _;refine ay ⟨e1.symm,?_⟩;rw [← e2];exact ⟨rfl,rfl,rfl,sm,fun k hk _=>jE w.drew _ k hk⟩
theorem ava {o:Oper} {a:Act} {K:Act→World→Prop} {Q:Exit→Act→World→Prop} (s x:Operand) (t:TypeId)
  (ho:o.op= .call { callee:= .builtin .append,args:= #[s,x],argTypes:= #[t,t] })
  (base:Nat) (e:TypeId) (i:TypeInfo) (z:Value) (size bytes:Nat) (ht:P.underlying t=some (.slice e)) (hi:P.info? e=some i) (hz:i.zero=some z)
  (hsize:i.size=size) (hby:i.bytes=bytes) (hzs:z.cells.size=size) (hsz:0<size)
  (v:Value) (n:Nat) (xs:List Value) (hs:a.eval s=v) (hown:w.ownsRow base e size v n xs)
  (ad:Addr) (m c:Nat) (news:List Value) (hx:a.eval x= .slice (some ad) m c) (hl:news.length=m*size) (hnews: ∀ j u,news[j]? = some u→w.cell? (ad.add j)=some u) (h1: ∀ u ∈ news,u.oneCell'=true)
  (hm:0<m) (h63:n+m≤maxLen) (hbytes:(n+m)*bytes≤140737488355328) (hbase:base≤w.heap.size) (H:Nat) (hH:w.heap.size=H)
  (h: ∀ g cap w',w'.ownsRow base e size (.slice (some ⟨g,0,none⟩) (n+m) cap) (n+m) (xs++news)→((v= .slice (some ⟨g,0,none⟩) n cap∧w.grownBy w' (some g))∨(g=H∧w.grownBy w' none))→g<w'.heap.size→K (a.put o.dst (.slice (some ⟨g,0,none⟩) (n+m) cap)) w'):o.wp P a w K Q:=by
 obtain ⟨g,cap,w',hr,h2,h3,h4,h5⟩:=run_append_lies (P:=P) w t o.type base e i z size bytes ht hi hz hsize hby hzs hsz v n xs hown ad m c news hl hnews h1 hm h63 hbytes hbase H hH;have hw:=amj w t o.type base e i z size bytes ht hi hz hsize hby v n xs hown ad m c news hl hnews h1 hm h63 hbytes g cap w' hr h3;rw [hH] at hw;unfold Oper.wp execOp;simp only [ho,resolve,invoke,builtin,jh,yX,rQ,List.map_toArray,jC,KN,hs,hx,hr];exact h g cap w' h2 hw h5
theorem OD {ops:Array Oper} {rest:List Oper} {o:Oper} {a:Act} {Q:Exit→Act→World→Prop} (hgd:o.guard=none) (s x:Operand) (t:TypeId)
  (ho:o.op= .call { callee:= .builtin .append,args:= #[s,x],argTypes:= #[t,t] })
  (base:Nat) (e:TypeId) (i:TypeInfo) (z:Value) (size bytes:Nat) (ht:P.underlying t=some (.slice e)) (hi:P.info? e=some i) (hz:i.zero=some z)
  (hsize:i.size=size) (hby:i.bytes=bytes) (hzs:z.cells.size=size) (hsz:0<size)
  (v:Value) (n:Nat) (xs:List Value) (hs:a.eval s=v) (hown:w.ownsRow base e size v n xs)
  (ad:Addr) (m c:Nat) (news:List Value) (hx:a.eval x= .slice (some ad) m c) (hl:news.length=m*size) (hnews: ∀ j u,news[j]? = some u→w.cell? (ad.add j)=some u) (h1: ∀ u ∈ news,u.oneCell'=true)
  (hm:0<m) (h63:n+m≤maxLen) (hbytes:(n+m)*bytes≤140737488355328) (hbase:base≤w.heap.size) (H:Nat) (hH:w.heap.size=H)
  (h: ∀ g cap w',w'.ownsRow base e size (.slice (some ⟨g,0,none⟩) (n+m) cap) (n+m) (xs++news)→((v= .slice (some ⟨g,0,none⟩) n cap∧w.grownBy w' (some g))∨(g=H∧w.grownBy w' none))→g<w'.heap.size→wpList P ops Q rest (a.put o.dst (.slice (some ⟨g,0,none⟩) (n+m) cap)) w'):wpList P ops Q (o :: rest) a w:=
 wpList_plain hgd fun _ hK=>ava w s x t ho base e i z size bytes ht hi hz hsize hby hzs hsz v n xs hs hown ad m c news hx hl hnews h1 hm h63 hbytes hbase H hH fun g cap w' h2 h3 h5=>hK _ _ (h g cap w' h2 h3 h5)
theorem Uu {w:World} {base g cap n m:Nat} {e:TypeId} {size:Nat} {xs news:List Value} (h:w.ownsRow base e size (.slice (some ⟨g,0,none⟩) (n+m) cap) (n+m) (xs++news)) (hx:xs.length=n*size):
  w.ownsRow base e size (.slice (some ⟨g,0,none⟩) n cap) n xs:=by
 refine ⟨hx,?_⟩;rcases h.2 with ⟨e0,_⟩ | ⟨g',cap',cur,e0,hb,hh,hn,hm,hs,ht⟩
 ·cases e0
 ·injection e0 with e1 _ e3;injection e1 with e1;injection e1 with e1 _ _;subst e1;subst e3;refine ay ⟨g,cap,cur,rfl,hb,hh,om,hm,hs,?_⟩
  have:cur.toList.take (n*size)=(cur.toList.take ((n+m)*size)).take (n*size):=by
   rw [List.take_take,Rh (OJ _ om)]
  rw [this,ht,← hx,adQ]
theorem Oi {w w':World} {base g cap n m:Nat} {e:TypeId} {size:Nat} {v:Value} {xs news:List Value} (h:w.ownsRow base e size v n xs) (h':w'.ownsRow base e size (.slice (some ⟨g,0,none⟩) (n+m) cap) (n+m) (xs++news))
  {H:Nat} (hw:(v= .slice (some ⟨g,0,none⟩) n cap∧w.grownBy w' (some g))∨(g=H∧w.grownBy w' none)):w'.ownsRow base e size v n xs:=by
 rcases hw with ⟨rfl,_⟩ | ⟨_,hg⟩
 ·exact Uu h' h.1
 ·obtain ⟨h1,h2⟩:=h;refine ⟨h1,?_⟩;rcases h2 with h2 | ⟨g',cap',cur,rfl,hb,hh,r⟩
  ·exact aA h2
  ·exact ay ⟨g',cap',cur,rfl,hb,by rw [hg.block g' (aO hh) sm];exact hh,r⟩
theorem CZ {w w':World} {g cap n H:Nat} {v:Value} (hw:(v= .slice (some ⟨g,0,none⟩) n cap∧w.grownBy w' (some g))∨(g=H∧w.grownBy w' none)):Kept (fun k=>v.ownBlock=some k) w w':=by
 rcases hw with ⟨rfl,hg⟩ | ⟨_,hg⟩
 ·exact ⟨hg.os,hg.tape,hg.output,hg.size,fun k hk hs=>hg.block k hk (fun e=>hs e.symm)⟩
 ·exact ⟨hg.os,hg.tape,hg.output,hg.size,fun k hk _=>hg.block k hk sm⟩
end
structure Vm where
 v:Value
 n:Nat
 m:UInt8
structure VG where
 v:Value
 n:Nat
 m:Int
structure ZU where
 v:Value
 n:Nat
 s:ByteArray
structure lX where
 names:List ZU
 files:List Vm
 writes:List VG
 next:Nat
structure ou where
 n:Value
 nm:Value
 f:Value
 fm:Value
 w:Value
 wm:Value
def yw (V:ou) (next:Nat):List Value:=[V.n,V.nm,V.f,V.fm,V.w,V.wm,.int .i64 next]
def agt (x:Vm):List Value:=aQ (List.replicate x.n (dR x.m))
def agv (x:VG):List Value:=iY (List.replicate x.n ⟨x.m,zc⟩)
def agu (x:ZU):List Value:=List.replicate x.n (.string x.s)
structure iK (w:World) (b:Nat) (V:ou) (B:lX) (S:Nat→Prop):Prop where
 aF:w.heap[b]? = some (.cells (yw V B.next).toArray 77 (0,0))
 rN:w.ownsRow 0 34 1 V.n B.names.length (B.names.map (·.v))
 uw:w.ownsRow 0 9 1 V.nm B.names.length (B.names.map fun x=> .string x.s)
 rF:w.ownsRow 0 28 1 V.f B.files.length (B.files.map (·.v))
 wY:w.ownsRow 0 5 1 V.fm B.files.length (B.files.map fun x=> .int .u8 (x.m.toNat:Int))
 rW:w.ownsRow 0 58 1 V.w B.writes.length (B.writes.map (·.v))
 wZ:w.ownsRow 0 3 1 V.wm B.writes.length (B.writes.map fun x=> .int .i64 x.m)
 eN: ∀ x ∈ B.names,w.ownsRow 0 9 1 x.v x.n (agu x)
 eF: ∀ x ∈ B.files,w.ownsRow 0 38 64 x.v x.n (agt x)
 eW: ∀ x ∈ B.writes,w.ownsRow 0 104 65 x.v x.n (agv x)
 apart: ∀ x ∈ B.names,∀ g,x.v.ownBlock=some g→V.nm.ownBlock≠some g
 zO:S b
 iC: ∀ g,(V.n.ownBlock=some g∨V.nm.ownBlock=some g∨V.f.ownBlock=some g∨V.fm.ownBlock=some g∨V.w.ownBlock=some g∨V.wm.ownBlock=some g)→S g
 GX: ∀ x ∈ B.names,∀ g,x.v.ownBlock=some g→S g
 GV: ∀ x ∈ B.files,∀ g,x.v.ownBlock=some g→S g
 GY: ∀ x ∈ B.writes,∀ g,x.v.ownBlock=some g→S g
 lt: ∀ k,S k→k<w.heap.size
theorem iK.kept {w w':World} {b:Nat} {V:ou} {B:lX} {S T:Nat→Prop} (h:iK w b V B S) (hk:Kept T w w') (hd: ∀ k,S k→ ¬ T k):iK w' b V B S where
 aF:=hk.aF (hd b h.zO) h.aF
 rN:=bQ hk h.rN fun g hg=>hd g (h.iC g (aA hg))
 uw:=bQ hk h.uw fun g hg=>hd g (h.iC g (ay (aA hg)))
 rF:=bQ hk h.rF fun g hg=>hd g (h.iC g (ay (ay (aA hg))))
 wY:=bQ hk h.wY fun g hg=>hd g (h.iC g (ay (ay (ay (aA hg)))))
 rW:=bQ hk h.rW fun g hg=>hd g (h.iC g (ay (ay (ay (ay (aA hg))))))
 wZ:=bQ hk h.wZ fun g hg=>hd g (h.iC g (ay (ay (ay (ay (ay hg))))))
 eN:=fun x hx=>bQ hk (h.eN x hx) fun g hg=>hd g (h.GX x hx g hg)
 eF:=fun x hx=>bQ hk (h.eF x hx) fun g hg=>hd g (h.GV x hx g hg)
 eW:=fun x hx=>bQ hk (h.eW x hx) fun g hg=>hd g (h.GY x hx g hg)
 apart:=h.apart
 zO:=h.zO
 iC:=h.iC
 GX:=h.GX
 GV:=h.GV
 GY:=h.GY
 lt:=fun k hk'=>iZ (h.lt k hk') hk.size
theorem iK.below {w w':World} {b:Nat} {V:ou} {B:lX} {S:Nat→Prop} (h:iK w b V B S) (hb:aC w w'):iK w' b V B S:=
 h.kept (T:=fun _=>False) (Kept.dS hb) (fun _ _=>id)
theorem acS {P:Program} (w:World) (t e:TypeId) (n:Nat) (z v u:Value) (ht:P.underlying t=some (.slice e)) (hi:(P.info? e).map (fun i=>(i.zero,i.size))=some (some z,n)) (h0:0<n) (hn:n≤1000000) (hv:v.cells.size=n) (hu:u.cells.size=n):
  (Instr.buildSlice t 2 #[(0,v),(1,u)]).run P w= .ok (.slice (some ⟨w.heap.size,0,none⟩) 2 2) (w.alloc (.cells (v.cells.toList++u.cells.toList).toArray e)):=by
 obtain ⟨hz,hs⟩:=uI hi;cases hq:P.info? e with
 | none=>simp [hq] at hs
 | some i=>
  have hsz:i.size=n:=by simpa [hq] using hs
  have hf:Instr.fill (fun i=>some (i*n,n)) ((Array.range (2*n)).map (z.cells[· % z.cells.size]!)) [(0,v),(1,u)]=some (v.cells.toList++u.cells.toList).toArray:=by
   generalize hA:(Array.range (2*n)).map (z.cells[· % z.cells.size]!)=A;have hAs:A.toList.length=2*n:=by rw [← hA];simp
   rw [JR _ _ 0 0 n v _ sm hv (by rw [← hA];simp;omega),JR _ _ 1 n n u [] sm hu (by rw [Yq,← hA];simp;omega),Instr.fill];have e1:lU A 0 v.cells.toList=(v.cells.toList++A.toList.drop n).toArray:=by
    have e0:A=(A.toList.take n++A.toList.drop n).toArray:=by rw [KJ]
    conv=>lhs;rw [e0]
    exact Oo _ _ _ (by simp [hv];rw [← UR];omega)
   rw [e1];have e2:=Yo v.cells.toList (A.toList.drop n) u.cells.toList (by simp [hu];rw [← UR];omega);rw [show v.cells.toList.length=n by simp [hv]] at e2;rw [e2]
  unfold Instr.buildSlice;rw [jh,xw ht w];simp only [rQ,Go.sizeOf,typeInfo,jh,Vh,hq,yX,hsz];rw [ak om,ak om];simp only [jh,hz,rQ,yX,hf];simp [newRow]
def afi (parts:Array (Nat × Value)):Sem Value:=Instr.buildSlice 28 2 parts
theorem afp (parts:Array (Nat × Value)):Instr.buildSlice 28 2 parts=afi parts:=rfl
theorem aj6 {w:World} {c d:List UInt8} (hc:c.length=64) (hd:d.length=64):(afi #[(0,.agg (cv c).toArray),(1,.agg (cv d).toArray)]).run Tryz.prog w= .ok (.slice (some ⟨w.heap.size,0,none⟩) 2 2) (w.alloc (.cells (cv c++cv d).toArray 38)):=
 acS w 28 38 64 (.agg (cv zc).toArray) (.agg (cv c).toArray) (.agg (cv d).toArray) Tryz.underlying28 kr om om (by simp [Value.cells,bg,hc]) (by simp [Value.cells,bg,hd])
end Go.Proofs.YtknjjjenklfeoaaGreatDoor
