import Derived.Test.YtknjjjenklfeoaaGreatDoorU03
set_option maxHeartbeats 8000000
set_option maxRecDepth 100000
set_option linter.all false
namespace Go.Proofs.YtknjjjenklfeoaaGreatDoor
open Go.RowKit
def letter (b:UInt8):Bool:=decide (97≤b.toNat) && decide (b.toNat≤122)
def nZ (l:List UInt8):Bool:=l.all letter && (decide (1≤l.length) && decide (l.length≤12))
def ade (s:ByteArray) (w:World) (hs:s.size≤maxLen):
  Calls Tryz.prog 168 #[.string s] w fun e r=>e= .returned (.bool (nZ s.data.toList))∧r=w:=by
 unfold maxLen at hs;have hlen:s.data.toList.length=s.size:=by rw [Ws];rfl
 have a:Hid (nZ s.data.toList=(s.data.toList.all letter && (decide (1≤s.data.toList.length) && decide (s.data.toList.length≤12)))):=rfl;rw [hlen] at a;have o:=ah hlen;clear hlen
 go_enter Tryz.func168,Tryz.ntmps168
 go_wp2
 go_loop [3] (fun i=> ∃ k:Nat,k≤s.size∧i= .int .i64 k∧(s.data.toList.take k).all letter=true) (fun i=>s.size - (intOf i).toNat)
 case atStart=>exact ⟨0,lX _,rfl,sm⟩
 case round=>
  obtain ⟨k,hk,rfl,j⟩:=hrel;have l:=ah j;clear j
  by_cases p:k<s.size
  ·have c:s.data.toList.take (k+1)=s.data.toList.take k++[s[k]]:=by
    rw [x9 (by simpa using p)];rfl
   have B:=s[k].toNat_lt;have m:letter s[k]=(decide (97≤s[k].toNat) && decide (s[k].toNat≤122)):=rfl;have b:letter s[k]=false→nZ s.data.toList=false:=fun t=>by
    have:s.data.toList.all letter=false:=by
     rw [List.all_eq_false];exact ⟨s[k],by rw [← LP (k+1) s.data.toList,c];simp,by rw [t];simp⟩
    rw [uh a,this];rfl
   have h:letter s[k]=true→(s.data.toList.take (k+1)).all letter=true:=fun u=>by rw [c,List.all_append,uh l];simp [u]
   have n:=ah b;have v:=ah h;have d:=ah m;clear b h m c
   by_cases z:s[k].toNat<97
   ·have f:decide ((s[k].toNat:Int)<97)=true:=by simp;omega
    have e:=ah (uh n (by rw [uh d,show decide (97≤s[k].toNat)=false by simp;omega];rfl));go_wp2;go_ret;exact ⟨by rw [uh e];rfl,rfl⟩
   ·have f:decide ((s[k].toNat:Int)<97)=false:=by simp;omega
    by_cases y:122<s[k].toNat
    ·have g:decide ((122:Int)<(s[k].toNat:Int))=true:=by simp;omega
     have e:=ah (uh n (by rw [uh d,show decide (s[k].toNat≤122)=false by simp;omega];simp));go_wp2;go_ret;exact ⟨by rw [uh e];rfl,rfl⟩
    ·have g:decide ((122:Int)<(s[k].toNat:Int))=false:=by simp;omega
     have e:=ah (uh v (by rw [uh d,show decide (97≤s[k].toNat)=true by simp;omega,show decide (s[k].toNat≤122)=true by simp;omega];rfl));go_wp2
     go_round
     case rel=>exact ⟨k+1,om,gn,uh e⟩
     case measure=>exact bW
  ·have q:k=s.size:=om;have b:s.data.toList.all letter=true:=by
    have:=uh l
    rwa [q,← uh o,H7] at this
   rw [b,um] at a;clear b
   by_cases x:1≤s.size
   ·have f:decide ((1:Int)≤(s.size:Int))=true:=by simp;omega
    rw [show decide (1≤s.size)=true by simp;omega,um] at a
    by_cases A:s.size≤12
    ·have g:decide ((s.size:Int)≤12)=true:=by simp;omega
     rw [show decide (s.size≤12)=true by simp;omega] at a;go_wp2;go_ret;exact ⟨by rw [uh a];rfl,rfl⟩
    ·have g:decide ((s.size:Int)≤12)=false:=by simp;omega
     rw [show decide (s.size≤12)=false by simp;omega] at a;go_wp2;go_ret;exact ⟨by rw [uh a];rfl,rfl⟩
   ·have f:decide ((1:Int)≤(s.size:Int))=false:=by simp;omega
    rw [gK x,J3] at a;go_wp2;go_ret;exact ⟨by rw [uh a];rfl,rfl⟩
def Aa (c:aj) (at':Nat):Nat→Nat→Bool→List UInt8→Option (List UInt8)
 | 0,_,_,acc=>some acc
 | m+1,i,over,acc=>
  if aI c (at'+i)=0 then Aa c at' m (i+1) true acc
  else if over then none
  else Aa c at' m (i+1) false (acc++[c.getD (at'+i) 0])
def nameOf (c:aj) (at':Nat):List UInt8 × Bool:=
 match Aa c at' 12 0 false [] with
 | none=>([],false)
 | some l=>(l,nZ l)
def asR (c:List UInt8) (a:Nat) (w:World) (hc:c.length=64) (I:a≤52):
  Calls Tryz.prog 137 #[.agg (cv c).toArray,.int .i64 a] w fun e o=>
   e= .returned (.tuple #[.string (bM (nameOf c a).1),.bool (nameOf c a).2])∧aC w o:=by
 have d:(w.alloc (.cells (cv c).toArray 38)).heap[w.heap.size]? = some (.cells (cv c).toArray 38 (0,0)):=aX _ _;have hB:aC w (w.alloc (.cells (cv c).toArray 38)):=fC;have h:Hid (nameOf c a=match Aa c a 12 0 false [] with | none=>([],false) | some l=>(l,nZ l)):=rfl;generalize f:Aa c a 12 0 false []=T at h;have u:=ah f;have j:=ah hB;have v:=ah d;clear f hB d
 go_enter Tryz.func137,Tryz.ntmps137
 go_wp2;generalize w.alloc (.cells (cv c).toArray 38)=W at*
 go_loopw [6,7,8] (fun t B i o=> ∃ (k:Nat) (over:Bool) (acc:List UInt8),k≤12∧acc.length≤k∧i= .int .i64 k∧B= .bool over∧t= .string (bM acc)∧aC W o∧Aa c a (12 - k) k over acc=T) (fun _ _ i _=>12 - (intOf i).toNat)
 case atStart=>exact ⟨0,false,[],om,sm,rfl,rfl,rfl,bG _ _,uh u⟩
 case round=>
  obtain ⟨k,over,acc,hk,D,rfl,rfl,rfl,p,he⟩:=hrel;have d:wr.heap[w.heap.size]? = some (.cells (cv c).toArray 38 (0,0)):=(p.block _ (aK v)).trans v;have m:=ah he;have g:=ah p;clear he p u
  by_cases E:k<12
  ·have J:=MR d (a+k) om;have K:=uy c (a+k);have n:(if aI c (a+k)=0 then Aa c a (12 - (k+1)) (k+1) true acc else if over then none else Aa c a (12 - (k+1)) (k+1) false (acc++[c.getD (a+k) 0]))=T:=by
    rw [← uh m,show 12 - k=(12 - (k+1))+1 by omega,Aa]
   have r:c.getD (a+k) 0=UInt8.ofNat (aI c (a+k)):=by unfold aI;simp
   rw [r] at n;have b:=ah n;have L:(a:Int)+(k:Int)<64:=om;clear n m r d;generalize aI c (a+k)=q at*
   by_cases x:q=0
   ·subst x;rw [au rfl] at b;go_wp2;go_roundw
    case rel=>exact ⟨k+1,true,acc,om,om,gn,rfl,rfl,uh g,uh b⟩
    case measure=>exact bW
   ·have M:((q:Int) == 0)=false:=by rw [lY];omega
    rw [ak x] at b;cases over with
    | true=>
     rw [au rfl] at b;go_wp2;go_ret2;refine ⟨?_,j.trans (g.mono j.size)⟩;rw [uh h,← uh b];rfl
    | false=>
     rw [ak dc] at b;have F:(convert 73 9 (.slice (some ⟨wr.heap.size,0,none⟩) 1 1)).run Tryz.prog (wr.alloc (.cells #[.int .u8 (q:Int)] 5))= .ok (.string (bM [UInt8.ofNat q])) (wr.alloc (.cells #[.int .u8 (q:Int)] 5)):=by
      have e:(cv [UInt8.ofNat q]).toArray= #[.int .u8 (q:Int)]:=by
       have:(UInt8.ofNat q).toNat=q:=by simp;omega
       simp only [cv,jU,LQ,this]
      have C:(wr.alloc (.cells #[.int .u8 (q:Int)] 5)).heap[wr.heap.size]? = some (.cells (cv [UInt8.ofNat q]).toArray 5 (0,0)):=by rw [e];exact aX _ _
      exact ahE C 1 1 sm
     have G:(bM acc).size≤12:=by show acc.toArray.size≤12;simp;omega
     have H:(bM [UInt8.ofNat q]).size=1:=rfl;have s:bM acc++bM [UInt8.ofNat q]=bM (acc++[UInt8.ofNat q]):=by
      apply afk;simp [bM,ByteArray.data_append]
     have A:=ah s;clear s;generalize bM [UInt8.ofNat q]=t1 at*;go_wp2;refine ⟨⟨k+1,false,acc++[UInt8.ofNat q],om,by simp;omega,gn,rfl,by rw [uh A],g.alloc g.size _,uh b⟩,by simp [intOf];omega⟩
  ·have z:k=12:=om;subst z;have f:T=some acc:=m.symm;have y:=ah (ade (bM acc) wr (by unfold maxLen;show acc.toArray.size≤_;simp;omega));rw [show (bM acc).data.toList=acc from rfl] at y;rw [f] at h;clear d m f
   go_wp2_with fail
   refine y.mono ?_;rintro e N ⟨rfl,rfl⟩;go_wp2;go_ret2;refine ⟨?_,j.trans (g.mono j.size)⟩;rw [uh h];rfl
def tv (T:List Nat):List Value:=T.map fun n=> .int .u16 (n:Nat)
def ql (T:List Nat):(tv T).length=T.length:=by simp [tv]
def PW (T:List Nat) (i:Nat) (h:i<T.length):(tv T)[i]? = some (.int .u16 ((T.getD i 0:Nat):Int)):=by
 simp [tv,h,List.getD]
def aff (T:List Nat): ∀ v ∈ tv T,v.oneCell'=true:=by
 intro v hv;simp only [tv,gY] at hv;obtain ⟨b,_,rfl⟩:=hv;rfl
def zt:List Nat:=List.replicate 32 0
def gX:zt.length=32:=by simp [zt]
def adq (a:Addr):Sem Value:=loadVar 169 a
def kU (a:Addr):loadVar 169 a=adq a:=rfl
def kY {w:World} {b o:Nat} (h:dU w b o 32):(adq ⟨b,o,none⟩).run Tryz.prog w= .ok (.agg (dO w b o 32).toArray) w:=
 BQ h 169 _ Tryz.underlying169 rfl kr
def ZT (a:Addr) (v:Value):Sem Unit:=storeVar 169 a v
def mZ (a:Addr) (v:Value):storeVar 169 a v=ZT a v:=rfl
def mP {w:World} {b o:Nat} {T:List Nat} (c:w.there b o 32) (a:T.length=32):(ZT ⟨b,o,none⟩ (.agg (tv T).toArray)).run Tryz.prog w= .ok () (w.setCells b o (tv T)):=by
 have:=Ib (P:=Tryz.prog) w b o 169 (tv T).toArray (by simpa [ql,a] using c) (by simp only [jm,ql,a];kernel_rfl) (vU (aff T))
 simpa [ZT] using this
def ant:Sem Value:=zeroValue 169
def nC:zeroValue 169=ant:=rfl
def mW (w:World):ant.run Tryz.prog w= .ok (.agg (tv zt).toArray) w:=
 (uZ (P:=Tryz.prog) (t:=169) (v:= .agg (tv zt).toArray) (n:=32) kr).1 w
def mQ {w:World} {z T:List Nat} (b:z.length=32) (a:T.length=32):
  (ZT ⟨w.heap.size,0,none⟩ (.agg (tv T).toArray)).run Tryz.prog (w.alloc (.cells (tv z).toArray 169))= .ok () (w.alloc (.cells (tv T).toArray 169)):=
 Ic w 169 (tv z).toArray (tv T).toArray (by simp only [jm,ql,a];kernel_rfl) (by simp [ql,b,a]) (vU (aff T))
def mO {w:World} {T:List Nat} (a:T.length=32):
  (adq ⟨w.heap.size,0,none⟩).run Tryz.prog (w.alloc (.cells (tv T).toArray 169))= .ok (.agg (tv T).toArray) (w.alloc (.cells (tv T).toArray 169)):=
 afF w 169 (tv T).toArray 32 167 Tryz.underlying169 (by simp only [jm,ql,a];kernel_rfl)
def zk:List UInt8:=List.replicate 256 0
def iM:zk.length=256:=Ai
def adp (a:Addr):Sem Value:=loadVar 123 a
def jR (a:Addr):loadVar 123 a=adp a:=rfl
def jT {w:World} {b o:Nat} (h:dU w b o 256):(adp ⟨b,o,none⟩).run Tryz.prog w= .ok (.agg (dO w b o 256).toArray) w:=
 BQ h 123 _ Tryz.underlying123 rfl kr
def ZN (a:Addr) (v:Value):Sem Unit:=storeVar 123 a v
def kP (a:Addr) (v:Value):storeVar 123 a v=ZN a v:=rfl
def kN {w:World} {b o:Nat} {c:List UInt8} (a:w.there b o 256) (hc:c.length=256):(ZN ⟨b,o,none⟩ (.agg (cv c).toArray)).run Tryz.prog w= .ok () (w.setCells b o (cv c)):=by
 have:=Ib (P:=Tryz.prog) w b o 123 (cv c).toArray (by simpa [bC,hc] using a) (by simp only [jm,bC,hc];kernel_rfl) (vU (Au c))
 simpa [ZN] using this
def anh:Sem Value:=zeroValue 123
def kJ:zeroValue 123=anh:=rfl
def kH (w:World):anh.run Tryz.prog w= .ok (.agg (cv zk).toArray) w:=
 (uZ (P:=Tryz.prog) (t:=123) (v:= .agg (cv zk).toArray) (n:=256) kr).1 w
def lq {w:World} {z c:List UInt8} (a:z.length=256) (hc:c.length=256):
  (ZN ⟨w.heap.size,0,none⟩ (.agg (cv c).toArray)).run Tryz.prog (w.alloc (.cells (cv z).toArray 123))= .ok () (w.alloc (.cells (cv c).toArray 123)):=
 Ic w 123 (cv z).toArray (cv c).toArray (by simp only [jm,bC,hc];kernel_rfl) (by simp [bC,a,hc]) (vU (Au c))
def kX {w:World} {c:List UInt8} (hc:c.length=256):
  (adp ⟨w.heap.size,0,none⟩).run Tryz.prog (w.alloc (.cells (cv c).toArray 123))= .ok (.agg (cv c).toArray) (w.alloc (.cells (cv c).toArray 123)):=
 afF w 123 (cv c).toArray 256 5 Tryz.underlying123 (by simp only [jm,bC,hc];kernel_rfl)
def fH {w:World} {b:Nat} {cs:List Value} {t:TypeId} {fr:Nat × Nat} (h:w.heap[b]? = some (.cells cs.toArray t fr)) {n:Nat} (hn:cs.length=n):dU w b 0 n:=sU (NI h) hn
def fM {w:World} {b:Nat} {cs:List Value} {t:TypeId} {fr:Nat × Nat} (h:w.heap[b]? = some (.cells cs.toArray t fr)) {n:Nat} (hn:cs.length=n):dO w b 0 n=cs:=qU (NI h) hn
structure sO where
 first:Nat
 BH:Nat
 oJ:Nat
 second:Nat
 block:Nat
 tab:List Nat
def jk (p:sO):List Value:= .int .i64 p.first :: .int .i64 p.BH :: .int .i64 p.oJ :: .int .u16 p.second :: .int .u16 p.block :: tv p.tab
def BM (p:sO) (h:p.tab.length=32):(jk p).length=37:=by simp [jk,ql,h]
def alk (p:sO): ∀ v ∈ jk p,v.oneCell'=true:=by
 intro v hv;simp only [jk,cO] at hv;rcases hv with rfl | rfl | rfl | rfl | rfl | hv
 ·rfl
 ·rfl
 ·rfl
 ·rfl
 ·rfl
 ·exact aff _ v hv
def zp:sO:=⟨0,0,0,0,0,zt⟩
def aj7 (a:Addr):Sem Value:=loadVar 171 a
def pW (a:Addr):loadVar 171 a=aj7 a:=rfl
def qc {w:World} {b o:Nat} (h:dU w b o 37):(aj7 ⟨b,o,none⟩).run Tryz.prog w= .ok (.agg (dO w b o 37).toArray) w:=
 BQ h 171 _ Tryz.underlying171 rfl kr
def ZR (a:Addr) (v:Value):Sem Unit:=storeVar 171 a v
def qM (a:Addr) (v:Value):storeVar 171 a v=ZR a v:=rfl
def qI {w:World} {b o:Nat} {p:sO} (c:w.there b o 37) (a:p.tab.length=32):(ZR ⟨b,o,none⟩ (.agg (jk p).toArray)).run Tryz.prog w= .ok () (w.setCells b o (jk p)):=by
 have:=Ib (P:=Tryz.prog) w b o 171 (jk p).toArray (by simpa [BM p a] using c) (by simp only [jm,BM p a];kernel_rfl) (vU (alk p))
 simpa [ZR] using this
def anq:Sem Value:=zeroValue 171
def qO:zeroValue 171=anq:=rfl
def qK (w:World):anq.run Tryz.prog w= .ok (.agg (jk zp).toArray) w:=
 (uZ (P:=Tryz.prog) (t:=171) (v:= .agg (jk zp).toArray) (n:=37) kr).1 w
def qJ {w:World} {z p:sO} (b:z.tab.length=32) (a:p.tab.length=32):
  (ZR ⟨w.heap.size,0,none⟩ (.agg (jk p).toArray)).run Tryz.prog (w.alloc (.cells (jk z).toArray 171))= .ok () (w.alloc (.cells (jk p).toArray 171)):=
 Ic w 171 (jk z).toArray (jk p).toArray (by simp only [jm,BM p a];kernel_rfl) (by simp [BM _ b,BM _ a]) (vU (alk p))
def agN (parts:Array (Nat × Value)):Sem Value:=Instr.build 171 parts
def qA (parts:Array (Nat × Value)):Instr.build 171 parts=agN parts:=rfl
def qH (a b c:Nat) (w:World):(agN #[(0,.int .i64 a),(1,.int .i64 b),(2,.int .i64 c)]).run Tryz.prog w= .ok (.agg (jk ⟨a,b,c,0,0,zt⟩).toArray) w:=by
 have d:=(uZ (P:=Tryz.prog) (t:=171) (v:= .agg (jk zp).toArray) (n:=37) kr).1;exact LH w 171 _ (.agg (jk zp).toArray) #[(0,1),(1,1),(2,1),(3,1),(4,1),(5,32)] #[(0,.int .i64 a),(1,.int .i64 b),(2,.int .i64 c)] _ Tryz.underlying171 d (fun w=>kr) (by rfl)
def hv (a b:Nat):List Value:=[.int .i64 (a:Nat),.int .i64 (b:Nat)]
def sV (a b:Nat):(hv a b).length=2:=rfl
def ajw (a b:Nat): ∀ v ∈ hv a b,v.oneCell'=true:=by
 intro v c;simp only [hv,cO,jM,jO] at c;rcases c with rfl | rfl <;> rfl
def aj1 (a:Addr):Sem Value:=loadVar 128 a
def kF (a:Addr):loadVar 128 a=aj1 a:=rfl
def kG {w:World} {b o:Nat} (h:dU w b o 2):(aj1 ⟨b,o,none⟩).run Tryz.prog w= .ok (.agg (dO w b o 2).toArray) w:=
 BQ h 128 _ Tryz.underlying128 rfl kr
def ZP (a:Addr) (v:Value):Sem Unit:=storeVar 128 a v
def lG (a:Addr) (v:Value):storeVar 128 a v=ZP a v:=rfl
def lu {w:World} {b o:Nat} {x y:Nat} (a:w.there b o 2):(ZP ⟨b,o,none⟩ (.agg (hv x y).toArray)).run Tryz.prog w= .ok () (w.setCells b o (hv x y)):=by
 have:=Ib (P:=Tryz.prog) w b o 128 (hv x y).toArray (by simpa [sV] using a) (by simp only [jm,sV];kernel_rfl) (vU (ajw x y))
 simpa [ZP] using this
def anl:Sem Value:=zeroValue 128
def lI:zeroValue 128=anl:=rfl
def lD (w:World):anl.run Tryz.prog w= .ok (.agg (hv 0 0).toArray) w:=
 (uZ (P:=Tryz.prog) (t:=128) (v:= .agg (hv 0 0).toArray) (n:=2) kr).1 w
def lC {w:World} {a b x y:Nat}:
  (ZP ⟨w.heap.size,0,none⟩ (.agg (hv x y).toArray)).run Tryz.prog (w.alloc (.cells (hv a b).toArray 128))= .ok () (w.alloc (.cells (hv x y).toArray 128)):=
 Ic w 128 (hv a b).toArray (hv x y).toArray (by simp only [jm,sV];kernel_rfl) (by simp [sV]) (vU (ajw x y))
def abC (parts:Array (Nat × Value)):Sem Value:=Instr.build 128 parts
def kR (parts:Array (Nat × Value)):Instr.build 128 parts=abC parts:=rfl
def kM (a b:Nat) (w:World):(abC #[(0,.int .i64 a),(1,.int .i64 b)]).run Tryz.prog w= .ok (.agg (hv a b).toArray) w:=by
 have c:=(uZ (P:=Tryz.prog) (t:=128) (v:= .agg (hv 0 0).toArray) (n:=2) kr).1;exact LH w 128 _ (.agg (hv 0 0).toArray) #[(0,1),(1,1)] #[(0,.int .i64 a),(1,.int .i64 b)] _ Tryz.underlying128 c (fun w=>kr) (by rfl)
structure dW (w w':World) (os:List Obj):Prop where
 qo: ∀ i o,os[i]? = some o→w'.heap[w.heap.size+i]? = some o
 below:aC w w'
def dW.one (w:World) (o:Obj):dW w (w.alloc o) [o]:=⟨fun i x h=>by
 cases i with
 | zero=>simp at h;subst h;exact aX w o
 | succ i=>simp at h,fC⟩
def dW.two (w:World) (o p:Obj):dW w ((w.alloc o).alloc p) [o,p]:=⟨fun i x h=>by
 match i with
 | 0=>simp at h;subst h;exact (jX _ _ _ sm).trans (aX w _)
 | 1=>simp at h;subst h;have:=aX (w.alloc o) p;rwa [jV] at this
 | i+2=>simp at h,(fC).alloc sm _⟩
def dW.three (w:World) (o p q:Obj):dW w (((w.alloc o).alloc p).alloc q) [o,p,q]:=⟨fun i x h=>by
 match i with
 | 0=>simp at h;subst h;exact (jX _ _ _ (by simp;omega)).trans ((jX _ _ _ sm).trans (aX w _))
 | 1=>simp at h;subst h;have:=aX (w.alloc o) p;rw [jV] at this;exact (jX _ _ _ sm).trans this
 | 2=>simp at h;subst h;have:=aX ((w.alloc o).alloc p) q;simp only [jV] at this;exact this
 | i+3=>simp at h,((fC).alloc sm _).alloc (by simp;omega) _⟩
def dW.later {w a b:World} {os:List Obj} (h:dW w a os) (c:Below a.heap.size a b):dW w b os:=
 ⟨fun i o d=>by have:=h.qo i o d;rw [c.block _ (aK this)];exact this,h.below.trans (c.mono h.below.size)⟩
def dW.alloc {w a:World} {os:List Obj} (h:dW w a os) (o:Obj):dW w (a.alloc o) os:=h.later (fC)
def dW.drewN {w a:World} {os:List Obj} (h:dW w a os) (n:Nat):dW w (a.drewN n) os:=⟨h.qo,⟨h.below.os,h.below.tape,h.below.output,h.below.size,h.below.block⟩⟩
def dW.drew {w a:World} {os:List Obj} (h:dW w a os):dW w a.drew os:=⟨h.qo,h.below.drew⟩
def dW.put {w c b:World} {os:List Obj} (h:dW w c os) (i:Nat) (o:Obj) (hk:Kept (fun x=>x=w.heap.size+i) c b) (f:b.heap[w.heap.size+i]? = some o):dW w b (os.set i o):=
 ⟨fun j x a=>by
  rw [uI] at a
  split at a
  ·rename_i e;subst e
   split at a
   ·injection a with a;subst a;exact f
   ·cases a
  ·rename_i e;exact hk.aG om (h.qo j x a),h.below.trans ⟨hk.os,hk.tape,hk.output,hk.size,fun k d=>hk.block k (iL d h.below.size) om⟩⟩
def dW.setCell {w a:World} {os:List Obj} (h:dW w a os) (i:Nat) {cs:Array Value} {t:TypeId} {fr:Nat × Nat} (hi:os[i]? = some (.cells cs t fr)) (j:Nat) (v:Value):
  dW w (a.setCell ⟨w.heap.size+i,j,none⟩ v) (os.set i (.cells (cs.setIfInBounds j v) t fr)):=
 h.put i _ (Kept.only _ _ _ _) (heap_setCell_same _ _ _ _ _ _ _ (h.qo i _ hi))
def Kept.BL (w:World) (f o:Nat) (vs:List Value):Kept (fun k=>k=f) w (w.setCells f o vs):=(Kept.refl (fun k=>k=f) w).setCells (aA rfl) o vs
def dW.setCells {w a:World} {os:List Obj} (h:dW w a os) (i:Nat) {cs:Array Value} {t:TypeId} {fr:Nat × Nat} (hi:os[i]? = some (.cells cs t fr)) (j:Nat) (vs:List Value):
  dW w (a.setCells (w.heap.size+i) j vs) (os.set i (.cells (mY cs j vs) t fr)):=
 h.put i _ (Kept.BL _ _ _ _) (KU _ _ _ _ _ _ _ (h.qo i _ hi))
def dW.lt {w a:World} {os:List Obj} (h:dW w a os) {i:Nat} {o:Obj} (hi:os[i]? = some o):w.heap.size+i<a.heap.size:=aK (h.qo i o hi)
def dW.o0 {w a:World} {o:Obj} {os:List Obj} (h:dW w a (o :: os)):a.heap[w.heap.size]? = some o:=h.qo 0 o rfl
def dW.o1 {w b:World} {a o:Obj} {os:List Obj} (h:dW w b (a :: o :: os)):b.heap[w.heap.size+1]? = some o:=h.qo 1 o rfl
def dW.o2 {w c:World} {a b o:Obj} {os:List Obj} (h:dW w c (a :: b :: o :: os)):c.heap[w.heap.size+1+1]? = some o:=h.qo 2 o rfl
def nv (M:List Nat):List Value:=M.map AV
def FH (M:List Nat):(nv M).length=M.length:=by simp [nv]
def Lm (M:List Nat) (n:Nat) (hn:n<M.length):(nv M)[n]? = some (.int .i64 ((M.getD n 0:Nat):Int)):=by
 unfold nv;rw [jK,aN,bJ hn];rfl
def zI:List Nat:=List.replicate 256 0
def P8:zI.length=256:=Ai
def anm:Sem Value:=zeroValue 91
def axJ:zeroValue 91=anm:=rfl
def avx (w:World):anm.run Tryz.prog w= .ok (.agg (nv zI).toArray) w:=
 (uZ (P:=Tryz.prog) (t:=91) (v:= .agg (nv zI).toArray) (n:=256) kr).1 w
attribute [local go_sem ↓] dw axJ
attribute [local go_sem] dM avx
def bump (M:List Nat) (n:Nat):List Nat:=M.set n (M.getD n 0+1)
def QG (M:List Nat) (n:Nat):(bump M n).length=M.length:=by simp [bump]
def ag7 (M:List Nat) (n:Nat):(nv M).toArray.setIfInBounds n (.int .i64 ((M.getD n 0:Nat)+1:Int))=(nv (bump M n)).toArray:=by
 rw [Bh];unfold bump nv;rw [Og]
 congr 2
def AU (L:List aj) (s:Nat) (M:List Nat):Nat→List Nat
 | 0=>M
 | k+1=>if num (cl L s) (2*k)=0 then AU L s M k else bump (AU L s M k) (num (cl L s) (2*k)%32768)
def zG (L:List aj) (t:Nat):Nat→List Nat
 | 0=>zI
 | i+1=>if num (cl L t) (2*i)=0 then zG L t i else AU L (num (cl L t) (2*i)%32768) (bump (zG L t i) (num (cl L t) (2*i)%32768)) 32
def Vy (L:List aj) (s:Nat) (M:List Nat): ∀ k,(AU L s M k).length=M.length
 | 0=>rfl
 | k+1=>by
  rw [AU];split
  ·exact Vy L s M k
  ·rw [QG];exact Vy L s M k
def Ro (L:List aj) (t:Nat): ∀ i,(zG L t i).length=256
 | 0=>P8
 | i+1=>by
  rw [zG];split
  ·exact Ro L t i
  ·rw [Vy,QG];exact Ro L t i
def Jo (b:Nat) (M:List Nat):Prop:= ∀ n,M.getD n 0≤b
def Xw {b:Nat} {M:List Nat} (h:Jo b M) (n:Nat):Jo (b+1) (bump M n):=fun m=>by
 unfold bump;rw [aN,uI];have a:=h n;have c:=h m;rw [aN] at a c;split
 ·split
  ·simp only [LZ,aN];omega
  ·simp
 ·omega
def YQ {b:Nat} {M:List Nat} (L:List aj) (s:Nat) (h:Jo b M): ∀ k,Jo (b+k) (AU L s M k)
 | 0=>h
 | k+1=>by
  rw [AU];split
  ·exact fun n=>by have:=YQ L s h k n;omega
  ·exact Xw (YQ L s h k) _
def anc:Jo 0 zI:=fun n=>by
 unfold zI;rw [aN,rG]
 split <;> simp
def YR (L:List aj) (t:Nat): ∀ i,Jo (33*i) (zG L t i)
 | 0=>anc
 | i+1=>by
  rw [zG];split
  ·exact fun n=>by have:=YR L t i n;omega
  ·exact fun n=>by have:=YQ L (num (cl L t) (2*i)%32768) (Xw (YR L t i) (num (cl L t) (2*i)%32768)) 32 n;omega
def JQ (L:List aj) (M:List Nat):Nat→Nat→Bool
 | 0,_=>true
 | m+1,n=>if 254<aQ L n+M.getD n 0 then false else JQ L M m (n+1)
def Du (L:List aj) (t:Nat):Bool:=JQ L (zG L t 2) L.length 0 && decide (0<Fb L)
def Zm (w:World) (f:Nat) (Lv Rv:Value) (R:aU) (h:bY w f Lv Rv R) (i:Nat) (hi:i<R.roots.length) (a7:R.roots.length≤1000) (jF:R.L.length≤256) (ax:6≤R.L.length) (u:rX R.L (rootOf R i).N):
  Calls Tryz.prog 122 #[.pointer (some ⟨f,0,none⟩),.int .i64 (i:Nat)] w fun e l=>e= .returned (.bool (Du R.L (rootOf R i).N))∧aC w l:=by
 obtain ⟨g,cap,rfl,hc⟩:=gy h.fJ om;obtain ⟨W,a6,rfl,a8⟩:=gy h.pG om;have a9:(i:Int)<(R.roots.length:Int):=om;have J:=dW.two w (.cells (nv zI).toArray 91) (.cells (iE (rootOf R i)).toArray 132);have ae:aC w (w.alloc (.cells (nv zI).toArray 91)):=fC;have C:=h.below ae;have c1:=C.CV;have r0:(w.alloc (.cells (nv zI).toArray 91)).cell? ⟨W,i*3,none⟩=some (.int .i64 ((rootOf R i).N:Nat)):=by have:=yN C.pG i hi 0 om;rw [jW] at this;exact this.trans rfl
 have r1:(w.alloc (.cells (nv zI).toArray 91)).cell? ⟨W,i*3+1,none⟩=some (.int .i64 ((rootOf R i).At:Nat)):=(yN C.pG i hi 1 om).trans rfl;have r2:(w.alloc (.cells (nv zI).toArray 91)).cell? ⟨W,i*3+2,none⟩=some (.string ⟨(rootOf R i).name.toArray⟩):=(yN C.pG i hi 2 om).trans rfl;have H:=ah h;have J:=ah J;have X:Hid (Du R.L (rootOf R i).N=(JQ R.L (zG R.L (rootOf R i).N 2) R.L.length 0 && decide (0<Fb R.L))):=rfl;have ba:((rootOf R i).N:Int)<(R.L.length:Int):=by have:=u.at';omega
 clear h C ae;generalize bb:rootOf R i=r at*
 go_enter Tryz.func122,Tryz.ntmps122
 go_wp2
 go_loopw [7] (fun j l=> ∃ k:Nat,k≤2∧j= .int .i64 k∧dW w l [.cells (nv (zG R.L r.N k)).toArray 91,.cells (iE r).toArray 132]) (fun j _=>2 - (intOf j).toNat)
 case atStart=>exact ⟨0,om,rfl,uh J⟩
 case round=>
  obtain ⟨k,hk,rfl,hL⟩:=hrel;clear J c1 r0 r1 r2
  by_cases af:k<2
  ·have bd:(k:Int)<2:=om;have ab:wr.cell? ⟨w.heap.size+1,0,none⟩=some (.int .i64 (r.N:Nat)):=(aF hL.o1 0).trans rfl;have hr:=H.below hL.below;have p: ∀ d os,bY (Go.Sort.grow (redrawn wr d) os) f _ _ R:=fun d os=>hr.below (lJ wr d os);have c0:=fun d os=>(p d os).vF;have cx:=fun d os=>Jm ab d os;have Y:=fun d os=>oQ (p d os).fJ hr.lens _ u.at';have Z:=fun d os=>oP (p d os).fJ hr.lens _ u.at';have hlen:=je hr.lens u.at';have s:=ah (fun d os=>FD (cl R.L r.N) (2*(k:Int)) (Go.Sort.grow (redrawn wr d) os) hlen om om);rw [show (2*(k:Int)).toNat=2*k by omega] at s;have bf:=iK (cl R.L r.N) (2*k);have mG:=u.second k af;have F:=u.block k af;have aa:zG R.L r.N (k+1)=if num (cl R.L r.N) (2*k)=0 then zG R.L r.N k else AU R.L (num (cl R.L r.N) (2*k)%32768) (bump (zG R.L r.N k) (num (cl R.L r.N) (2*k)%32768)) 32:=rfl
   have ag:=Ro R.L r.N k;have A:=YR R.L r.N k;generalize num (cl R.L r.N) (2*k)=x at*;generalize zG R.L r.N k=M at*;have K:=ah aa;have Qw:=ah F;have a:=ah hL;clear aa p F hL;go_wp2;refine DJ kr kr ?_
   repeat (go_big_quiet_step (exact Aj (uh s _ _)))
   refine DK ?_;intro _ U;obtain ⟨⟨D,B⟩,T⟩:=U;subst T;clear c0 cx Y Z s;have o:=a.later (lJ wr D B);clear a ab hr;generalize Go.Sort.grow (redrawn wr D) B=O at*
   by_cases G:x=0
   ·subst G;rw [au rfl] at K;have az:=ah o;clear o;go_wp2;go_roundw
    case rel=>exact ⟨k+1,om,gn,by rw [uh K];exact uh az⟩
    case measure=>exact bW
   ·have dx:((x:Int) == 0)=false:=by rw [lY];omega
    rw [ak G] at K;have V:=mG G;have F:=uh Qw G;generalize bh:x%32768=c at*;have aD:(x:Int)%32768=(c:Nat):=om;have aE:(c:Int)<256:=om;have E:O.cell? ⟨w.heap.size,c,none⟩=some (.int .i64 ((M.getD c 0:Nat):Int)):=by
     rw [aF o.o0,bZ,Lm _ _ om]
    have fm:=eY o.o0 c;have bj:=A c;have P:=o.setCell 0 rfl c (.int .i64 ((M.getD c 0:Nat)+1:Int));rw [jW,ag7] at P;simp only [oq] at P;have aL:=Xw A c;have aM:(bump M c).length=256:=by rw [QG];exact ag
    have ai:=ah P;clear o P Qw;generalize M.getD c 0=mc at*;generalize bump M c=v at*;go_wp2;generalize O.setCell ⟨w.heap.size,c,none⟩ (.int .i64 ((mc:Nat)+1:Int))=w3 at*;simp only [aD]
    go_loopw [9] (fun j l=> ∃ m:Nat,m≤32∧j= .int .i64 m∧dW w l [.cells (nv (AU R.L c v m)).toArray 91,.cells (iE r).toArray 132]) (fun j _=>32 - (intOf j).toNat)
    case atStart=>exact ⟨0,om,rfl,uh ai⟩
    case round=>
     obtain ⟨m,hm,rfl,hL⟩:=hrel;clear ai E fm
     by_cases ad:m<32
     ·have Nc:(m:Int)<32:=om;have hr:=H.below hL.below;have c0:=hr.vF;have Y:=oQ hr.fJ hr.lens _ V;have Z:=oP hr.fJ hr.lens _ V;have s:=ah (FD (cl R.L c) (2*(m:Int)) wr (je hr.lens V) om om);rw [show (2*(m:Int)).toNat=2*m by omega] at s;have bl:=iK (cl R.L c) (2*m);have bm:=F m ad;have al:AU R.L c v (m+1)=if num (cl R.L c) (2*m)=0 then AU R.L c v m else bump (AU R.L c v m) (num (cl R.L c) (2*m)%32768):=rfl
      have an:(AU R.L c v m).length=256:=by rw [Vy];exact aM
      have aR:=YQ R.L c aL m;have bn:(c:Int)<(R.L.length:Int):=om;generalize num (cl R.L c) (2*m)=y at*;generalize AU R.L c v m=M2 at*;have I:=ah al;have a:=ah hL;clear al hr hL
      go_wp2_with fail
      refine s.mono ?_;rintro e w4 ⟨rfl,ao⟩;have z:=a.later ao;clear s ao a c0 Y Z
      by_cases aq:y=0
      ·subst aq;rw [au rfl] at I;have a0:=ah z;clear z;go_wp2;go_roundw
       case rel=>exact ⟨m+1,om,gn,by rw [uh I];exact uh a0⟩
       case measure=>exact bW
      ·have dy:((y:Int) != 0)=true:=by rw [ou];omega
       rw [ak aq] at I;generalize bo:y%32768=b at*;have bp:(y:Int)%32768=(b:Nat):=om;have a1:(b:Int)<256:=om;have E:w4.cell? ⟨w.heap.size,b,none⟩=some (.int .i64 ((M2.getD b 0:Nat):Int)):=by
        rw [aF z.o0,bZ,Lm _ _ om]
       have fm:=eY z.o0 b;have bq:=aR b;have Q:=z.setCell 0 rfl b (.int .i64 ((M2.getD b 0:Nat)+1:Int));rw [jW,ag7] at Q;simp only [oq] at Q;have a2:=ah Q;clear z Q;generalize M2.getD b 0=mb at*;go_wp2;go_roundw
       case rel=>exact ⟨m+1,om,gn,by rw [uh I];exact uh a2⟩
       case measure=>exact bW
     ·have ar:m=32:=om;subst ar;have a:=ah hL;clear hL;go_wp2;go_roundw
      case rel=>exact ⟨k+1,om,gn,by rw [uh K];exact uh a⟩
      case measure=>exact bW
  ·have a3:k=2:=om;subst a3;have ag:=Ro R.L r.N 2;have A:=YR R.L r.N 2;generalize zG R.L r.N 2=M at*;have a:=ah hL;clear hL;go_wp2
   go_loopw [11] (fun j l=> ∃ n:Nat,n≤R.L.length∧j= .int .i64 n∧dW w l [.cells (nv M).toArray 91,.cells (iE r).toArray 132]∧JQ R.L M R.L.length 0=JQ R.L M (R.L.length - n) n) (fun j _=>R.L.length - (intOf j).toNat)
   case atStart=>exact ⟨0,om,rfl,uh a,rfl⟩
   case round=>
    obtain ⟨n,hn,rfl,hL,he⟩:=hrel;clear a;have hr:=H.below hL.below;have c0:=hr.vF
    by_cases ad:n<R.L.length
    ·have bs:(n:Int)<(R.L.length:Int):=om;have a4:(n:Int)<256:=om;have p: ∀ d os,bY (Go.Sort.grow (redrawn wr d) os) f _ _ R:=fun d os=>hr.below (lJ wr d os);have E:wr.cell? ⟨w.heap.size,n,none⟩=some (.int .i64 ((M.getD n 0:Nat):Int)):=by
      rw [aF hL.o0,bZ,Lm _ _ om]
     have a5:=fun d os=>Jm E d os;have Ak:=ah (fun d os=>(Uk (Go.Sort.grow (redrawn wr d) os) f _ _ R (p d os) (n:Int) om om om).mono (R':=fun e l=>e= .returned (.int .i64 ((aQ R.L (n:Int).toNat:Nat):Int))∧Below (Go.Sort.grow (redrawn wr d) os).heap.size (Go.Sort.grow (redrawn wr d) os) l) (by rintro e l ⟨rfl,rfl⟩;exact ⟨rfl,bG _ _⟩));rw [tZ] at Ak;have hq:=ab7 R.L n;have bt:=A n;rw [show R.L.length - n=(R.L.length - (n+1))+1 by omega,JQ] at he;generalize aQ R.L n=q at*;generalize M.getD n 0=mn at*;have t:=ah he;have a:=ah hL;clear p E he hL hr;go_wp2;refine DJ kr kr ?_
     repeat (go_big_quiet_step (exact Aj (uh Ak _ _)))
     refine DK ?_;intro _ U;obtain ⟨⟨D,B⟩,T⟩:=U;subst T;have o:=ah (a.later (lJ wr D B));clear c0 a5 Ak a;generalize Go.Sort.grow (redrawn wr D) B=O at*
     by_cases av:254<q+mn
     ·have dg:decide ((254:Int)<((q:Nat):Int)+((mn:Nat):Int))=true:=dZ om;rw [au av] at t;have S:=ah o.below;clear o;go_wp2;go_ret;exact ⟨by rw [uh X,uh t];rfl,uh S⟩
     ·have dg:decide ((254:Int)<((q:Nat):Int)+((mn:Nat):Int))=false:=gK om;rw [ak av] at t;go_wp2;go_roundw
      case rel=>exact ⟨n+1,om,gn,uh o,uh t⟩
      case measure=>exact bW
    ·have an:n=R.L.length:=om;rw [an,Bg,JQ] at he;have t:=ah he;have Hf:=ah (aiD wr f _ _ R hr jF ax);have S:=ah hL.below;clear he hL hr A;generalize Fb R.L=fr at*
     go_wp2_with fail
     refine Hf.mono ?_;rintro e O ⟨rfl,rfl⟩
     by_cases aw:0<fr
     ·have df:decide ((0:Int)<((fr:Nat):Int))=true:=dZ om;go_wp2;go_ret;exact ⟨by rw [uh X,uh t,dZ aw];rfl,uh S⟩
     ·have df:decide ((0:Int)<((fr:Nat):Int))=false:=gK om;go_wp2;go_ret;exact ⟨by rw [uh X,uh t,gK aw];rfl,uh S⟩
end Go.Proofs.YtknjjjenklfeoaaGreatDoor
