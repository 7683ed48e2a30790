import Derived.Test.YtknjjjenklfeoaaGreatDoorU40
import Derived.Test.YtknjjjenklfeoaaGreatDoorU33
set_option maxHeartbeats 8000000
set_option maxRecDepth 100000
set_option linter.all false
namespace Go.Proofs.YtknjjjenklfeoaaGreatDoor
open Go.RowKit
section
attribute [local go_sem ↓] dw fP fV IZ jE
attribute [local go_sem] dM fO fU gW gB aV Jd jc jd
def asW {base:List aj} {V:aB} {N0:Nat} {E:List aW} (h:aY base V N0 E):I7 (aZ (cl V.C 5)) (lenOf (aZ (cl V.C 5)))=E.map (·.name):=by
 rw [h.iR.2,h.iR.1];unfold I7 jy;rw [List.take_left'];rfl
def asV {V:aB} {N0:Nat} {E:List aW}:Ls (bD V.C N0 E).L (bD V.C N0 E).L.length=E.map (·.name):=by
 unfold Ls;rw [H7,QJ,Qd];rfl
def aoV (w:World) (p b:Nat) (P:eP) (S U:Nat→Prop) (N0:Nat) (E:List aW) (V:oM) (B:nG) (h:dL w p P S) (u:nI P N0 E) (a:iY w b V B U) (az:B.next≤900000000) (aD:B.names.length≤9000000000) (o:lM) (hk:o.kind=6):
  Calls Tryz.prog 67 #[.pointer (some ⟨p,0,none⟩),.pointer (some ⟨b,0,none⟩),.agg (dI o).toArray] w fun e J=>e= .returned (.bool true)∧
   ∃ V' B' U',Qm w J b B U V' B' U' (P.V.L.length+2):=by
 have c:=u.bH;have h7:=c.file.seven;have Z:=asW c;have aa:Ls P.D.L P.D.L.length=E.map (·.name):=by rw [← u.jw];exact asV
 have Yk:P.D.L.length=E.length:=by rw [← u.jw,Jw]
 have ab:=c.iR.2;have h4:=c.file.iR.len;have A:aC w (w.alloc (.cells (dI o).toArray 80)):=fC;have T:(w.alloc (.cells (dI o).toArray 80)).heap[w.heap.size]? = some (.cells (dI o).toArray 80 (0,0)):=aX _ _;have ck:(w.alloc (.cells (dI o).toArray 80)).cell? ⟨w.heap.size,0,none⟩=some (.int .i64 6):=by rw [aF T 0,bZ];show some (Value.int .i64 o.kind)=_;rw [hk]
 have c0:=(h.below A).c0;have H:=ah h;have HB:=ah a;have m:=ah A;have ad:=a.lt;have aE:=h.lt;have C:=ah (fun (W:World) (hB:aC w W)=>aqd W P.d P.v P.Cv P.Lv P.V (H.below hB).ig om);rw [Z,ab] at C;have F:=ah (fun (W:World) (hB:aC w W)=>auQ W P.y P.Pv P.D (H.below hB).ref om);rw [aa,Yk] at F;have aq:(E.map (·.name)).length=E.length:=tY _;generalize E.map (·.name)=q at*;generalize E.length=n at*;clear h a A T c u Z aa ab Yk
 go_enter Tryz.func67,Tryz.ntmps67
 go_wp2_with fail
 generalize w.alloc (.cells (dI o).toArray 80)=w0 at*;refine (uh C w0 m).mono ?_;rintro e w1 ⟨lv,rfl,G,b1⟩;have r:=ah (m.trans (b1.mono m.size));have ar:w.heap.size≤w0.heap.size:=m.size;have I: ∀ g,lv.ownBlock=some g→w.heap.size≤g:=fun g c=>jL ar (G.lt g c).1;have c1:=(H.below r).c1;have R1:=ah (Ba G (lX _));clear b1 m c0 ck G C
 go_wp2_with fail
 refine (uh F w1 r).mono ?_;rintro e w2 ⟨mv,rfl,ae,b2⟩;have R2:=ah (bV (Kept.dQ (S:=fun _=>False) b2) R1 (fun _ _=>id));have M2:=ah (Ba ae (lX _));have B2:=ah (r.trans (b2.mono r.size));clear R1 ae b2 r c1 F;obtain ⟨la,jh,rfl⟩:=gQ R2;obtain ⟨ma,Vw,rfl⟩:=gQ M2;go_wp2;have af:(sv q).length=n:=by rw [awk,aq]
 have X: ∀ k,k<n→(sv q)[k]? = some (.string (bM (q.getD k []))):=fun k hk=>by
  unfold sv;rw [jK,aN,bJ om];rfl
 have ag:=ah X;clear X;have aL:(n:Int)≤4:=om
 go_loopw [17,18] (fun s i J=> ∃ k:Nat,k≤n∧s= .bool true∧i= .int .i64 k∧aC w2 J) (fun _ i _=>n - (intOf i).toNat)
 case atStart=>exact ⟨0,om,rfl,rfl,bG _ _⟩
 case round=>
  obtain ⟨k,aM,rfl,rfl,a⟩:=hrel
  by_cases z:k<n
  ·have av:(k:Int)<(n:Int):=om;have M:=bV (Kept.dQ (S:=fun _=>False) a) R2 (fun _ _=>id);have N:=bV (Kept.dQ (S:=fun _=>False) a) M2 (fun _ _=>id);obtain ⟨g,ai,e2,_⟩:=gy M om;obtain ⟨rfl,rfl⟩:la=some ⟨g,0,none⟩∧jh=ai:=by injection e2 with O x2 Q;exact ⟨O,Q⟩
   obtain ⟨g3,al,e3,_⟩:=gy N om;obtain ⟨rfl,rfl⟩:ma=some ⟨g3,0,none⟩∧Vw=al:=by injection e3 with O x2 Q;exact ⟨O,Q⟩
   have d1:=row_one M k z (uh ag k z);have d2:=row_one N k z (uh ag k z);have Hb:=ah a;clear a M N e2 e3;generalize bM (q.getD k [])=t at*;go_wp2
   go_quiet (fail)
   go_wp2;go_roundw
   case rel=>exact ⟨k+1,om,rfl,gn,Hb.trans ((((Kept.refl (fun _=>False) wr).drewN nq).below).mono Hb.size)⟩
   case measure=>exact bW
  ·have av: ¬ (k:Int)<(n:Int):=om;have R3:=ah (bV (Kept.dQ (S:=fun _=>False) a) R2 (fun _ _=>id));have j:=ah (B2.trans (a.mono B2.size));clear a
   go_wp2_with fail
   have R:=ah (atX wr b V B U (.slice la n jh) (sv q) (HB.below j) (by rw [af];exact uh R3) (fun g c hu=>by have:=I g c;have:=ad g hu;omega) om om om);rw [af] at R;refine R.mono ?_;rintro e w4 ⟨rfl,V4,B4,U4,an,n4,l4,ao,Us,m4,l,s4⟩;have Y:Qm w w4 b B U V4 B4 U4 (P.V.L.length+2):=by
    have aw:=j.size;refine ⟨an,om,by rw [Us];omega,by rw [ao];omega,om,fun x f=>aA (by rw [Us] at f;exact f),fun x f=>aA (by rw [ao] at f;exact f),fun x f=> ?_,?_,fun k hk=> ?_⟩
    ·rcases m4 x f with y | y
     ·exact aA y
     ·exact ay om
    ·refine ⟨l.os.trans j.os,l.tape.trans j.tape,l.output.trans j.output,jL aw l.size,fun k hk ax=> ?_⟩;rw [l.block k om (fun hu=> ?_),j.block k hk];rcases hu with x | x
     ·exact ax x
     ·have:=I k x;omega
    ·rcases s4 k hk with x | x | x
     ·exact aA x
     ·exact ay (I k x)
     ·exact ay om
   have CO:=ah Y;clear Y an l s4 m4 R;go_wp2;go_ret;exact ⟨rfl,_,_,_,uh CO⟩
end
section
section
variable {V:aB} {N0:Nat} {E:List aW} {K:Nat} {data:aj} {base:List aj}
structure anZ (V:aB) (N0:Nat) (E:List aW) (K:Nat) (base:List aj:=[]):Prop where
 bH:aY base V N0 E
 exact:wJ V.C (aH N0 E)
 jI: ∀ m,m<256→aQ V.C m≤K
 ayr:base=[]→V.short=false
end
section
variable {V V':aB} {N0 N1:Nat} {E E':List aW} {data:aj} {base base':List aj}
end
end
section
attribute [local go_sem ↓] dw fP fV jE
attribute [local go_sem] dM fO fU gW gB aV jc jd
structure anD (w:World) (b:Nat) (C:List aj):Prop where
 aG:w.heap[b]? = some (.cells (aS C).toArray 40 (0,0))
 cont:uJ C

structure KAt (W0 W:World) (d v bc:Nat) (Cv Lv:Value) (V:aB) (C:List aj):Prop where
 ig:pK W d v Cv Lv V
 cont:anD W bc C
 below:aC W0 W
 lo: ∀ k,MW d v Cv Lv k→W0.heap.size≤k
 bcl:W0.heap.size≤bc

end
section
def ajY (a:Addr):Sem Value:=loadVar 40 a
def asr (a:Addr):loadVar 40 a=ajY a:=rfl
def avt {w:World} {b o:Nat} (h:dU w b o 4096):(ajY ⟨b,o,none⟩).run Tryz.prog w= .ok (.agg (dO w b o 4096).toArray) w:=
 BQ h 40 _ Tryz.underlying40 rfl kr
def awe (a:Addr) (v:Value):Sem Unit:=storeVar 40 a v
def awg (a:Addr) (v:Value):storeVar 40 a v=awe a v:=rfl
def ani:Sem Value:=zeroValue 40
def axI:zeroValue 40=ani:=rfl
def avw (w:World):ani.run Tryz.prog w= .ok (.agg (aS zD).toArray) w:=
 (uZ (P:=Tryz.prog) (t:=40) (v:= .agg (aS zD).toArray) (n:=4096) kr).1 w
attribute [local go_sem ↓] asr awg axI O8 VX
attribute [local go_sem] avt avw Sl
structure At (w W:World) (d v bc:Nat) (Cv Lv:Value) (V:aB) (N0:Nat) (E:List aW) (K:Nat) (D:dR) (base:List aj:=[]):Prop where
 at':KAt w W d v bc Cv Lv V D.C
 held:anZ V N0 E K base
 jw:bD V.C N0 E=D
end
section
attribute [local go_sem] Oper.semAt_some
structure oN (w:World):Prop where
 err: ∀ g,g<9→ ∃ t v,w.cell? ⟨g,0,none⟩=some (.iface t v)
 typ:w.cell? ⟨5,0,none⟩=some (.iface 246 (.agg #[.pointer (some ⟨10,98,none⟩)]))
def oN.size {w:World} (h:oN w):9≤w.heap.size:=by
 obtain ⟨t,v,a⟩:=h.err 8 om;unfold World.cell? at a;rcases J8 8 w.heap.size with x | x
 ·omega
 ·rw [Qj (show w.heap.size≤(⟨8,0,none⟩:Addr).block from x)] at a;cases a
def oN.kept {w a:World} {S:Nat→Prop} (h:oN w) (hk:Kept S w a) (hs: ∀ k,k<9→ ¬ S k):oN a:=by
 have c:=h.size;have key: ∀ g,g<9→a.cell? ⟨g,0,none⟩=w.cell? ⟨g,0,none⟩:=fun g b=>by
  unfold World.cell?;rw [show a.heap[(⟨g,0,none⟩:Addr).block]? = w.heap[(⟨g,0,none⟩:Addr).block]? from hk.block g om (hs g b)]
 refine ⟨fun g b=> ?_,?_⟩
 ·rw [key g b];exact h.err g b
 ·rw [key 5 om];exact h.typ
def oN.below {w a:World} (h:oN w) (b:aC w a):oN a:=h.kept (S:=fun _=>False) (Kept.dQ b) (fun _ _=>id)
def kS (c:Nat) (x:Value):Value:= .iface 157 (.agg #[.int .i64 (c:Nat),x])
def isIface (x:Value):Prop:= ∃ t v,x= .iface t v
def rv (M:List Nat):List Value:=M.map fun k=> .int .u8 (k:Nat)
def wX (T:Nat) (M:List Nat):List Value:= .int .i64 (T:Nat) :: rv M
structure vC (w:World) (b T:Nat) (M:List Nat):Prop where
 aG:w.heap[b]? = some (.cells (wX T M).toArray 212 (0,0))
 len:M.length=256
def avA (M:List Nat) (i:Nat) (h:i<M.length):(rv M)[i]? = some (.int .u8 ((M.getD i 0:Nat):Int)):=by
 unfold rv;rw [jK,bJ h,aN,bJ h];rfl
def vC.c0 {w:World} {b T:Nat} {M:List Nat} (h:vC w b T M):w.cell? ⟨b,0,none⟩=some (.int .i64 (T:Nat)):=by rw [aF h.aG];rfl
def vC.cell {w:World} {b T:Nat} {M:List Nat} (h:vC w b T M) (n:Nat) (hn:n<256):w.cell? ⟨b,1+n,none⟩=some (.int .u8 ((M.getD n 0:Nat):Int)):=by
 rw [aF h.aG,bZ,Ci];show (rv M)[n]? = _;exact avA M n (by rw [h.len];exact hn)
def vC.fz {w:World} {b T:Nat} {M:List Nat} (h:vC w b T M) (i:Nat):w.frozen? ⟨b,i,none⟩=false:=eY h.aG i
def vC.kept {w a:World} {b T:Nat} {M:List Nat} {S:Nat→Prop} (h:vC w b T M) (hk:Kept S w a) (hs: ¬ S b):vC a b T M:=⟨hk.aG hs h.aG,h.len⟩
def vC.below {w a:World} {b T:Nat} {M:List Nat} (h:vC w b T M) (c:aC w a):vC a b T M:=h.kept (S:=fun _=>False) (Kept.dQ c) id
def vC.put {w:World} {b T:Nat} {M:List Nat} (h:vC w b T M) (n kind:Nat):vC (w.setCell ⟨b,1+n,none⟩ (.int .u8 (kind:Nat))) b T (M.set n kind):=by
 refine ⟨?_,by simp [h.len]⟩;rw [heap_setCell_same _ _ _ _ _ _ _ h.aG,Bh];simp only [wX,rv,Og,Ci 1 n,xg]
def JK (M:List Nat) (T n kind:Nat):Bool:=decide (n<6) || (decide (T≤n) || (M.getD n 0 != 0 && (M.getD n 0 != kind || kind == 1)))
def aek (w:World) (b T:Nat) (M:List Nat) (n kind:Nat) (h:vC w b T M) (c:oN w) (s:T≤256) (hn:n<65536) (hk:kind<256) (j: ∀ i,M.getD i 0<256) (a:JK M T n kind=true):
  Calls Tryz.prog 151 #[.pointer (some ⟨b,0,none⟩),.int .i64 (n:Nat),.int .u8 (kind:Nat)] w fun e k=>(∃ x,isIface x∧e= .returned x)∧k=w:=by
 obtain ⟨t,v6,u⟩:=c.err 6 om;obtain ⟨v,y,z⟩:=c.err 7 om;have c0:=h.c0;have A:=h.fz
 by_cases l:n<6
 ·have o:((n:Nat):Int)<6:=om;clear a
  go_enter Tryz.func151,Tryz.ntmps151
  go_wp2;go_ret;exact ⟨⟨_,⟨_,_,rfl⟩,rfl⟩,rfl⟩
 ·have o: ¬ ((n:Nat):Int)<6:=om
  by_cases p:T≤n
  ·have q:((T:Nat):Int)≤((n:Nat):Int):=om;clear a
   go_enter Tryz.func151,Tryz.ntmps151
   go_wp2;go_ret;exact ⟨⟨_,⟨_,_,rfl⟩,rfl⟩,rfl⟩
  ·have d:n<256:=om;have cn:=h.cell n d;have q: ¬ ((T:Nat):Int)≤((n:Nat):Int):=om;unfold JK at a;rw [gK l,gK p,Gh,Gh] at a;have hm:=j n;generalize M.getD n 0=m at*;have f:m≠0:=by rintro rfl;cases a
   have B:(((m:Nat):Int) != 0)=true:=by rw [ou];omega
   by_cases g:m=kind
   ·subst g;have r:m=1:=by simpa [f] using a
    subst r;clear a
    go_enter Tryz.func151,Tryz.ntmps151
    go_wp2;go_ret;exact ⟨⟨_,⟨_,_,rfl⟩,rfl⟩,rfl⟩
   ·have C:(((m:Nat):Int) != ((kind:Nat):Int))=true:=by rw [ou];omega
    clear a
    go_enter Tryz.func151,Tryz.ntmps151
    go_wp2;go_ret;exact ⟨⟨_,⟨_,_,rfl⟩,rfl⟩,rfl⟩
def ael (w:World) (b T:Nat) (M:List Nat) (n kind:Nat) (h:vC w b T M) (p:T≤256) (hk:kind<256) (k: ∀ i,M.getD i 0<256) (a:JK M T n kind=false):
  Calls Tryz.prog 151 #[.pointer (some ⟨b,0,none⟩),.int .i64 (n:Nat),.int .u8 (kind:Nat)] w fun e l=>e= .returned .nilIface∧l=w.setCell ⟨b,1+n,none⟩ (.int .u8 (kind:Nat)):=by
 have c0:=h.c0;have q:=h.fz;unfold JK at a;rw [Cm,Cm] at a;obtain ⟨d,f,a⟩:=a;have d:=F9 d;have f:=F9 f;have g:n<256:=om;have cn:=h.cell n g;have r: ¬ ((n:Nat):Int)<6:=om;have s: ¬ ((T:Nat):Int)≤((n:Nat):Int):=om;have t:((n:Nat):Int)<256:=om;have hm:=k n;generalize M.getD n 0=m at*
 by_cases c:m=0
 ·subst c;clear a
  go_enter Tryz.func151,Tryz.ntmps151
  go_wp2;go_ret;exact ⟨rfl,rfl⟩
 ·have u:(((m:Nat):Int) != 0)=true:=by rw [ou];omega
  have o:(m != 0)=true:=by simpa using c
  rw [o,um,Cm] at a;have j:m=kind:=by simpa using a.1
  have v: ¬ kind=1:=by simpa using a.2
  subst j;have x:(((m:Nat):Int) == 1)=false:=by rw [lY];omega
  clear a
  go_enter Tryz.func151,Tryz.ntmps151
  go_wp2;go_ret;exact ⟨rfl,rfl⟩
def JU (M:List Nat) (T first t i x:Nat):Bool:=if t=first then (decide (2≤i) || JK M T (x%32768) 2) else JK M T (x%32768) 3
def Sv (first t:Nat):Nat:=if t=first then 2 else 3
def avZ (w:World) (b T:Nat) (M:List Nat) (first t i x:Nat) (h:vC w b T M) (q:oN w) (r:T≤256) (u:x<65536) (s: ∀ i,M.getD i 0<256) (a:JU M T first t i x=true):
  Calls Tryz.prog 153 #[.pointer (some ⟨b,0,none⟩),.agg #[.int .i64 (t:Nat),.int .i64 (i:Nat),.int .u16 (x:Nat)],.int .i64 (first:Nat)] w fun e v=>(∃ x,isIface x∧e= .returned x)∧aC w v:=by
 have f:aC w (w.alloc (.cells #[.int .i64 (t:Nat),.int .i64 (i:Nat),.int .u16 (x:Nat)] 219)):=fC;have j:=ah f;have g:vC (w.alloc (.cells #[.int .i64 (t:Nat),.int .i64 (i:Nat),.int .u16 (x:Nat)] 219)) b T M:=h.below f;have d:=q.below f;clear h q;obtain ⟨C,D,F⟩:=d.err 8 om;have k:=ah (fun W=>CW x u W);have p:x%32768<65536:=om;unfold JU at a
 by_cases l:t=first
 ·rw [au l] at a;subst l;have z:(((t:Nat):Int) != ((t:Nat):Int))=false:=by rw [afl]
  by_cases A:2≤i
  ·have B:(2:Int)≤((i:Nat):Int):=om;clear a k g d f
   go_enter Tryz.func153,Tryz.ntmps153
   go_wp2;go_ret;exact ⟨⟨_,⟨_,_,rfl⟩,rfl⟩,uh j⟩
  ·have B: ¬ (2:Int)≤((i:Nat):Int):=om;rw [gK A,Gh] at a;have m:=ah (aek _ b T M (x%32768) 2 g d r p om s a);clear a g d f;generalize x%32768=c at*
   go_enter Tryz.func153,Tryz.ntmps153
   go_wp2_with fail
   refine (uh k _).mono ?_;rintro e n ⟨rfl,rfl⟩
   go_wp2_with fail
   refine m.mono ?_;rintro e n ⟨⟨y,o,rfl⟩,rfl⟩;go_wp2;go_ret;exact ⟨⟨_,o,rfl⟩,uh j⟩
 ·rw [ak l] at a;have z:(((t:Nat):Int) != ((first:Nat):Int))=true:=by rw [ou];omega
  have m:=ah (aek _ b T M (x%32768) 3 g d r p om s a);clear a g d f;generalize x%32768=c at*
  go_enter Tryz.func153,Tryz.ntmps153
  go_wp2_with fail
  refine (uh k _).mono ?_;rintro e n ⟨rfl,rfl⟩
  go_wp2_with fail
  refine m.mono ?_;rintro e n ⟨⟨y,o,rfl⟩,rfl⟩;go_wp2;go_ret;exact ⟨⟨_,o,rfl⟩,uh j⟩
def av2 (w:World) (b T:Nat) (M:List Nat) (first t i x:Nat) (h:vC w b T M) (m:T≤256) (r:x<65536) (n: ∀ i,M.getD i 0<256) (a:JU M T first t i x=false):
  Calls Tryz.prog 153 #[.pointer (some ⟨b,0,none⟩),.agg #[.int .i64 (t:Nat),.int .i64 (i:Nat),.int .u16 (x:Nat)],.int .i64 (first:Nat)] w fun e o=>e= .returned .nilIface∧vC o b T (M.set (x%32768) (Sv first t))∧Kept (fun k=>k=b) w o:=by
 have f:aC w (w.alloc (.cells #[.int .i64 (t:Nat),.int .i64 (i:Nat),.int .u16 (x:Nat)] 219)):=fC;have d:vC (w.alloc (.cells #[.int .i64 (t:Nat),.int .i64 (i:Nat),.int .u16 (x:Nat)] 219)) b T M:=h.below f;have p:=ah f;have H1:=ah d;clear h;have q:=ah (fun W=>CW x r W);unfold JU at a;unfold Sv
 by_cases g:t=first
 ·rw [au g] at a ⊢;subst g;have s:(((t:Nat):Int) != ((t:Nat):Int))=false:=by rw [afl]
  rw [Cm] at a;have u:=F9 a.1;have v: ¬ (2:Int)≤((i:Nat):Int):=om;have j:=ah (ael _ b T M (x%32768) 2 d m om n a.2);clear a d f;generalize x%32768=c at*
  go_enter Tryz.func153,Tryz.ntmps153
  go_wp2_with fail
  refine (uh q _).mono ?_;rintro e l ⟨rfl,rfl⟩
  go_wp2_with fail
  refine j.mono ?_;rintro e l ⟨rfl,rfl⟩;go_wp2;go_ret;exact ⟨rfl,H1.put _ _,(Kept.dQ p).trans (Kept.only _ _ _ _)⟩
 ·rw [ak g] at a ⊢;have s:(((t:Nat):Int) != ((first:Nat):Int))=true:=by rw [ou];omega
  have j:=ah (ael _ b T M (x%32768) 3 d m om n a);clear a d f;generalize x%32768=c at*
  go_enter Tryz.func153,Tryz.ntmps153
  go_wp2_with fail
  refine (uh q _).mono ?_;rintro e l ⟨rfl,rfl⟩
  go_wp2_with fail
  refine j.mono ?_;rintro e l ⟨rfl,rfl⟩;go_wp2;go_ret;exact ⟨rfl,H1.put _ _,(Kept.dQ p).trans (Kept.only _ _ _ _)⟩
attribute [local go_sem ↓] dw fP fV kU mZ nC jR kP kJ kF lG lI kR kQ kV ng nD l9 nJ jE
attribute [local go_sem] dM fO fU gW gB aV kY mP mW mQ mO gX jT kN kH lq kX iM kG lu lD lC kM jc jd nH nK kW kZ mX nT mV mM nN
structure Qx (file:List aj):Prop where
 qp:6≤file.length
 same:fG (num (cl file 0) 4) (num (cl file 0) 6)=cl file 0
 seven:7≤num (cl file 0) 4
 most:num (cl file 0) 4≤256
 le:file.length≤num (cl file 0) 4
def apz (w:World) (b:Value) (file:List aj) (c:kK w b file) (d:oN w) (g:file.length≤5):
  Calls Tryz.prog 90 #[b] w fun e f=>(∃ x,isIface x∧e= .returned (kS 0 x))∧aC w f:=by
 obtain ⟨h,v0,i⟩:=d.err 0 om;obtain ⟨a,cap,rfl⟩:=gQ c.row;have j:((file.length:Nat):Int)≤5:=om
 go_enter Tryz.func90,Tryz.ntmps90
 go_wp2;go_ret;exact ⟨⟨_,⟨_,_,rfl⟩,rfl⟩,bG _ _⟩
def apt (w:World) (t:Value) (file:List aj) (a:kK w t file) (u:oN w) (R:6≤file.length) (hm:file.length≤1000000)
  (r:fG (num (cl file 0) 4) (num (cl file 0) 6)≠cl file 0):
  Calls Tryz.prog 90 #[t] w fun e L=>(∃ x,isIface x∧e= .returned (kS 0 x))∧aC w L:=by
 have U: ¬ ((file.length:Nat):Int)≤5:=om;have q:=je a.lens (k:=0) om;have v:Hid (∀ W,_):=fun W=>OU W (cl file 0) q;have F:=iK (cl file 0) 4;have G:=iK (cl file 0) 6;obtain ⟨g,cap,rfl,Q⟩:=gy a.row om;have j:=oQ a.row a.lens 0 om;have l:=oP a.row a.lens 0 om;simp only [zS] at j l;have X:(0:Int)<(file.length:Int):=om;have Y:=ah a;have n:=ah (fun W (o:aC w W)=>(⟨oQ (a.kept (S:=fun _=>False) (Kept.dQ o) (fun _ _=>id)).row a.lens 0 om,oP (a.kept (S:=fun _=>False) (Kept.dQ o) (fun _ _=>id)).row a.lens 0 om⟩:_∧_));simp only [zS] at n;have y:=ah u;clear a u;generalize cl file 0=c at*;generalize num c 4=T at*;generalize num c 6=N at*;have M:=ah r;clear r;have H:(fG T N).length=64:=JC T N
 go_enter Tryz.func90,Tryz.ntmps90
 go_wp2_with fail
 refine (uh v _).mono ?_;rintro e h ⟨rfl,m⟩;have f:=ah (m.alloc m.size (.cells (hv T N).toArray 128));have z:=ah (aX h (.cells (hv T N).toArray 128));clear m j l v
 go_wp2_with fail
 generalize I:h.alloc (.cells (hv T N).toArray 128)=b at*;clear I;have i: ∀ d os,(Go.Sort.grow (redrawn b d) os).heap[h.heap.size]? = some (.cells (hv T N).toArray 128 (0,0)):=fun d os=>((lJ b d os).block _ (aK z)).trans z;have O: ∀ d os,dU (Go.Sort.grow (redrawn b d) os) h.heap.size 0 2:=fun d os=>fH (i d os) (sV _ _);have P: ∀ d os,dO (Go.Sort.grow (redrawn b d) os) h.heap.size 0 2=hv T N:=fun d os=>fM (i d os) (sV _ _);have A: ∀ d os,(Go.Sort.grow (redrawn b d) os).cell? ⟨h.heap.size,0,none⟩=some (.int .i64 (T:Nat)):=fun d os=>by rw [aF (i d os)];rfl
 have j: ∀ d os,dU (Go.Sort.grow (redrawn b d) os) g 0 64:=fun d os=>(uh n _ (f.trans ((lJ b d os).mono f.size))).1;have l: ∀ d os,dO (Go.Sort.grow (redrawn b d) os) g 0 64=cv c:=fun d os=>(uh n _ (f.trans ((lJ b d os).mono f.size))).2;have B:=ah (fun d os=>QZ (Go.Sort.grow (redrawn b d) os) T N F G);have he: ∀ w,(yC (.agg (cv (fG T N)).toArray) (.agg (cv c).toArray)).run Tryz.prog w= .ok false w:=fun w=>by rw [wY H q,gK (uh M)]
 clear i;generalize fG T N=o at*;refine DJ kr kr ?_
 repeat (go_big_quiet_step (exact Aj (uh B _ _)))
 refine DK ?_;intro _ J;obtain ⟨⟨C,s⟩,D⟩:=J;subst D;have p:=ah (f.trans ((lJ b C s).mono f.size));have Z:=A C s;obtain ⟨t0,v0,g0⟩:=(y.below p).err 0 om;obtain ⟨t1,v1,g1⟩:=(y.below p).err 1 om;clear j l O P A B he;go_wp2;go_ret;exact ⟨⟨_,⟨_,_,rfl⟩,rfl⟩,uh p⟩
def apx (w:World) (t:Value) (file:List aj) (a:kK w t file) (u:oN w) (U:6≤file.length) (hm:file.length≤1000000)
  (q:fG (num (cl file 0) 4) (num (cl file 0) 6)=cl file 0) (Q:num (cl file 0) 4≤6):
  Calls Tryz.prog 90 #[t] w fun e L=>(∃ x,isIface x∧e= .returned (kS 0 x))∧aC w L:=by
 have X: ¬ ((file.length:Nat):Int)≤5:=om;have r:=je a.lens (k:=0) om;have v:Hid (∀ W,_):=fun W=>OU W (cl file 0) r;have F:=iK (cl file 0) 4;have G:=iK (cl file 0) 6;obtain ⟨g,cap,rfl,R⟩:=gy a.row om;have j:=oQ a.row a.lens 0 om;have l:=oP a.row a.lens 0 om;simp only [zS] at j l;have Y:(0:Int)<(file.length:Int):=om;have Z:=ah a;have n:=ah (fun W (o:aC w W)=>(⟨oQ (a.kept (S:=fun _=>False) (Kept.dQ o) (fun _ _=>id)).row a.lens 0 om,oP (a.kept (S:=fun _=>False) (Kept.dQ o) (fun _ _=>id)).row a.lens 0 om⟩:_∧_));simp only [zS] at n;have y:=ah u;clear a u;generalize cl file 0=c at*;generalize num c 4=T at*;generalize num c 6=N at*;have dl:decide (((T:Nat):Int)≤6)=true:=dZ om;have M:=ah q;clear q;have H:(fG T N).length=64:=JC T N
 go_enter Tryz.func90,Tryz.ntmps90
 go_wp2_with fail
 refine (uh v _).mono ?_;rintro e h ⟨rfl,m⟩;have f:=ah (m.alloc m.size (.cells (hv T N).toArray 128));have z:=ah (aX h (.cells (hv T N).toArray 128));clear m j l v
 go_wp2_with fail
 generalize I:h.alloc (.cells (hv T N).toArray 128)=b at*;clear I;have i: ∀ d os,(Go.Sort.grow (redrawn b d) os).heap[h.heap.size]? = some (.cells (hv T N).toArray 128 (0,0)):=fun d os=>((lJ b d os).block _ (aK z)).trans z;have O: ∀ d os,dU (Go.Sort.grow (redrawn b d) os) h.heap.size 0 2:=fun d os=>fH (i d os) (sV _ _);have P: ∀ d os,dO (Go.Sort.grow (redrawn b d) os) h.heap.size 0 2=hv T N:=fun d os=>fM (i d os) (sV _ _);have A: ∀ d os,(Go.Sort.grow (redrawn b d) os).cell? ⟨h.heap.size,0,none⟩=some (.int .i64 (T:Nat)):=fun d os=>by rw [aF (i d os)];rfl
 have j: ∀ d os,dU (Go.Sort.grow (redrawn b d) os) g 0 64:=fun d os=>(uh n _ (f.trans ((lJ b d os).mono f.size))).1;have l: ∀ d os,dO (Go.Sort.grow (redrawn b d) os) g 0 64=cv c:=fun d os=>(uh n _ (f.trans ((lJ b d os).mono f.size))).2;have B:=ah (fun d os=>QZ (Go.Sort.grow (redrawn b d) os) T N F G);have he: ∀ w,(yC (.agg (cv (fG T N)).toArray) (.agg (cv c).toArray)).run Tryz.prog w= .ok true w:=fun w=>by rw [wY H r,dZ (uh M)]
 clear i;generalize fG T N=o at*;refine DJ kr kr ?_
 repeat (go_big_quiet_step (exact Aj (uh B _ _)))
 refine DK ?_;intro _ J;obtain ⟨⟨C,s⟩,D⟩:=J;subst D;have p:=ah (f.trans ((lJ b C s).mono f.size));have k4:=A C s;obtain ⟨t0,v0,g0⟩:=(y.below p).err 0 om;obtain ⟨t1,v1,g1⟩:=(y.below p).err 1 om;clear j l O P A B he;go_wp2;go_ret;exact ⟨⟨_,⟨_,_,rfl⟩,rfl⟩,uh p⟩
def apv (w:World) (t:Value) (file:List aj) (a:kK w t file) (u:oN w) (U:6≤file.length) (hm:file.length≤1000000)
  (q:fG (num (cl file 0) 4) (num (cl file 0) 6)=cl file 0) (R:256<num (cl file 0) 4):
  Calls Tryz.prog 90 #[t] w fun e L=>(∃ x,isIface x∧e= .returned (kS 0 x))∧aC w L:=by
 have X: ¬ ((file.length:Nat):Int)≤5:=om;have r:=je a.lens (k:=0) om;have v:Hid (∀ W,_):=fun W=>OU W (cl file 0) r;have F:=iK (cl file 0) 4;have G:=iK (cl file 0) 6;obtain ⟨g,cap,rfl,Q⟩:=gy a.row om;have j:=oQ a.row a.lens 0 om;have l:=oP a.row a.lens 0 om;simp only [zS] at j l;have Y:(0:Int)<(file.length:Int):=om;have Z:=ah a;have n:=ah (fun W (o:aC w W)=>(⟨oQ (a.kept (S:=fun _=>False) (Kept.dQ o) (fun _ _=>id)).row a.lens 0 om,oP (a.kept (S:=fun _=>False) (Kept.dQ o) (fun _ _=>id)).row a.lens 0 om⟩:_∧_));simp only [zS] at n;have y:=ah u;clear a u;generalize cl file 0=c at*;generalize num c 4=T at*;generalize num c 6=N at*;have dl:decide (((T:Nat):Int)≤6)=false:=gK om;have dh:decide ((256:Int)<((T:Nat):Int))=true:=dZ om;have M:=ah q;clear q;have H:(fG T N).length=64:=JC T N
 go_enter Tryz.func90,Tryz.ntmps90
 go_wp2_with fail
 refine (uh v _).mono ?_;rintro e h ⟨rfl,m⟩;have f:=ah (m.alloc m.size (.cells (hv T N).toArray 128));have z:=ah (aX h (.cells (hv T N).toArray 128));clear m j l v
 go_wp2_with fail
 generalize I:h.alloc (.cells (hv T N).toArray 128)=b at*;clear I;have i: ∀ d os,(Go.Sort.grow (redrawn b d) os).heap[h.heap.size]? = some (.cells (hv T N).toArray 128 (0,0)):=fun d os=>((lJ b d os).block _ (aK z)).trans z;have O: ∀ d os,dU (Go.Sort.grow (redrawn b d) os) h.heap.size 0 2:=fun d os=>fH (i d os) (sV _ _);have P: ∀ d os,dO (Go.Sort.grow (redrawn b d) os) h.heap.size 0 2=hv T N:=fun d os=>fM (i d os) (sV _ _);have A: ∀ d os,(Go.Sort.grow (redrawn b d) os).cell? ⟨h.heap.size,0,none⟩=some (.int .i64 (T:Nat)):=fun d os=>by rw [aF (i d os)];rfl
 have j: ∀ d os,dU (Go.Sort.grow (redrawn b d) os) g 0 64:=fun d os=>(uh n _ (f.trans ((lJ b d os).mono f.size))).1;have l: ∀ d os,dO (Go.Sort.grow (redrawn b d) os) g 0 64=cv c:=fun d os=>(uh n _ (f.trans ((lJ b d os).mono f.size))).2;have B:=ah (fun d os=>QZ (Go.Sort.grow (redrawn b d) os) T N F G);have he: ∀ w,(yC (.agg (cv (fG T N)).toArray) (.agg (cv c).toArray)).run Tryz.prog w= .ok true w:=fun w=>by rw [wY H r,dZ (uh M)]
 clear i;generalize fG T N=o at*;refine DJ kr kr ?_
 repeat (go_big_quiet_step (exact Aj (uh B _ _)))
 refine DK ?_;intro _ J;obtain ⟨⟨C,s⟩,D⟩:=J;subst D;have p:=ah (f.trans ((lJ b C s).mono f.size));have k4:=A C s;obtain ⟨t0,v0,g0⟩:=(y.below p).err 0 om;obtain ⟨t1,v1,g1⟩:=(y.below p).err 1 om;clear j l O P A B he;go_wp2;go_ret;exact ⟨⟨_,⟨_,_,rfl⟩,rfl⟩,uh p⟩
def apw (w:World) (t:Value) (file:List aj) (a:kK w t file) (u:oN w) (X:6≤file.length) (hm:file.length≤1000000)
  (q:fG (num (cl file 0) 4) (num (cl file 0) 6)=cl file 0) (Q:7≤num (cl file 0) 4) (U:num (cl file 0) 4≤256) (hle:num (cl file 0) 4<file.length):
  Calls Tryz.prog 90 #[t] w fun e L=>(∃ x,isIface x∧e= .returned (kS 0 x))∧aC w L:=by
 have Y: ¬ ((file.length:Nat):Int)≤5:=om;have r:=je a.lens (k:=0) om;have v:Hid (∀ W,_):=fun W=>OU W (cl file 0) r;have F:=iK (cl file 0) 4;have G:=iK (cl file 0) 6;obtain ⟨g,cap,rfl,R⟩:=gy a.row om;have j:=oQ a.row a.lens 0 om;have l:=oP a.row a.lens 0 om;simp only [zS] at j l;have Z:(0:Int)<(file.length:Int):=om;have HF:=ah a;have n:=ah (fun W (o:aC w W)=>(⟨oQ (a.kept (S:=fun _=>False) (Kept.dQ o) (fun _ _=>id)).row a.lens 0 om,oP (a.kept (S:=fun _=>False) (Kept.dQ o) (fun _ _=>id)).row a.lens 0 om⟩:_∧_));simp only [zS] at n;have y:=ah u;clear a u;generalize cl file 0=c at*;generalize num c 4=T at*;generalize num c 6=N at*;have dl:decide (((T:Nat):Int)≤6)=false:=gK om;have dh:decide ((256:Int)<((T:Nat):Int))=false:=gK om;have dn:decide (((T:Nat):Int)<((file.length:Nat):Int))=true:=dZ om;have M:=ah q;clear q
 have H:(fG T N).length=64:=JC T N
 go_enter Tryz.func90,Tryz.ntmps90
 go_wp2_with fail
 refine (uh v _).mono ?_;rintro e h ⟨rfl,m⟩;have f:=ah (m.alloc m.size (.cells (hv T N).toArray 128));have z:=ah (aX h (.cells (hv T N).toArray 128));clear m j l v
 go_wp2_with fail
 generalize I:h.alloc (.cells (hv T N).toArray 128)=b at*;clear I;have i: ∀ d os,(Go.Sort.grow (redrawn b d) os).heap[h.heap.size]? = some (.cells (hv T N).toArray 128 (0,0)):=fun d os=>((lJ b d os).block _ (aK z)).trans z;have O: ∀ d os,dU (Go.Sort.grow (redrawn b d) os) h.heap.size 0 2:=fun d os=>fH (i d os) (sV _ _);have P: ∀ d os,dO (Go.Sort.grow (redrawn b d) os) h.heap.size 0 2=hv T N:=fun d os=>fM (i d os) (sV _ _);have A: ∀ d os,(Go.Sort.grow (redrawn b d) os).cell? ⟨h.heap.size,0,none⟩=some (.int .i64 (T:Nat)):=fun d os=>by rw [aF (i d os)];rfl
 have j: ∀ d os,dU (Go.Sort.grow (redrawn b d) os) g 0 64:=fun d os=>(uh n _ (f.trans ((lJ b d os).mono f.size))).1;have l: ∀ d os,dO (Go.Sort.grow (redrawn b d) os) g 0 64=cv c:=fun d os=>(uh n _ (f.trans ((lJ b d os).mono f.size))).2;have B:=ah (fun d os=>QZ (Go.Sort.grow (redrawn b d) os) T N F G);have he: ∀ w,(yC (.agg (cv (fG T N)).toArray) (.agg (cv c).toArray)).run Tryz.prog w= .ok true w:=fun w=>by rw [wY H r,dZ (uh M)]
 clear i;generalize fG T N=o at*;refine DJ kr kr ?_
 repeat (go_big_quiet_step (exact Aj (uh B _ _)))
 refine DK ?_;intro _ J;obtain ⟨⟨C,s⟩,D⟩:=J;subst D;have p:=ah (f.trans ((lJ b C s).mono f.size));have k4:=A C s;obtain ⟨t0,v0,g0⟩:=(y.below p).err 0 om;obtain ⟨t1,v1,g1⟩:=(y.below p).err 1 om;clear j l O P A B he;go_wp2;go_ret;exact ⟨⟨_,⟨_,_,rfl⟩,rfl⟩,uh p⟩
def apy (w:World) (t:Value) (file:List aj) (a:kK w t file) (u:oN w) (U:6≤file.length) (hm:file.length≤1000000)
  (q:fG (num (cl file 0) 4) (num (cl file 0) 6)=cl file 0) (P:7≤num (cl file 0) 4) (R:num (cl file 0) 4≤256) (hle:file.length≤num (cl file 0) 4):
  Calls Tryz.prog 90 #[t] w fun e J=>e= .returned .nilIface∧aC w J:=by
 have X: ¬ ((file.length:Nat):Int)≤5:=om;have r:=je a.lens (k:=0) om;have v:Hid (∀ W,_):=fun W=>OU W (cl file 0) r;have D:=iK (cl file 0) 4;have F:=iK (cl file 0) 6;obtain ⟨g,cap,rfl,Q⟩:=gy a.row om;have j:=oQ a.row a.lens 0 om;have l:=oP a.row a.lens 0 om;simp only [zS] at j l;have Y:(0:Int)<(file.length:Int):=om;have Z:=ah a;have n:=ah (fun W (o:aC w W)=>(⟨oQ (a.kept (S:=fun _=>False) (Kept.dQ o) (fun _ _=>id)).row a.lens 0 om,oP (a.kept (S:=fun _=>False) (Kept.dQ o) (fun _ _=>id)).row a.lens 0 om⟩:_∧_));simp only [zS] at n;have x:=ah u;clear a u;generalize cl file 0=c at*;generalize num c 4=T at*;generalize num c 6=N at*;have dl:decide (((T:Nat):Int)≤6)=false:=gK om;have dh:decide ((256:Int)<((T:Nat):Int))=false:=gK om;have dn:decide (((T:Nat):Int)<((file.length:Nat):Int))=false:=gK om;have L:=ah q;clear q
 have G:(fG T N).length=64:=JC T N
 go_enter Tryz.func90,Tryz.ntmps90
 go_wp2_with fail
 refine (uh v _).mono ?_;rintro e h ⟨rfl,m⟩;have f:=ah (m.alloc m.size (.cells (hv T N).toArray 128));have y:=ah (aX h (.cells (hv T N).toArray 128));clear m j l v
 go_wp2_with fail
 generalize H:h.alloc (.cells (hv T N).toArray 128)=b at*;clear H;have i: ∀ d os,(Go.Sort.grow (redrawn b d) os).heap[h.heap.size]? = some (.cells (hv T N).toArray 128 (0,0)):=fun d os=>((lJ b d os).block _ (aK y)).trans y;have M: ∀ d os,dU (Go.Sort.grow (redrawn b d) os) h.heap.size 0 2:=fun d os=>fH (i d os) (sV _ _);have O: ∀ d os,dO (Go.Sort.grow (redrawn b d) os) h.heap.size 0 2=hv T N:=fun d os=>fM (i d os) (sV _ _);have z: ∀ d os,(Go.Sort.grow (redrawn b d) os).cell? ⟨h.heap.size,0,none⟩=some (.int .i64 (T:Nat)):=fun d os=>by rw [aF (i d os)];rfl
 have j: ∀ d os,dU (Go.Sort.grow (redrawn b d) os) g 0 64:=fun d os=>(uh n _ (f.trans ((lJ b d os).mono f.size))).1;have l: ∀ d os,dO (Go.Sort.grow (redrawn b d) os) g 0 64=cv c:=fun d os=>(uh n _ (f.trans ((lJ b d os).mono f.size))).2;have A:=ah (fun d os=>QZ (Go.Sort.grow (redrawn b d) os) T N D F);have he: ∀ w,(yC (.agg (cv (fG T N)).toArray) (.agg (cv c).toArray)).run Tryz.prog w= .ok true w:=fun w=>by rw [wY G r,dZ (uh L)]
 clear i;generalize fG T N=o at*;refine DJ kr kr ?_
 repeat (go_big_quiet_step (exact Aj (uh A _ _)))
 refine DK ?_;intro _ I;obtain ⟨⟨B,s⟩,C⟩:=I;subst C;have p:=ah (f.trans ((lJ b B s).mono f.size));have k4:=z B s;obtain ⟨t0,v0,g0⟩:=(x.below p).err 0 om;obtain ⟨t1,v1,g1⟩:=(x.below p).err 1 om;clear j l M O z A he;go_wp2;go_ret;exact ⟨rfl,uh p⟩
def aps (w:World) (a:Value) (file:List aj) (b:kK w a file) (c:oN w) (hm:file.length≤1000000) (f: ¬ Qx file):
  Calls Tryz.prog 90 #[a] w fun e g=>(∃ x,isIface x∧e= .returned (kS 0 x))∧aC w g:=by
 by_cases h:file.length≤5
 ·exact apz w a file b c h
 ·by_cases d:fG (num (cl file 0) 4) (num (cl file 0) 6)=cl file 0
  ·by_cases i:num (cl file 0) 4≤6
   ·exact apx w a file b c om hm d i
   ·by_cases j:256<num (cl file 0) 4
    ·exact apv w a file b c om hm d j
    ·by_cases k:num (cl file 0) 4<file.length
     ·exact apw w a file b c om hm d om om k
     ·exact absurd ⟨om,d,om,om,om⟩ f
  ·exact apt w a file b c om hm d
def apu (w:World) (a:Value) (file:List aj) (b:kK w a file) (c:oN w) (h:Qx file):
  Calls Tryz.prog 90 #[a] w fun e d=>e= .returned .nilIface∧aC w d:=
 apy w a file b c h.qp (by have:=h.le;have:=h.most;omega) h.same h.seven h.most h.le
end
end Go.Proofs.YtknjjjenklfeoaaGreatDoor
