import Derived.Test.YtknjjjenklfeoaaGreatDoorU09
set_option maxHeartbeats 8000000
set_option maxRecDepth 100000
set_option linter.all false
namespace Go.Proofs.YtknjjjenklfeoaaGreatDoor
open Go.RowKit
section
attribute [local go_sem ↓] dw fP fV kU mZ nC jR kP kJ kF lG lI kR kQ kV ng nD l9 nJ jE pW qM qO qA
attribute [local go_sem] dM fO fU gW gB aV kY mP mW mQ mO gX jT kN kH lq kX iM kG lu lD lC kM jc jd nH nK kW kZ mX nT mV mM nN qc qI qK qJ qH
def aun (p:sO) (n:Nat):(jk p).toArray.setIfInBounds 3 (.int .u16 (n:Nat))=(jk { p with second:=n }).toArray:=by simp [jk]
def alm (p:sO) (n:Nat):(jk p).toArray.setIfInBounds 4 (.int .u16 (n:Nat))=(jk { p with block:=n }).toArray:=by simp [jk]
def auo (p:sO) (T:List Nat) (a:p.tab.length=32) (b:T.length=32):mY (jk p).toArray 5 (tv T)=(jk { p with tab:=T }).toArray:=by
 have:=ZE [.int .i64 (p.first:Nat),.int .i64 (p.BH:Nat),.int .i64 (p.oJ:Nat),.int .u16 (p.second:Nat),.int .u16 (p.block:Nat)] (tv p.tab) (tv T) (by rw [ql,ql,a,b])
 exact this
def aln {w:World} {b:Nat} {p:sO} {t:TypeId} {fr:Nat × Nat} (h:w.heap[b]? = some (.cells (jk p).toArray t fr)) (r:Nat) (hr:r<p.tab.length):w.cell? ⟨b,5+r,none⟩=some (.int .u16 ((p.tab.getD r 0:Nat):Int)):=by
 rw [aF h,bZ,jk,show 5+r=r+5 by omega];simp only [Gg];exact PW _ _ hr
def aij (w:World) (v:Nat) (Cv Lv:Value) (V:aB) (h:aP w v Cv Lv V) (first b:Nat) (S:first<V.C.length) (hb:b<64) (hs:num (cl V.C first) (2*(b / 32))≠0→num (cl V.C first) (2*(b / 32))%32768<V.C.length):
  Calls Tryz.prog 104 #[.pointer (some ⟨v,0,none⟩),.int .i64 (first:Nat),.int .i64 (b:Nat)] w fun e T=>e= .returned (.agg (jk (cZ V.C first b)).toArray)∧aC w T:=by
 obtain ⟨q,r,hq,hr,K⟩: ∃ q r,q<2∧r<32∧b=32*q+r:=⟨b / 32,b%32,om,om,om⟩;have x:b / 32=q:=om;have H:b%32=r:=om;have i1:(b:Int) / 32=(q:Int):=om;have i2:(b:Int)%32=(r:Int):=om;have j:Hid (cZ V.C first b={ first:=first,BH:=q,oJ:=r,second:=num (cl V.C first) (2*q),block:=if num (cl V.C first) (2*q)=0 then 0 else num (cl V.C (num (cl V.C first) (2*q)%32768)) (2*r),tab:=if num (cl V.C first) (2*q)=0 then zt else numsOf (cl V.C (num (cl V.C first) (2*q)%32768)) }):=by
  unfold cZ;rw [x,H];rfl
 rw [x] at hs;clear K x H;have y:=dW.two w (.cells (jk zp).toArray 171) (.cells (jk zp).toArray 171);have L:=iW y.o1 0 37 (by simp [BM zp gX]);have i:=y.setCells 1 rfl 0 (jk ⟨first,q,r,0,0,zt⟩);rw [qL _ _ (by simp [jk,ql,zp])] at i;simp only [xg,oq] at i;generalize M:World.setCells _ (w.heap.size+1) 0 (jk ⟨first,q,r,0,0,zt⟩)=U at i;have o:=ah (VZ _ v Cv Lv V (h.below i.drew.below) first S);have aa:=gX;have c1:U.drew.cell? ⟨w.heap.size+1,1,none⟩=some (.int .i64 (q:Nat)):=(aF i.drew.o1 1).trans rfl;have N: ∀ W,_:=fun W=>aew W (numsOf (cl V.C first)) (numsOf_length _) q om;rw [vJ _ _ om] at N;have i:=ah i;have X:=ah h;have O:=iK (cl V.C first) (2*q);generalize ab:num (cl V.C first) (2*q)=s at*;clear y h
 go_enter Tryz.func104,Tryz.ntmps104
 go_wp2_with fail
 clear M L;go_wp2
 go_region_law (
  go_simp;go_at_call 160;refine o.mono ?_;rintro e z ⟨rfl,E⟩;have l:=i.drew.later E;have c2:z.cell? ⟨w.heap.size+1,1,none⟩=some (.int .i64 (q:Nat)):=(aF l.o1 1).trans rfl;have c3:z.cell? ⟨w.heap.size+1,3,none⟩=some (.int .u16 0):=(aF l.o1 3).trans rfl;have Y:=eY l.o1;have l:=ah l)
 all_goals
  have d:=l.setCell 1 rfl 3 (.int .u16 (s:Nat));rw [aun] at d;dsimp only [xg,oq] at d;generalize World.setCell z ⟨w.heap.size+1,3,none⟩ (.int .u16 (s:Nat))=m at*;have d3:m.cell? ⟨w.heap.size+1,3,none⟩=some (.int .u16 (s:Nat)):=(aF d.o1 3).trans rfl;clear l E c1 c2 c3 Y o i
  by_cases t:s=0
  ·subst t;rw [au rfl,au rfl] at j;obtain ⟨a,k⟩: ∃ a,zt.getD r 0=a:=⟨_,rfl⟩;have c4:m.cell? ⟨w.heap.size+1,2,none⟩=some (.int .i64 (r:Nat)):=(aF d.o1 2).trans rfl;have Z:m.cell? ⟨w.heap.size+1,4,none⟩=some (.int .u16 0):=(aF d.o1 4).trans rfl;have c6:m.cell? ⟨w.heap.size+1,5+r,none⟩=some (.int .u16 (a:Nat)):=by rw [← k];exact aln d.o1 r (by rw [gX];exact hr)
   have z6:=eY d.o1;have c:=d.setCell 1 rfl 4 (.int .u16 (a:Nat));rw [alm] at c;dsimp only [xg,oq] at c;generalize P:World.setCell m ⟨w.heap.size+1,4,none⟩ (.int .u16 (a:Nat))=W5 at c;have l1:=fH c.o1 (n:=37) (BM _ gX);have l2:=fM c.o1 (n:=37) (BM _ gX);have th:=iW c.o0 0 37 (by simp [jk,ql,zp,gX]);have g:=c.setCells 0 rfl 0 (jk ⟨first,q,r,0,a,zt⟩);rw [jW,qL _ _ (by simp [jk,ql,zp,gX])] at g;have A:=fH g.o0 (n:=37) (BM _ gX);have B:=fM g.o0 (n:=37) (BM _ gX);have D:=ah g.below;have Q:(sO.tab ⟨first,q,r,0,a,zt⟩).length=32:=gX;clear c g d;have F:a=0:=by rw [← k,zt,aN,rG];split <;> rfl
   have j:Hid (cZ V.C first b=⟨first,q,r,0,a,zt⟩):=by have:=uh j;rw [F];exact this
   clear F k;generalize (⟨first,q,r,0,a,zt⟩:sO)=p at*;go_wp2;refine iy (qZ Tryz.results104 ⟨w.heap.size,0,none⟩ rfl ?_) rfl ⟨rfl,uh D⟩;rw [pW,qc A,B,uh j]
  ·rw [ak t,ak t] at j;have ad:(((s:Nat):Int) != 0)=true:=by rw [ou];omega
   have I:=ah (CW s O m);have o:=ah (VZ _ v Cv Lv V (X.below d.below) (s%32768) (hs t));have d:=ah d
   go_wp2_with fail
   refine I.mono ?_;rintro e J ⟨rfl,rfl⟩
   go_wp2_with fail
   refine o.mono ?_;rintro e J ⟨rfl,G⟩;have f:=d.later G;have R:=numsOf_length (cl V.C (s%32768));have ae:=iW f.o1 5 32 (by simp [jk,ql,gX]);have f:=f.setCells 1 rfl 5 (tv (numsOf (cl V.C (s%32768))));rw [auo _ _ gX R] at f;dsimp only [xg,oq] at f;generalize af:World.setCells J (w.heap.size+1) 5 (tv (numsOf (cl V.C (s%32768))))=u at f;obtain ⟨a,k⟩: ∃ a,(numsOf (cl V.C (s%32768))).getD r 0=a:=⟨_,rfl⟩;have c4:u.cell? ⟨w.heap.size+1,2,none⟩=some (.int .i64 (r:Nat)):=(aF f.o1 2).trans rfl;have Z:u.cell? ⟨w.heap.size+1,4,none⟩=some (.int .u16 0):=(aF f.o1 4).trans rfl;have c6:u.cell? ⟨w.heap.size+1,5+r,none⟩=some (.int .u16 (a:Nat)):=by rw [← k];exact aln f.o1 r (by rw [numsOf_length];exact hr)
   have z6:=eY f.o1;have c:=f.setCell 1 rfl 4 (.int .u16 (a:Nat));rw [alm] at c;dsimp only [xg,oq] at c;generalize P:World.setCell u ⟨w.heap.size+1,4,none⟩ (.int .u16 (a:Nat))=W5 at c;have l1:=fH c.o1 (n:=37) (BM _ (numsOf_length _));have l2:=fM c.o1 (n:=37) (BM _ (numsOf_length _));have th:=iW c.o0 0 37 (by simp [jk,ql,zp,gX]);have g:=c.setCells 0 rfl 0 (jk ⟨first,q,r,s,a,numsOf (cl V.C (s%32768))⟩);rw [jW,qL _ _ (by simp [jk,ql,zp,gX,numsOf_length])] at g;have A:=fH g.o0 (n:=37) (BM _ (numsOf_length _));have B:=fM g.o0 (n:=37) (BM _ (numsOf_length _));have D:=ah g.below;have Q:(sO.tab ⟨first,q,r,s,a,numsOf (cl V.C (s%32768))⟩).length=32:=numsOf_length _;clear c g f;have j:Hid (cZ V.C first b=⟨first,q,r,s,a,numsOf (cl V.C (s%32768))⟩):=by have:=uh j;rw [← k,vJ _ _ hr];exact this
   clear k I o d G;generalize (⟨first,q,r,s,a,numsOf (cl V.C (s%32768))⟩:sO)=p at*;go_wp2;refine iy (qZ Tryz.results104 ⟨w.heap.size,0,none⟩ rfl ?_) rfl ⟨rfl,uh D⟩;rw [pW,qc A,B,uh j]
def xC (C:List aj) (first:Nat) (n:Int):aj × Nat:=if jY n then (uw C first n.toNat,0) else (zc,1)
def aqE (C:List aj) (first b:Nat):uw C first b=if (cZ C first b).block=0 then zc else cl C ((cZ C first b).block%32768):=by
 unfold uw cZ;dsimp only
 by_cases h:num (cl C first) (2*(b / 32))=0
 ·rw [au h,au h,au rfl]
 ·rw [ak h,ak h]
def alK (w:World) (v:Nat) (Cv Lv:Value) (V:aB) (h:aP w v Cv Lv V) (first:Nat) (n:Int) (o:rX V.C first):
  Calls Tryz.prog 140 #[.pointer (some ⟨v,0,none⟩),.int .i64 (first:Nat),.int .i64 n] w fun e J=>e= .returned (.tuple #[.agg (cv (xC V.C first n).1).toArray,.int .i64 ((xC V.C first n).2:Nat)])∧aC w J:=by
 have j:=dW.one w (.cells (cv zc).toArray 38);have l:=ah (am4 n (w.alloc (.cells (cv zc).toArray 38)));have b:Hid (xC V.C first n=if jY n then (uw V.C first n.toNat,0) else (zc,1)):=rfl;have z:=ah j.below;cases hb:jY n with
 | false=>
  rw [hb] at l b;rw [ak dc] at b
  go_enter Tryz.func140,Tryz.ntmps140
  go_wp2_with fail
  refine l.mono ?_;rintro e f ⟨rfl,rfl⟩;go_wp2;rw [uh b];refine iy (v:= .tuple #[.agg (cv zc).toArray,.int .i64 1]) (by rw [FZ Tryz.results140];simp only [dw];simp [asAddr,gB aV]) rfl ⟨rfl,uh z⟩
 | true=>
  rw [hb] at l b;rw [au rfl] at b;have hn:0≤n∧n<64:=by simpa [jY] using hb
  obtain ⟨k,rfl⟩:=Cj hn.1;rw [tZ] at b;have hk:k<64:=om;have D:=ah (aij _ v Cv Lv V (h.below j.below) first k o.at' hk (fun h0=>o.second (k / 32) om h0));have M:=acB V.C first k;have g:=aqE V.C first k;have q:(cZ V.C first k).block≠0→(cZ V.C first k).block%32768<V.C.length:=by
   intro h0;unfold cZ at h0 ⊢;dsimp only at h0 ⊢
   split at h0
   ·exact absurd rfl h0
   ·rename_i E;rw [ak E];exact o.block (k / 32) om E (k%32) om
  have I:(cZ V.C first k).block<65536:=by
   unfold cZ;dsimp only;split
   ·omega
   ·exact iK _ _
  have F:=ah h;have j:=ah j;clear hb hn h z;generalize cZ V.C first k=p at*
  go_enter Tryz.func140,Tryz.ntmps140
  go_wp2_with fail
  refine l.mono ?_;rintro e f ⟨rfl,rfl⟩
  go_wp2_with fail
  refine D.mono ?_;rintro e f ⟨rfl,r⟩;have zl:zp.tab.length=32:=gX;have t:=j.later r;have d:=t.alloc (.cells (jk p).toArray 171);have c4:(f.alloc (.cells (jk p).toArray 171)).cell? ⟨f.heap.size,4,none⟩=some (.int .u16 (p.block:Nat)):=(wM f _ _ _ 4).trans rfl;have A:(f.alloc (.cells (jk p).toArray 171)).drew.cell? ⟨f.heap.size,4,none⟩=some (.int .u16 (p.block:Nat)):=c4;clear D l
  by_cases i:p.block=0
  ·rw [au i] at g;rw [i] at c4;have K:=iW d.o0 0 64 (by simp [bC,aV]);have a:=d.setCells 0 rfl 0 (cv zc);rw [jW,qL _ _ sm] at a;have u:=iD a.o0 aV;have x:=iC a.o0 aV;have y:=ah a.below;rw [g] at b;clear t d a r A;go_wp2;rw [uh b];refine iy (v:= .tuple #[.agg (cv zc).toArray,.int .i64 0]) (by rw [FZ Tryz.results140];simp only [dw];simp [asAddr,dM u,x]) rfl ⟨rfl,uh y⟩
  ·rw [ak i] at g;have N:((p.block:Int) == 0)=false:=by rw [lY];omega
   have G:Hid (∀ W,_):=fun W=>CW p.block I W;have H:=ah (Oy _ v Cv Lv V (F.below d.drew.below) (p.block%32768) (q i));have s:=je F.kT (q i);rw [g] at b;generalize cl V.C (p.block%32768)=c at*;have d:=ah d;clear t r g q;go_wp2
   go_region_law (first
    | (
     go_simp;go_at_call 108;refine (uh G _).mono ?_;rintro e L ⟨rfl,rfl⟩)
    | (
     go_simp;go_at_call 142;refine H.mono ?_;rintro e L ⟨rfl,B⟩;have a:=d.drew.later B;have K:=iW a.o0 0 64 (by simp [bC,aV]);have a:=ah a))
   all_goals
    have m:=a.setCells 0 rfl 0 (cv c);rw [jW,qL _ _ (by simp [bC,aV,s])] at m;have u:=iD m.o0 s;have x:=iC m.o0 s;have y:=ah m.below;clear m a B d H G c4 A;go_wp2;rw [uh b];refine iy (v:= .tuple #[.agg (cv c).toArray,.int .i64 0]) (by rw [FZ Tryz.results140];simp only [dw];simp [Act.put,asAddr,dM u,x]) rfl ⟨rfl,uh y⟩
def pU (a b:Nat) (w:World):(Instr.field 128 (.agg (hv a b).toArray) 1).run Tryz.prog w= .ok (.int .i64 (b:Nat)) w:=by
 kernel_rfl
def pR (a b:Nat) (w:World):(Instr.field 128 (.agg (hv a b).toArray) 0).run Tryz.prog w= .ok (.int .i64 (a:Nat)) w:=by
 kernel_rfl
attribute [local go_sem] pU pR
def Ua {C:List aj} {first:Nat} (b: ∀ c ∈ C,c.length=64) (a:rX C first) (n:Int):(xC C first n).1.length=64:=by
 unfold xC;split
 ·rename_i h;simp only [jY,wI,decide_eq_true_eq] at h;exact agS b a n.toNat om
 ·exact aV
def axk (w:World) (v:Nat) (Cv Lv:Value) (V:aB) (h:aP w v Cv Lv V) (n:Int) (h0:0<V.C.length) (i:rX V.C (num (cl V.C 0) 6)):
  Calls Tryz.prog 81 #[.pointer (some ⟨v,0,none⟩),.int .i64 n] w fun e o=>e= .returned (.tuple #[.agg (cv (xC V.C (num (cl V.C 0) 6) n).1).toArray,.int .i64 ((xC V.C (num (cl V.C 0) 6) n).2:Nat)])∧aC w o:=by
 have b:=dW.one w (.cells (cv zc).toArray 38);have m:=ah (JD _ v Cv Lv V (h.below b.below) h0);have hlen:=Ua h.kT i n;have H:=ah h;have b:=ah b;clear h;have d:Hid (∀ W,aP W v Cv Lv V→_):=fun W p=>alK W v Cv Lv V p (num (cl V.C 0) 6) n i;generalize t:xC V.C (num (cl V.C 0) 6) n=R at*;obtain ⟨c,k⟩:=R;dsimp only at hlen d ⊢;generalize num (cl V.C 0) 6=first at*;generalize num (cl V.C 0) 4=u at*
 go_enter Tryz.func81,Tryz.ntmps81
 go_wp2_with fail
 refine m.mono ?_;rintro e x ⟨rfl,j⟩;have f:=ah (b.later j)
 go_wp2_with fail
 refine (uh d _ (H.below f.below)).mono ?_;rintro e y ⟨rfl,l⟩;have g:=f.later l;have z:=iW g.o0 0 64 (by simp [bC,aV]);have a:=g.setCells 0 rfl 0 (cv c);rw [jW,qL _ _ (by simp [bC,aV,hlen])] at a;have q:=iD a.o0 hlen;have r:=iC a.o0 hlen;have s:=ah a.below;clear a g l f j d m;go_wp2;refine iy (v:= .tuple #[.agg (cv c).toArray,.int .i64 (k:Nat)]) (by rw [FZ Tryz.results81];simp only [dw];simp [asAddr,dM q,r]) rfl ⟨rfl,uh s⟩
def aqf (w:World) (d v:Nat) (Cv Lv:Value) (V:aB) (h:pK w d v Cv Lv V) (n:Int) (h0:0<V.C.length) (j:rX V.C (num (cl V.C 0) 6)):
  Calls Tryz.prog 46 #[.pointer (some ⟨d,0,none⟩),.int .i64 n] w fun e o=>e= .returned (.tuple #[.agg (cv (xC V.C (num (cl V.C 0) 6) n).1).toArray,.int .i64 ((xC V.C (num (cl V.C 0) 6) n).2:Nat)])∧aC w o:=by
 have a:=dW.one w (.cells (cv zc).toArray 38);have f:=h.below a.below;have c0:=f.c0;have m:=ah (I4 _ d v Cv Lv V f);have g:=ah (axk _ v Cv Lv V f.bH n h0 j);have hlen:=Ua h.bH.kT j n;have a:=ah a;clear h f;generalize xC V.C (num (cl V.C 0) 6) n=R at*;obtain ⟨c,k⟩:=R;dsimp only at hlen g ⊢
 go_enter Tryz.func46,Tryz.ntmps46
 go_wp2_with fail
 refine m.mono ?_;rintro e s ⟨rfl,rfl⟩
 go_wp2_with fail
 refine g.mono ?_;rintro e t ⟨rfl,l⟩;have i:=a.later l;have u:=iW i.o0 0 64 (by simp [bC,aV]);have b:=i.setCells 0 rfl 0 (cv c);rw [jW,qL _ _ (by simp [bC,aV,hlen])] at b;have p:=iD b.o0 hlen;have q:=iC b.o0 hlen;have r:=ah b.below;clear b i l a g m;go_wp2;refine iy (v:= .tuple #[.agg (cv c).toArray,.int .i64 (k:Nat)]) (by rw [FZ Tryz.results46];simp only [dw];simp [asAddr,dM p,q]) rfl ⟨rfl,uh r⟩
end
section
attribute [local go_sem ↓] dw fP fV kU mZ nC jR kP kJ kF lG lI kR kQ kV ng nD l9 nJ jE pW qM qO qA
attribute [local go_sem] dM fO fU gW gB aV kY mP mW mQ mO gX jT kN kH lq kX iM kG lu lD lC kM jc jd nH nK kW kZ mX nT mV mM nN qc qI qK qJ qH
def zL (V:aB) (n:Nat) (d:aj):(bQ V n d).C.length=max V.C.length (n+1):=by
 unfold bQ;split
 ·rename_i h;have:=h.1;omega
 ·simp only [FM,rV,Ec]
def uH (V:aB) (n:Nat) (d:aj):(bQ V n d).L.length≤V.L.length+2:=by
 unfold bQ;split
 ·omega
 ·have:=XC V
  simp only [FM,oL,aay];omega
def lT (V:aB) (k:List UInt8):Nat→aB
 | 0=>V
 | p+1=>bQ (lT V k p) (1+p) (partOf k p)
def als (V:aB) (k:List UInt8) (p:Nat):(lT V k p).C.length≤max V.C.length (p+1):=by
 induction p with
 | zero=>simp only [lT];omega
 | succ p ih=>simp only [lT,zL];omega
def Px (V:aB) (k:List UInt8) (p:Nat):(lT V k p).L.length≤V.L.length+2*p:=by
 induction p with
 | zero=>simp only [lT];omega
 | succ p ih=>have:=uH (lT V k p) (1+p) (partOf k p);simp only [lT];omega
def VF (w:World) (v:Nat) (Cv Lv:Value) (V:aB) (h:aP w v Cv Lv V) (k:List UInt8) (hk:k.length=256) (I:V.C.length≤1000) (hL:V.L.length≤900000000):
  Calls Tryz.prog 69 #[.pointer (some ⟨v,0,none⟩),.agg (cv k).toArray] w fun e f=>e= .returned (.tuple #[])∧ ∃ u x,dF w f v Cv Lv u x (lT V k 4):=by
 have j:=ah ((Env.start h).lay (.cells (cv k).toArray 123));clear h
 go_enter Tryz.func69,Tryz.ntmps69
 go_wp2
 go_loopw [4,5] (fun _ i f=> ∃ (p:Nat) (a b:Value),p≤4∧i= .int .i64 p∧Env w f v Cv Lv a b (lT V k p) [(w.heap.size,.cells (cv k).toArray 123)]) (fun _ i _=>4 - (intOf i).toNat)
 case atStart=>exact ⟨0,Cv,Lv,om,rfl,uh j⟩
 case round=>
  obtain ⟨p,a,b,J,rfl,d⟩:=hrel;clear j
  by_cases g:p<4
  ·have G:(p:Int)<4:=om;have K:=fH d.drew.o0 (n:=256) (by rw [bC,hk]);have M:=fM d.drew.o0 (n:=256) (by rw [bC,hk]);have N:=als V k p;have O:=Px V k p;have q:=ad2 k p hk g;have y:=ah (aua wr.drew k hk p g);have H:IntKind.i64.wrap (1+(p:Int))=1+(p:Int):=FY _ om;have z:=ah d;have l:Hid (∀ W a b,aP W v a b (lT V k p)→_):=fun W a b A=>GX W v a b (lT V k p) A (1+p) om (partOf k p) q om om;rw [show ((1+p:Nat):Int)=1+(p:Int) by omega] at l;clear d;generalize r:partOf k p=c at*;go_wp2
   go_region_law (first
    | (
     go_simp;go_at_call 132;refine y.mono ?_;rintro e P ⟨rfl,s⟩;have m:=ah (z.drew.later s))
    | (
     go_simp;go_at_call 70;refine (uh l _ _ _ m.at').mono ?_;rintro e Q ⟨rfl,B,D,o⟩;have E:=ah (m.gG o);clear o))
   all_goals
    go_wp2;go_roundw
    case rel=>
     refine ⟨p+1,B,D,om,gn,?_⟩;rw [lT,r];exact uh E
    case measure=>exact bW
  ·have t:p=4:=om;subst t;have F:=ah d.step;clear d;go_wp2
   go_end0
   exact ⟨rfl,a,b,uh F⟩
def ad8 (w:World) (v:Nat) (Cv Lv:Value) (V:aB) (h:aP w v Cv Lv V) (a b:Nat) (m:a<65536) (o:b<65536) (B:V.C.length≤1000) (hL:V.L.length≤900000000):
  Calls Tryz.prog 72 #[.pointer (some ⟨v,0,none⟩),.agg (hv a b).toArray] w fun e p=>e= .returned (.tuple #[])∧ ∃ q r,dF w p v Cv Lv q r (bQ V 0 (fG a b)):=by
 have d:=(Env.start h).lay (.cells (hv a b).toArray 128);have D:=fH d.drew.o0 (n:=2) (sV _ _);have E:=fM d.drew.o0 (n:=2) (sV _ _);have k:=JC a b;have s:=ah (QZ (w.alloc (.cells (hv a b).toArray 128)).drew a b m o);have t:Hid (∀ W f g,aP W v f g V→_):=fun W f g u=>GX W v f g V u 0 om (fG a b) k om om;have x:=ah d;clear d h;generalize fG a b=c at*
 go_enter Tryz.func72,Tryz.ntmps72
 go_wp2
 go_region_law (first
  | (
   go_simp;go_at_call 134;refine s.mono ?_;rintro e F ⟨rfl,l⟩;have i:=ah (x.drew.later l))
  | (
   go_simp;go_at_call 70;refine (uh t _ _ _ i.at').mono ?_;rintro e G ⟨rfl,y,z,j⟩;have A:=ah (i.gG j).step;clear j))
 all_goals
  go_end0
  exact ⟨rfl,y,z,uh A⟩
def Dt (V:aB) (t i n:Nat):aB:=bQ V t (bytesOf ((numsOf (cl V.C t)).set i n))
def Pm (c:aj) (i:Nat):(numsOf c).getD i 0<65536:=by
 by_cases hi:i<32
 ·rw [vJ _ _ hi];exact iK _ _
 ·rw [aN,eG (by rw [numsOf_length];omega)];decide
def ame {T:List Nat} (a: ∀ i,T.getD i 0<65536) (k n:Nat) (hn:n<65536): ∀ i,(T.set k n).getD i 0<65536:=by
 intro i
 have:=a i
 simp only [aN,uI] at*;split
 ·split <;> simp <;> omega
 ·exact this
def aly (w:World) (v:Nat) (Cv Lv:Value) (V:aB) (h:aP w v Cv Lv V) (t i n:Nat) (u:t<V.C.length) (hi:i<32) (hn:n<65536) (P:V.C.length≤1000) (hL:V.L.length≤900000000):
  Calls Tryz.prog 164 #[.pointer (some ⟨v,0,none⟩),.int .i64 (t:Nat),.int .i64 (i:Nat),.int .u16 (n:Nat)] w fun e x=>e= .returned (.tuple #[])∧ ∃ y z,dF w x v Cv Lv y z (Dt V t i n):=by
 have l:=ah (VZ w v Cv Lv V h t u);have q:=numsOf_length (cl V.C t);have m:=ah (ame (Pm (cl V.C t)) i n hn);have A:Hid (∀ W f g,aP W v f g V→_):=fun W f g B=>GX W v f g V B t om (bytesOf ((numsOf (cl V.C t)).set i n)) (bytesOf_length _) om om;have D:Hid (Dt V t i n=bQ V t (bytesOf ((numsOf (cl V.C t)).set i n))):=rfl;have H:=ah h;have M:(i:Int)<32:=om;clear h;generalize numsOf (cl V.C t)=T at*
 go_enter Tryz.func164,Tryz.ntmps164
 go_wp2_with fail
 refine l.mono ?_;rintro e b ⟨rfl,k⟩;have d:=((Env.start H).later k).lay (.cells (tv T).toArray 169);have c1:(b.alloc (.cells (tv T).toArray 169)).cell? ⟨b.heap.size,i,none⟩=some (.int .u16 ((T.getD i 0:Nat):Int)):=by
  rw [wM,bZ,PW _ _ om]
 have a:=d.put sm (Kept.only _ b.heap.size i (.int .u16 (n:Nat))) (heap_setCell_same _ _ _ _ _ _ _ d.o0);rw [Bh,← aah] at a;have j:(T.set i n).length=32:=by rw [rV];exact q
 have Q:=eY d.o0;generalize N:World.setCell _ ⟨b.heap.size,i,none⟩ (.int .u16 (n:Nat))=E at a;have R:=fH a.drew.o0 (n:=32) (by rw [ql,j]);have S:=fM a.drew.o0 (n:=32) (by rw [ql,j]);have F:=ah (aeU E.drew (T.set i n) j m);have G:=ah a;clear d a l k m;generalize bytesOf (T.set i n)=c at*;generalize r:T.set i n=T2 at*;clear r;generalize T.getD i 0=O at*;go_wp2
 go_region_law (first
  | (
   go_simp;go_at_call 163;refine F.mono ?_;rintro e U ⟨rfl,s⟩;have o:=ah (G.drew.later s))
  | (
   go_simp;go_at_call 70;refine (uh A _ _ _ o.at').mono ?_;rintro e X ⟨rfl,I,J,p⟩;have K:=ah (o.gG p).step;clear p))
 all_goals
  go_end0
  exact ⟨rfl,I,J,by rw [uh D];exact uh K⟩
def oO (c:List UInt8) (want:Nat):Nat→List Nat
 | 0=>[]
 | k+1=>if (oO c want k).length=want then oO c want k else if aI c k=0 then oO c want k++[k] else oO c want k
def dD (c:List UInt8) (want:Nat):List Nat:=oO c want 256
def akg (c:List UInt8) (want k:Nat) (h:(oO c want k).length=want): ∀ j,oO c want (k+j)=oO c want k
 | 0=>rfl
 | j+1=>by
  rw [← LW,oO,akg c want k h j,au h]
def Pg (c:List UInt8) (want k:Nat):(oO c want k).length≤want∧(oO c want k).length≤k:=by
 induction k with
 | zero=>simp [oO]
 | succ k ih=>
  rw [oO];split
  ·omega
  ·split
   ·simp;omega
   ·omega
def iv (F:List Nat):List Value:=F.map fun n=> .int .i64 (n:Nat)
def ar2 (F:List Nat) (n:Nat):iv (F++[n])=iv F++[.int .i64 (n:Nat)]:=by simp [iv]
def YG (w:World) (v:Nat) (Cv Lv:Value) (V:aB) (h:aP w v Cv Lv V) (o:5≤V.C.length) (want:Nat) (hw:want≤100):
  Calls Tryz.prog 143 #[.pointer (some ⟨v,0,none⟩),.int .i64 (want:Nat)] w fun e l=> ∃ x,e= .returned x∧l.ownsRow w.heap.size 3 1 x (dD (aJ V.C) want).length (iv (dD (aJ V.C) want))∧aC w l:=by
 obtain ⟨H,u,y,z,A⟩:=qw Tryz.ajz;have p:=ah (MS w v Cv Lv V h o);have B:=CY V.C h.kT o;clear h;generalize aJ V.C=c at*
 go_enter Tryz.func143,Tryz.ntmps143
 go_wp2_with fail
 refine p.mono ?_;rintro e P ⟨rfl,n⟩;have D:=ah n;clear n p;go_wp2
 go_loopw [5,10] (fun f i l=> ∃ k:Nat,k≤256∧i= .int .i64 k∧l.ownsRow w.heap.size 3 1 f (oO c want k).length (iv (oO c want k))∧aC w l) (fun _ i _=>256 - (intOf i).toNat)
 case atStart=>exact ⟨0,om,rfl,wH _ _ _ _,uh D⟩
 case round=>
  obtain ⟨k,hk,rfl,b,g⟩:=hrel;obtain ⟨I,J,rfl⟩:=gQ b;have hle:=Pg c want k
  by_cases E:k<256
  ·have M:(k:Int)<256:=om;have G:=aev wr c B k E
   by_cases m:(oO c want k).length=want
   ·have d:=ah b;have a:=ah g;have j:Hid (dD c want=oO c want k):=by
     have:=akg c want k m (256 - k)
     rw [show k+(256 - k)=256 by omega] at this;exact this
    have K:((((oO c want k).length:Nat):Int) == (want:Int))=true:=by simp [m]
    clear b g;go_wp2;go_ret;exact ⟨_,rfl,by rw [uh j];exact uh d,uh a⟩
   ·have K:((((oO c want k).length:Nat):Int) == (want:Int))=false:=by simp;omega
    have j:Hid (oO c want (k+1)=if aI c k=0 then oO c want k++[k] else oO c want k):=by
     show _=_;rw [oO,ak m]
    have d:=ah b;have a:=ah g;have N:=uy c k;clear b g
    by_cases h0:aI c k=0
    ·rw [au h0] at j;rw [h0] at G;generalize oO c want k=F at*
     go_wp2_with (at_builtin;refine yc _ rfl _ _ _ rfl w.heap.size 3 H _ 1 8 Tryz.underlying75 u y z A rfl om (.slice I F.length J) F.length (iv F) rfl (d.alloc _) ⟨wr.heap.size,0,none⟩ 1 1 [.int .i64 (k:Nat)] rfl rfl (pJ (cs:= #[.int .i64 (k:Nat)]) (t:=3) (fr:=(0,0)) (aX wr _)) (by simp [Value.oneCell']) om (by unfold maxLen;omega) om (by have:=a.size;simp;omega) (wr.heap.size+1) sm ?_;intro g5 cap5 Q q r O R)
     have L:=ah ((a.alloc a.size (.cells #[.int .i64 (k:Nat)] 3)).grown r (by have:=a.size;simp;omega) (fun k hk=>(d.lt k hk).1));go_roundw
     case rel=>exact ⟨k+1,om,gn,by rw [uh j,ar2,oL];exact q,uh L⟩
     case measure=>exact bW
    ·rw [ak h0] at j;have S:(((aI c k:Nat):Int) == 0)=false:=by rw [lY];omega
     generalize oO c want k=F at*;generalize aI c k=T at*;go_wp2;go_roundw
     case rel=>exact ⟨k+1,om,gn,by rw [uh j];exact uh d,uh a⟩
     case measure=>exact bW
  ·have s:k=256:=om;subst s;have d:=ah b;have a:=ah g;clear b g;go_wp2;go_ret;exact ⟨_,rfl,uh d,uh a⟩
attribute [local go_sem] pU pR
def qF (F:List Nat):Nat:=F.getD (F.length - 1) 0
def dS (V:aB) (F:List Nat):aB:=if num (cl V.C 0) 4≤qF F then fF (bQ V 0 (fG (qF F+1) (num (cl V.C 0) 6))) else V
def zX (V:aB):(fF V).C=V.C:=by unfold fF;split <;> rfl
def zn (V:aB):(fF V).L.length≤V.L.length+1:=by unfold fF;split <;> simp
def ar1 {w:World} {v:Nat} {Cv Lv x:Value} {V:aB} (h:aP w v Cv Lv V) {base n:Nat} {xs:List Value} (hr:w.ownsRow base 3 1 x n xs): ∀ g,x.ownBlock=some g→ ¬ eX v Cv Lv g:=by
 intro g b;rcases hr.2 with ⟨rfl,_⟩ | ⟨c,cap,cur,rfl,_,a,_⟩
 ·cases b
 ·simp only [Value.ownBlock,jH] at b;subst b;rintro (e | e | e)
  ·subst e;rw [h.aG] at a;cases a
  ·exact iF h.jS a dc _ e rfl
  ·exact iF h.fJ a dc _ e rfl
def ar0 {w a:World} {v:Nat} {Cv Lv b c x:Value} {V d:aB} (h:aP w v Cv Lv V) {base n:Nat} {xs:List Value} (hr:w.ownsRow base 3 1 x n xs) (hs:dF w a v Cv Lv b c d):a.ownsRow base 3 1 x n xs:=
 bV hs.kept hr (ar1 h hr)
def ajR (w:World) (v:Nat) (Cv Lv:Value) (V:aB) (h:aP w v Cv Lv V) (F:List Nat) (E:0<F.length) (Y:F.length≤100) (hl:qF F<256) (x:Value) (l:w.ownsRow 0 3 1 x F.length (iv F)) (h5:5≤V.C.length) (G:V.C.length≤1000) (hL:V.L.length≤900000000):
  Calls Tryz.prog 145 #[.pointer (some ⟨v,0,none⟩),x] w fun e I=>e= .returned (.tuple #[])∧ ∃ J K,dF w I v Cv Lv J K (dS V F):=by
 obtain ⟨g,cap,rfl,_⟩:=gy l E;have M:=ah (JD w v Cv Lv V h om);have Z:=iK (cl V.C 0) 4;have z:=iK (cl V.C 0) 6;have o:Hid (dS V F=if num (cl V.C 0) 4≤qF F then fF (bQ V 0 (fG (qF F+1) (num (cl V.C 0) 6))) else V):=rfl;have A:w.cell? ⟨g,F.length - 1,none⟩=some (.int .i64 (qF F:Nat)):=by
  have:=l.cellAt (F.length - 1) om
  rw [this];unfold iv qF;rw [jK,aN,bJ om];rfl
 have t:=(l.lt g rfl).2;have N:Hid (∀ a b W f i,a<65536→b<65536→aP W v f i V→_):=fun a b W f i O P r=>ad8 W v f i V r a b O P G hL;have B:Hid (∀ c W f i,aP W v f i (bQ V 0 c)→_):=fun c W f i r=>Az W v f i (bQ V 0 c) r (by have:=uH V 0 c;omega);have H:=ah h;have Hx:=ah l;clear h l;generalize num (cl V.C 0) 4=a at*;generalize num (cl V.C 0) 6=b at*;generalize qF F=last at*;have hlen:(((F.length:Nat):Int) - 1)=((F.length - 1:Nat):Int):=om;generalize F.length - 1=m at*
 go_enter Tryz.func145,Tryz.ntmps145
 go_wp2_with fail
 refine M.mono ?_;rintro e j ⟨rfl,q⟩;have k:=((Env.start H).later q).lay (.cells (hv a b).toArray 128);have c0:(j.alloc (.cells (hv a b).toArray 128)).cell? ⟨j.heap.size,0,none⟩=some (.int .i64 (a:Nat)):=(wM j _ _ _ 0).trans rfl;have c1:(j.alloc (.cells (hv a b).toArray 128)).cell? ⟨g,m,none⟩=some (.int .i64 (last:Nat)):=by
  rw [NY _ _ _ (iL t q.size)];exact (q.cell (p:=⟨g,m,none⟩) t).trans A
 have f1:=eY k.o0
 by_cases hle:a≤last
 ·rw [au hle] at o;have dl:decide ((a:Int)≤(last:Int))=true:=by simpa using hle
  have s:(hv a b).toArray.setIfInBounds 0 (.int .i64 ((last:Int)+1))=(hv (last+1) b).toArray:=by simp [hv]
  have d:=k.put sm (Kept.only _ j.heap.size 0 (.int .i64 ((last:Int)+1))) (heap_setCell_same _ _ _ _ _ _ _ k.o0);rw [s] at d;generalize aa:World.setCell _ ⟨j.heap.size,0,none⟩ (.int .i64 ((last:Int)+1))=Q at d;have R:=fH d.o0 (n:=2) (sV _ _);have S:=fM d.o0 (n:=2) (sV _ _);have d:=ah d;clear k s
  go_wp2_with fail
  refine (uh N (last+1) b Q _ _ om z d.at').mono ?_;rintro e w3 ⟨rfl,C3,L3,u⟩;have y:=ah (d.gG u);clear u d R S
  go_wp2_with fail
  refine (uh B _ _ _ _ y.at').mono ?_;rintro e w4 ⟨rfl,T,U,D⟩;have X:=ah (y.gG D).step;go_wp2
  go_end0
  exact ⟨rfl,T,U,by rw [uh o];exact uh X⟩
 ·rw [ak hle] at o;have dl:decide ((a:Int)≤(last:Int))=false:=by simp;omega
  have d:=ah k.step;clear k;go_wp2
  go_end0
  exact ⟨rfl,Cv,Lv,by rw [uh o];exact uh d⟩
def gI (k:List UInt8) (F:List Nat):List UInt8:=F.foldl (fun k n=>k.set n 1) k
def adV (k:List UInt8) (F:List Nat):(gI k F).length=k.length:=by
 unfold gI
 induction F generalizing k with
 | nil=>rfl
 | cons a r ih=>simp only [WL];rw [ih];simp
def ak4 (k:List UInt8) (F:List Nat) (n:Nat):gI k (F++[n])=(gI k F).set n 1:=by simp [gI]
def xG (V:aB) (F:List Nat):aB:=lT (dS V F) (gI (aJ (dS V F).C) F) 4
def Vf (V:aB) (F:List Nat) (h:0<V.C.length):(dS V F).C.length=V.C.length:=by
 unfold dS;split
 ·rw [zX,zL];omega
 ·rfl
def Yx (V:aB) (F:List Nat):(dS V F).L.length≤V.L.length+3:=by
 unfold dS;split
 ·have a:=zn (bQ V 0 (fG (qF F+1) (num (cl V.C 0) 6)));have b:=uH V 0 (fG (qF F+1) (num (cl V.C 0) 6));omega
 ·omega
def ahr (w:World) (v:Nat) (Cv Lv:Value) (V:aB) (h:aP w v Cv Lv V) (F:List Nat) (B:0<F.length) (M:F.length≤100) (T:qF F<256) (N: ∀ n ∈ F,n<256) (x:Value) (b:w.ownsRow 0 3 1 x F.length (iv F)) (U:5≤V.C.length) (W:V.C.length≤1000) (hL:V.L.length≤800000000):
  Calls Tryz.prog 162 #[.pointer (some ⟨v,0,none⟩),x] w fun e l=>e= .returned (.tuple #[])∧ ∃ X Y,dF w l v Cv Lv X Y (xG V F):=by
 obtain ⟨g,cap,rfl,_⟩:=gy b B;have D:=ah (ajR w v Cv Lv V h F B M T _ b U W om);have JF:=Vf V F om;have zB:=Yx V F;have Z:Hid (xG V F=lT (dS V F) (gI (aJ (dS V F).C) F) 4):=rfl;have H:=ah h;have Hx:=ah b;clear h b;generalize dS V F=f at*
 go_enter Tryz.func162,Tryz.ntmps162
 go_wp2_with fail
 refine D.mono ?_;rintro e w1 ⟨rfl,p,q,c⟩;have y:=ar0 H Hx c;have E:=ah (MS w1 v p q f c.at' om);have O:=CY f.C c.at'.kT om;have G:=ah ((Env.start H).gG c);have z:=ah y;clear c D Hx y;generalize aJ f.C=k at*
 go_wp2_with fail
 refine E.mono ?_;rintro e r ⟨rfl,o⟩;have I:=ah ((G.later o).lay (.cells (cv k).toArray 123));have A:Hid ((r.alloc (.cells (cv k).toArray 123)).ownsRow 0 3 1 (.slice (some ⟨g,0,none⟩) F.length cap) F.length (iv F)):=(bV (S:=fun _=>False) (Kept.dQ o) z (fun _ _=>id)).alloc _;clear G z E o;go_wp2;generalize aa:r.alloc (.cells (cv k).toArray 123)=W2 at*;generalize r.heap.size=bk at*
 go_loopw [6,14] (fun _ i l=> ∃ m:Nat,m≤F.length∧i= .int .i64 m∧Env w l v Cv Lv p q f [(bk,.cells (cv (gI k (F.take m))).toArray 123)]∧l.ownsRow 0 3 1 (.slice (some ⟨g,0,none⟩) F.length cap) F.length (iv F)) (fun _ i _=>F.length - (intOf i).toNat)
 case atStart=>exact ⟨0,om,rfl,uh I,uh A⟩
 case round=>
  obtain ⟨m,hm,rfl,a,b⟩:=hrel;clear I A;have j:(gI k (F.take m)).length=256:=by rw [adV];exact O
  by_cases d:m<F.length
  ·have Nc:(m:Int)<(F.length:Int):=om;have ab:wr.cell? ⟨g,m,none⟩=some (.int .i64 ((F.getD m 0:Nat):Int)):=by
    have:=b.cellAt m om
    rw [this];unfold iv;rw [jK,aN,bJ d];rfl
   have hn:F.getD m 0<256:=by
    rw [aN,bJ d];exact N _ (o9 d)
   have J:Hid (gI k (F.take (m+1))=(gI k (F.take m)).set (F.getD m 0) 1):=by
    show _=_;rw [← ak4,x9 d,aN,bJ d];rfl
   generalize F.getD m 0=n at*;have c1:wr.cell? ⟨bk,n,none⟩=some (.int .u8 (aI (gI k (F.take m)) n:Nat)):=by
    rw [aF a.o0,bZ,vG _ _ om]
   have f1:=eY a.o0;have ad:(n:Int)<256:=om;have P: ∀ K,(Value.slice (some ⟨g,0,none⟩) F.length cap).ownBlock=some K→ ¬ (K=bk):=iF b a.o0 dc;have s:=a.put sm (Kept.only _ bk n (.int .u8 1)) (heap_setCell_same _ _ _ _ _ _ _ a.o0);have u:(cv (gI k (F.take m))).toArray.setIfInBounds n (.int .u8 1)=(cv (gI k (F.take (m+1)))).toArray:=by
    rw [uh J,Bh]
    congr 1
    have:=MV (gI k (F.take m)) n 1 om
    exact this.symm
   rw [u] at s;have HX:=ah (bV (Kept.only wr bk n (.int .u8 1)) b P);have t:=ah s;clear s a b u J;go_wp2;go_roundw
   case rel=>exact ⟨m+1,om,gn,uh t,uh HX⟩
   case measure=>exact bW
  ·have Q:m=F.length:=om;subst Q;rw [H7] at a j;have l1:=fH a.o0 (n:=256) (by rw [bC,j]);have l2:=fM a.o0 (n:=256) (by rw [bC,j]);have Hp:=ah (VF wr v p q f a.at' (gI k F) j om om);have t:=ah a;clear a b;generalize gI k F=k' at*
   go_wp2_with fail
   refine Hp.mono ?_;rintro e w4 ⟨rfl,C4,L4,R⟩;have E4:=ah (t.gG R).step;go_wp2
   go_end0
   exact ⟨rfl,C4,L4,by rw [uh Z];exact uh E4⟩
end
end Go.Proofs.YtknjjjenklfeoaaGreatDoor
