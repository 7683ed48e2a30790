import Derived.Test.YtknjjjenklfeoaaGreatDoorU16
set_option maxHeartbeats 8000000
set_option maxRecDepth 100000
set_option linter.all false
namespace Go.Proofs.YtknjjjenklfeoaaGreatDoor
open Go.RowKit
section
attribute [local go_sem ↓] dw fP fV kU mZ nC jR kP kJ kF lG lI kR kQ kV ng nD l9 nJ jE pW qM qO qA
attribute [local go_sem] dM fO fU gW gB aV kY mP mW mQ mO gX jT kN kH lq kX iM kG lu lD lC kM jc jd nH nK kW kZ mX nT mV mM nN qc qI qK qJ qH
attribute [local go_sem] pU pR
def placeOf (V:aB) (n:Int):sO:=cZ V.C (num (cl V.C 0) 6) n.toNat
def Jg (V:aB) (n:Int) (data:aj) (c d:aB):aB × Nat:=
 if jY n=false then (V,1)
 else if (placeOf V n).second<32768 then (if 2≤(dD (aJ V.C) 2).length then (c,0) else (V,5))
 else if (placeOf V n).block<32768 then (if 0<(dD (aJ V.C) 1).length then (d,0) else (V,5))
 else (fF (bQ V ((placeOf V n).block%32768) data),0)
def aic (C:List aj) (first b:Nat):(cZ C first b).second<65536∧(cZ C first b).block<65536∧ ∀ i,(cZ C first b).tab.getD i 0<65536:=by
 unfold cZ;dsimp only;refine ⟨iK _ _,?_,?_⟩
 ·split
  ·omega
  ·exact iK _ _
 ·intro i;split
  ·rw [zt,aN,rG];split <;> decide
  ·exact Pm _ _
def axp (w:World) (v:Nat) (Cv Lv:Value) (V u x:aB) (h:aP w v Cv Lv V) (X:5<V.C.length) (Y:V.C.length≤256) (hL:V.L.length≤500000000) (n:Int) (data:aj) (m:data.length=64) (r:rX V.C (num (cl V.C 0) 6))
  (f:jY n=true→(placeOf V n).second<32768→2≤(dD (aJ V.C) 2).length→Oq v (tK V (placeOf V n) data) u [(placeOf V n).second,(placeOf V n).block])
  (hB:jY n=true→32768≤(placeOf V n).second→(placeOf V n).block<32768→0<(dD (aJ V.C) 1).length→Oq v (tJ V (placeOf V n) data) x [(placeOf V n).block]):
  Calls Tryz.prog 54 #[.pointer (some ⟨v,0,none⟩),.int .i64 n,.agg (cv data).toArray] w fun e w'=>e= .returned (.int .i64 ((Jg V n data u x).2:Nat))∧ ∃ g i,dF w w' v Cv Lv g i (Jg V n data u x).1:=by
 have o:=(Env.start h).lay (.cells (cv data).toArray 38);have y:=ah (am4 n (w.alloc (.cells (cv data).toArray 38)));have c:Hid (Jg V n data u x=if jY n=false then (V,1) else if (placeOf V n).second<32768 then (if 2≤(dD (aJ V.C) 2).length then (u,0) else (V,5)) else if (placeOf V n).block<32768 then (if 0<(dD (aJ V.C) 1).length then (x,0) else (V,5)) else (fF (bQ V ((placeOf V n).block%32768) data),0)):=rfl;cases hb:jY n with
 | false=>
  rw [hb] at y c;rw [au rfl] at c;have HS:=ah o.step;clear o f hB
  go_enter Tryz.func54,Tryz.ntmps54
  go_wp2_with fail
  refine y.mono ?_;rintro e Z ⟨rfl,rfl⟩;go_wp2;go_ret;rw [uh c];exact ⟨rfl,Cv,Lv,uh HS⟩
 | true=>
  rw [hb] at y c;rw [ak dc] at c;have hn:0≤n∧n<64:=by simpa [jY] using hb
  obtain ⟨k,rfl⟩:=Cj hn.1;have hk:k<64:=om;have f:=f hb;have hB:=hB hb;have N:placeOf V (k:Int)=cZ V.C (num (cl V.C 0) 6) k:=by unfold placeOf;rw [tZ]
  rw [N] at f hB c;have Hh:=ah (JD _ v Cv Lv V o.at' om);have al:=iK (cl V.C 0) 6;have O:Hid (∀ W,aP W v Cv Lv V→_):=fun W z=>aij W v Cv Lv V z (num (cl V.C 0) 6) k r.at' hk (fun h0=>r.second (k / 32) om h0);have B:=acB V.C (num (cl V.C 0) 6) k;obtain ⟨P,Q,aa⟩:=aic V.C (num (cl V.C 0) 6) k;have ab:(cZ V.C (num (cl V.C 0) 6) k).first<V.C.length:=r.at';have ad:(cZ V.C (num (cl V.C 0) 6) k).BH<32:=by unfold cZ;dsimp only;omega
  have R:(cZ V.C (num (cl V.C 0) 6) k).oJ<32:=by unfold cZ;dsimp only;omega
  have ae:(cZ V.C (num (cl V.C 0) 6) k).second≠0→(cZ V.C (num (cl V.C 0) 6) k).second%32768<V.C.length:=fun h0=>r.second (k / 32) om h0;have af:(cZ V.C (num (cl V.C 0) 6) k).block≠0→(cZ V.C (num (cl V.C 0) 6) k).block%32768<V.C.length:=by
   intro h0;unfold cZ at h0 ⊢;dsimp only at h0 ⊢
   split at h0
   ·exact absurd rfl h0
   ·rename_i hx;rw [ak hx];exact r.block (k / 32) om hx (k%32) om
  have an:zp.tab.length=32:=gX;have H:=ah h;have o:=ah o;clear hb hn h N r;generalize cZ V.C (num (cl V.C 0) 6) k=p at*;generalize num (cl V.C 0) 6=first at*;generalize num (cl V.C 0) 4=cc at*;have s:Hid (∀ W,_):=fun W=>YL p.second P W;have t:Hid (∀ W,_):=fun W=>YL p.block Q W
  go_enter Tryz.func54,Tryz.ntmps54
  go_wp2_with fail
  refine y.mono ?_;rintro e Z ⟨rfl,rfl⟩
  go_wp2_with fail
  refine Hh.mono ?_;rintro e Z ⟨rfl,S⟩;have I:=ah (o.later S)
  go_wp2_with fail
  refine (uh O _ I.at').mono ?_;rintro e l ⟨rfl,T⟩;have d:=(I.later T).lay (.cells (jk p).toArray 171);have c3:(l.alloc (.cells (jk p).toArray 171)).cell? ⟨l.heap.size,3,none⟩=some (.int .u16 (p.second:Nat)):=(wM l _ _ _ 3).trans rfl;have c4:(l.alloc (.cells (jk p).toArray 171)).cell? ⟨l.heap.size,4,none⟩=some (.int .u16 (p.block:Nat)):=(wM l _ _ _ 4).trans rfl;have l1:=fH d.o0 (n:=37) (BM p B);have l2:=fM d.o0 (n:=37) (BM p B);have l3:=iD d.o1 m;have l4:=iC d.o1 m;have d:=ah d;clear S T I Hh y O o
  go_wp2_with fail
  refine (uh s _).mono ?_;rintro e w3 ⟨rfl,rfl⟩
  by_cases hs:p.second<32768
  ·rw [au hs] at c;rw [show decide (32768≤p.second)=false by simp;omega];have j:=ah (axB _ v Cv Lv V u d.at' X Y hL p B aa ab ad R data m (f hs))
   by_cases A:2≤(dD (aJ V.C) 2).length
   ·simp only [au A] at j c;clear f hB s t c3 c4
    go_wp2_with fail
    refine j.mono ?_;rintro e J ⟨rfl,K,M,D⟩;have q:=ah (d.gG D).step;go_wp2;go_ret;rw [uh c];exact ⟨rfl,K,M,uh q⟩
   ·simp only [ak A] at j c;clear f hB s t c3 c4
    go_wp2_with fail
    refine j.mono ?_;rintro e J ⟨rfl,F⟩;have q:=ah (d.later F).step;go_wp2;go_ret;rw [uh c];exact ⟨rfl,Cv,Lv,uh q⟩
  ·rw [ak hs] at c;rw [show decide (32768≤p.second)=true by simp;omega]
   go_wp2_with fail
   refine (uh t _).mono ?_;rintro e w3 ⟨rfl,rfl⟩
   by_cases G:p.block<32768
   ·rw [au G] at c;rw [show decide (32768≤p.block)=false by simp;omega];have j:=ah (axA _ v Cv Lv V x d.at' X Y hL p P (ae om) R data m (hB om G))
    by_cases A:0<(dD (aJ V.C) 1).length
    ·simp only [au A] at j c;clear f hB s t c3 c4
     go_wp2_with fail
     refine j.mono ?_;rintro e J ⟨rfl,K,M,D⟩;have q:=ah (d.gG D).step;go_wp2;go_ret;rw [uh c];exact ⟨rfl,K,M,uh q⟩
    ·simp only [ak A] at j c;clear f hB s t c3 c4
     go_wp2_with fail
     refine j.mono ?_;rintro e J ⟨rfl,F⟩;have q:=ah (d.later F).step;go_wp2;go_ret;rw [uh c];exact ⟨rfl,Cv,Lv,uh q⟩
   ·rw [ak G] at c;rw [show decide (32768≤p.block)=true by simp;omega];have ao:=af om;have TD:Hid (∀ W,_):=fun W=>CW p.block Q W;generalize p.block%32768=bc at*;have aq:=uH V bc data;have HP:Hid (∀ W g i,aP W v g i V→_):=fun W g i z=>GX W v g i V z bc om data m om om;generalize bQ V bc data=V2 at*;have HF:Hid (∀ W g i,aP W v g i V2→_):=fun W g i z=>Az W v g i V2 z om;have ag:(l.alloc (.cells (jk p).toArray 171)).drew.cell? ⟨l.heap.size,4,none⟩=some (.int .u16 (p.block:Nat)):=c4;have m3:=iD d.drew.o1 m;have m4:=iC d.drew.o1 m;clear f hB s t l1 l2 l3 l4;go_wp2
    go_region_law (first
     | (
      go_simp;go_at_call 108;refine (uh TD _).mono ?_;rintro e w5 ⟨rfl,rfl⟩)
     | (
      go_simp;go_at_call 70;refine (uh HP _ _ _ d.drew.at').mono ?_;rintro e w5 ⟨rfl,C5,L5,U⟩;have E5:=ah (d.drew.gG U);clear U))
    all_goals
     clear m3 m4 c3 c4 ag HP TD
     go_wp2_with fail
     refine (uh HF _ _ _ E5.at').mono ?_;rintro e w6 ⟨rfl,C6,L6,ai⟩;have E6:=ah (E5.gG ai).step;go_wp2;go_ret;rw [uh c];exact ⟨rfl,C6,L6,uh E6⟩
end
section
attribute [local go_sem ↓] dw fP fV kU mZ nC jR kP kJ kF lG lI kR kQ kV ng nD l9 nJ jE pW qM qO qA
attribute [local go_sem] dM fO fU gW gB aV kY mP mW mQ mO gX jT kN kH lq kX iM kG lu lD lC kM jc jd nH nK kW kZ mX nT mV mM nN qc qI qK qJ qH
def aqj (w:World) (d v:Nat) (Cv Lv:Value) (V f g:aB) (h:pK w d v Cv Lv V) (p:5<V.C.length) (q:V.C.length≤256) (hL:V.L.length≤500000000) (n:Int) (data:aj) (i:data.length=64) (o:rX V.C (num (cl V.C 0) 6))
  (l:jY n=true→(placeOf V n).second<32768→2≤(dD (aJ V.C) 2).length→Oq v (tK V (placeOf V n) data) f [(placeOf V n).second,(placeOf V n).block])
  (hB:jY n=true→32768≤(placeOf V n).second→(placeOf V n).block<32768→0<(dD (aJ V.C) 1).length→Oq v (tJ V (placeOf V n) data) g [(placeOf V n).block]):
  Calls Tryz.prog 26 #[.pointer (some ⟨d,0,none⟩),.int .i64 n,.agg (cv data).toArray] w fun e r=>e= .returned (.int .i64 ((Jg V n data f g).2:Nat))∧ ∃ s t,dF w r v Cv Lv s t (Jg V n data f g).1:=by
 have c:=(Env.start h.bH).lay (.cells (cv data).toArray 38);have j:=h.below ((bG _ w).alloc (aO _) (.cells (cv data).toArray 38));have u:=ah (I4 _ d v Cv Lv V j);have c0:(w.alloc (.cells (cv data).toArray 38)).drew.cell? ⟨d,0,none⟩=some (.pointer (some ⟨v,0,none⟩)):=j.c0;have A:=iD c.drew.o0 i;have B:=iC c.drew.o0 i;have m:=ah (axp _ v Cv Lv V f g c.drew.at' p q hL n data i o l hB);have c:=ah c;clear h j l hB;generalize Jg V n data f g=R at*;obtain ⟨D,R2⟩:=R;dsimp only at m ⊢
 go_enter Tryz.func26,Tryz.ntmps26
 go_wp2_with fail
 refine u.mono ?_;rintro e F ⟨rfl,rfl⟩;go_wp2
 go_region_law (
  go_simp;go_at_call 54;refine m.mono ?_;rintro e G ⟨rfl,x,y,k⟩;have z:=ah (c.drew.gG k).step;clear k)
 all_goals
  go_wp2;refine iy (aaG rfl _ _ _) rfl ?_;exact ⟨rfl,x,y,uh z⟩
end
section
def Zh (V:aB):Option (Nat × aj)→aB
 | some x=>bQ V x.1 x.2
 | none=>fF V
def VH (V:aB) (l:List (Option (Nat × aj))):aB:=l.foldl Zh V
def iJ (V c:aB):Prop:= ∃ l,c=VH V l
def iJ.refl (V:aB):iJ V V:=⟨[],rfl⟩
def iJ.put {V c:aB} (h:iJ V c) (n:Nat) (data:aj):iJ V (bQ c n data):=by
 obtain ⟨l,rfl⟩:=h;exact ⟨l++[some (n,data)],by simp [VH,Zh]⟩
def iJ.flush {V c:aB} (h:iJ V c):iJ V (fF c):=by
 obtain ⟨l,rfl⟩:=h;exact ⟨l++[none],by simp [VH,Zh]⟩
def iJ.keeps {V c:aB} (k:iJ V c) (Ok:aB→Prop) (e: ∀ V n d,Ok V→Ok (bQ V n d)) (f: ∀ V,Ok V→Ok (fF V)) (h:Ok V):Ok c:=by
 obtain ⟨l,rfl⟩:=k;unfold VH
 induction l generalizing V with
 | nil=>exact h
 | cons x r ih=>
  refine ih ?_;cases x with
  | none=>exact f _ h
  | some y=>exact e _ _ _ h
structure uN (base:List aj) (V:aB):Prop where
 some:V.short=true→0<V.C.length
 rep:replay base V.L=V.C
 low: ∀ x ∈ V.L,x.cl<(V.C.length:Int)
 tail:V.loose=false→V.L=[]∨ ∃ l,V.L=l++[zq]
def aei (base:List aj) (L:List fZ) (x:fZ):replay base (L++[x])=FQ (replay base L) x:=by simp [replay]
def amf (C:List aj) (n:Nat) (h:n<C.length):C.set n (cl C n)=C:=by
 apply uY;intro i;rw [uI]
 by_cases e:n=i
 ·subst e;rw [au rfl,au h,cl,aN,bJ h];rfl
 ·rw [ak e]
def aqY (C:List aj) (n:Nat) (h:n≤C.length):oW C n=C:=by
 unfold oW;rw [show n - C.length=0 by omega]
 simp
def uN.complete {base:List aj} {V:aB} (h:uN base V):uN base (iG V):=by
 unfold iG
 by_cases hs:V.short=true
 ·have d:=h.some hs;rw [au hs];refine ⟨fun e=>(by cases e),?_,fun x c=> ?_,fun e=>(by cases e)⟩
  ·show replay base (V.L++[⟨((V.C.length - 1:Nat):Int),cl V.C (V.C.length - 1)⟩])=V.C;rw [aei,h.rep,FQ,ak sm];show (oW V.C (((V.C.length - 1:Nat):Int).toNat+1)).set ((V.C.length - 1:Nat):Int).toNat (cl V.C (V.C.length - 1))=V.C;rw [tZ,aqY _ _ om,amf _ _ om]
  ·rcases fK.1 (show x ∈ V.L++[⟨((V.C.length - 1:Nat):Int),cl V.C (V.C.length - 1)⟩] from c) with y | y
   ·exact h.low x y
   ·rw [iP.1 y];show ((V.C.length - 1:Nat):Int)<(V.C.length:Int);omega
 ·rw [ak hs];exact h
def uN.put {base:List aj} {V:aB} (h:uN base V) (n:Nat) (data:aj):uN base (bQ V n data):=by
 unfold bQ
 by_cases hc:n<V.C.length∧cl V.C n=data
 ·rw [au hc];exact h
 ·rw [ak hc];have c:=h.complete;have el:(FM V n data).C.length=max V.C.length (n+1):=by simp only [FM,rV,Ec]
  refine ⟨fun e=>(by cases e),?_,fun x f=> ?_,fun g=>(by cases g)⟩
  rotate_left
  ·have d:x ∈ (iG V).L++[⟨n,data⟩]:=f;rw [el];rcases fK.1 d with y | y
   ·have:=c.low x y
    rw [D8] at this;omega
   ·rw [iP.1 y];show ((n:Nat):Int)<_;omega
  show replay base ((iG V).L++[⟨n,data⟩])=_;rw [aei,c.rep,D8,FQ,ak sm];rfl
def uN.flush {base:List aj} {V:aB} (h:uN base V):uN base (fF V):=by
 unfold fF
 by_cases hc:V.loose=true
 ·rw [au hc];refine ⟨h.some,?_,fun x c=> ?_,fun _=>ay ⟨V.L,rfl⟩⟩
  rotate_left
  ·rcases fK.1 (show x ∈ V.L++[zq] from c) with y | y
   ·exact h.low x y
   ·rw [iP.1 y];show (-1:Int)<_;omega
  show replay base (V.L++[zq])=_;rw [aei,h.rep,FQ,au dc]
 ·rw [ak hc];exact h
def uN.jr {base:List aj} {V c:aB} (h:uN base V) (k:iJ V c):uN base c:=
 k.keeps (uN base) (fun _ n d h=>h.put n d) (fun _ h=>h.flush) h
def OE (V:aB):(fF V).loose=false:=by
 unfold fF
 by_cases hc:V.loose=true
 ·rw [au hc]
 ·rw [ak hc];simpa using hc
def Zl {V c:aB} (h:iJ V c) (k:List UInt8) (p:Nat):iJ V (lT c k p):=by
 induction p with
 | zero=>exact h
 | succ p ih=>exact ih.put _ _
def alC {V c:aB} (h:iJ V c) (t i n:Nat):iJ V (Dt c t i n):=h.put _ _
def aed {V c:aB} (h:iJ V c) (F:List Nat):iJ V (dS c F):=by
 unfold dS;split
 ·exact (h.put _ _).flush
 ·exact h
def alB {V c:aB} (h:iJ V c) (F:List Nat):iJ V (xG c F):=Zl (aed h F) _ _
def alE {V c:aB} (h:iJ V c) (p:sO) (data:aj):iJ V (tJ c p data):=(alC ((alB h _).put _ _).flush _ _ _).flush
def alF {V c:aB} (h:iJ V c) (p:sO) (data:aj):iJ V (tK c p data):=(alC (((alB h _).put _ _).put _ _).flush _ _ _).flush
def alD {V c:aB} (h:iJ V c) (e:Nat→Nat) (d:List Nat):iJ V (rM e c d):=by
 unfold rM
 induction d generalizing c with
 | nil=>exact h
 | cons t r ih=>exact ih (h.put _ _)
def auz {V c:aB} (h:iJ V c) (k:List UInt8) (fs:List Nat):iJ V (wU k c fs):=by
 unfold wU
 induction fs generalizing c with
 | nil=>exact h
 | cons f r ih=>exact ih (alD h _ _)
def LD {V c:aB} (h:iJ V c) (us:List Nat):iJ V (jQ c us):=(auz (Zl h _ 4).flush _ _).flush
def auA:iJ FV xP:=(((((Zl (iJ.refl FV) _ 4).put _ _).put _ _).flush).put _ _).flush
def asv:uN [] FV:=⟨fun e=>(by cases e),rfl,fun x c=>(by cases c),fun _=>aA rfl⟩
def asu:uN [] xP:=asv.jr auA
def as7:xP.loose=false:=OE _
def avL (k:List UInt8) (p:Nat) (c:aj) (hk:k.length=256) (hc:c.length=64) (g:p<4) (j:Nat):(PO k p c)[j]? = if j<64*p then k[j]? else if j<64*p+64 then c[j - 64*p]? else k[j]? := by
 unfold PO;have f:(k.take (64*p)).length=64*p:=by rw [yg,hk];omega
 rw [tV,List.getElem?_append,f]
 by_cases d:j<64*p
 ·rw [au d,au d,JY,au d]
 ·rw [ak d,ak d,List.getElem?_append,hc]
  by_cases e:j<64*p+64
  ·rw [au e,au om]
  ·rw [ak e,ak om,Qc]
   congr 1
   omega
def ahx (C:List aj) (d: ∀ c ∈ C,c.length=64) (f:5≤C.length): ∀ k,k≤4→ ∀ j,j<64*k→(KI C k)[j]? = (cl C (1+j / 64))[j%64]?
 | 0,_,j,hj=>om
 | k+1,hk,j,hj=>by
  rw [KI,avL _ _ _ (XB C d f k om) (je d om) om]
  by_cases e:j<64*k
  ·rw [au e];exact ahx C d f k om j e
  ·rw [ak e,au om,show j / 64=k by omega,show j%64=j - 64*k by omega]
def EW {C:List aj} (d: ∀ c ∈ C,c.length=64) (e:5≤C.length) (n:Nat) (hn:n<256):aI (aJ C) n=aQ C n:=by
 unfold aI aQ aJ aI;rw [aN,ahx C d e 4 om n om,aN]
def apP {c d:aj} (hc:c.length=64) (k:d.length=64) (h: ∀ i,i<32→num c (2*i)=num d (2*i)):c=d:=by
 have l: ∀ i,i<32→aI c (2*i)=aI d (2*i)∧aI c (2*i+1)=aI d (2*i+1):=fun i hi=>by
  have h0:=h i hi;have f:=uy c (2*i+1);have g:=uy d (2*i+1);unfold num at h0;omega
 refine Wx (by rw [hc,k]) fun j f g=> ?_;have hj:aI c j=aI d j:=by
  obtain ⟨x,y⟩:=l (j / 2) om
  by_cases e:j%2=0
  ·rw [show j=2*(j / 2) by omega];exact x
  ·rw [show j=2*(j / 2)+1 by omega];exact y
 unfold aI at hj;rw [aN,aN,bJ f,bJ g] at hj;exact Qk.1 hj
section
variable {L:List aj} {rs:List bI}
end
def bU (L:List aj) (t b:Nat):Nat:=if num (cl L t) (2*(b / 32))=0 then 0 else num (cl L (num (cl L t) (2*(b / 32))%32768)) (2*(b%32))
def JR (L:List aj) (t i:Nat):xu:=if num (cl L t) (2*i)=0 then [] else (num (cl L t) (2*i)%32768,2) :: uF L (num (cl L t) (2*i)%32768) 32 0
def atO (L:List aj) (t:Nat):uS L t 32 0=JR L t 0++(JR L t 1++uS L t 30 2):=rfl
def AX (c:xu) (n:Nat):Nat:=(c.map (·.1)).count n
def adS (a b:xu) (n:Nat):AX (a++b) n=AX a n+AX b n:=by unfold AX;rw [rQ,Jj]
def adQ {L:List aj} {t b:Nat} (h:bU L t b≠0):num (cl L t) (2*(b / 32))≠0∧bU L t b=num (cl L (num (cl L t) (2*(b / 32))%32768)) (2*(b%32)):=by
 unfold bU at h ⊢
 by_cases e:num (cl L t) (2*(b / 32))=0
 ·rw [au e] at h;exact absurd rfl h
 ·rw [ak e];exact ⟨e,rfl⟩
def MQ (L:List aj) (t b:Nat):uw L t b=if bU L t b=0 then zc else cl L (bU L t b%32768):=by
 unfold uw bU
 by_cases h0:num (cl L t) (2*(b / 32))=0
 ·rw [au h0,au h0,au rfl]
 ·rw [ak h0,ak h0]
def Xx (L:List aj) (n:Nat) (data:aj) (t:Nat) (hn:n<L.length):cl (L.set n data) t=if n=t then data else cl L t:=by
 unfold cl;rw [aN,uI]
 by_cases e:n=t
 ·subst e;rw [au rfl,au hn,au rfl];rfl
 ·rw [ak e,ak e,aN]
def EY (L:List aj) (t b:Nat) (c:b<64):(eu L t)[b]? = some (uw L t b):=by
 unfold eu;rw [jK,yR c];rfl
def Gv (L:List aj) (t:Nat):(eu L t).length=64:=by unfold eu;simp
def zV (e:aW):aj:=UInt8.ofNat (e.first / 256) :: UInt8.ofNat (e.first%256) :: (e.name++List.replicate (14 - e.name.length) 0)
def jy (E:List aW):List aW:=E++List.replicate (4 - E.length) ze
def og (E:List aW):aj:=(jy E).flatMap zV
structure Qo (e:aW):Prop where
 name:nZ e.name=true
 pos:e.first≠0
 lt:e.first<65536
structure iZ (E:List aW):Prop where
 len:E.length≤4
 all: ∀ e ∈ E,Qo e
 nodup:(E.map (·.name)).Nodup
def adL {l:List UInt8} (h:nZ l=true):1≤l.length∧l.length≤12:=by
 unfold nZ at h;simp at h;omega
def akG {l:List UInt8} (h:nZ l=true): ∀ b ∈ l,b≠0:=by
 intro b c e;unfold nZ at h;rw [wI,Tq] at h
 have:=h.1 b c
 rw [e] at this;revert this
 decide
def Qo.le {e:aW} (h:Qo e):e.name.length≤12:=(adL h.name).2
def ahY {e:aW} (h:e.name.length≤12):(zV e).length=16:=by simp [zV];omega
def Za {E:List aW} (h:E.length≤4):(jy E).length=4:=by simp [jy];omega
def at1 {E:List aW} {e:aW} (h:e ∈ jy E):e ∈ E∨e=ze:=by
 rcases fK.1 h with x | x
 ·exact aA x
 ·exact ay (Mc x)
def iZ.short {E:List aW} (h:iZ E): ∀ e ∈ jy E,e.name.length≤12:=by
 intro e he;rcases at1 he with x | x
 ·exact (h.all e x).le
 ·rw [x];decide
def ain: ∀ E:List aW,(∀ e ∈ E,e.name.length≤12)→(E.flatMap zV).length=16*E.length
 | [],_=>rfl
 | e :: r,h=>by
  rw [qx,oL,ahY (h e sm),ain r (fun x c=>h x (by simp [c])),iO];omega
def ail: ∀ (E:List aW),(∀ e ∈ E,e.name.length≤12)→ ∀ i,i<E.length→ ∀ j,j<16→(E.flatMap zV).getD (16*i+j) 0=(zV (E.getD i ze)).getD j 0
 | [],_,i,hi,_,_=>by simp at hi
 | e :: r,h,i,hi,j,hj=>by
  have c:=ahY (h e sm);rw [qx,aN];cases i with
  | zero=>rw [nV om,aN];simp
  | succ i=>
   have ih:=ail r (fun x d=>h x (by simp [d])) i (by simpa using hi) j hj;rw [nP (by rw [c];omega),c,show 16*(i+1)+j - 16=16*i+j by omega,← aN,ih];rfl
section
variable {E:List aW}
def iZ.length (h:iZ E):(og E).length=64:=by
 unfold og;rw [ain _ h.short,Za h.len]
def iZ.get (h:iZ E) (i:Nat) (hi:i<4) (j:Nat) (hj:j<16):(og E).getD (16*i+j) 0=(zV ((jy E).getD i ze)).getD j 0:=
 ail _ h.short i (by rw [Za h.len];exact hi) j hj
def Ej (i:Nat) (hi:i<E.length):(jy E).getD i ze=E.getD i ze:=by
 unfold jy;rw [aN,nV hi,aN]
def RJ (i:Nat) (hi:E.length≤i):(jy E).getD i ze=ze:=by
 unfold jy;rw [aN,nP hi,rG]
 split <;> rfl
def iZ.at (h:iZ E) (i:Nat):(jy E).getD i ze=ze∨(i<E.length∧Qo ((jy E).getD i ze)):=by
 by_cases hi:i<E.length
 ·right
  refine ⟨hi,?_⟩;rw [Ej i hi];apply h.all;rw [aN,bJ hi];exact o9 hi
 ·exact aA (RJ i om)
def iZ.lt (h:iZ E) (i:Nat):((jy E).getD i ze).first<65536:=by
 rcases h.at i with x | ⟨_,x⟩
 ·rw [x];decide
 ·exact x.lt
def iZ.num (h:iZ E) (i:Nat) (hi:i<4):num (og E) (16*i)=((jy E).getD i ze).first:=by
 have d:=h.lt i;have h0:=h.get i hi 0 om;have c:=h.get i hi 1 om;rw [jW] at h0;unfold Go.Proofs.YtknjjjenklfeoaaGreatDoor.num aI;rw [h0,c];show 256*(UInt8.ofNat (((jy E).getD i ze).first / 256)).toNat+(UInt8.ofNat (((jy E).getD i ze).first%256)).toNat=_;rw [NZ,NZ];omega
def ahZ (e:aW) (j:Nat):(zV e).getD (j+2) 0=e.name.getD j 0:=by
 show (e.name++List.replicate (14 - e.name.length) 0).getD j 0=_;rw [aN,aN]
 by_cases hj:j<e.name.length
 ·rw [nV hj]
 ·rw [nP om,rG,eG (show e.name.length≤j by omega)]
  split <;> rfl
def iZ.byte (h:iZ E) (i:Nat) (hi:i<4) (j:Nat) (hj:j<14):(og E).getD (16*i+2+j) 0=((jy E).getD i ze).name.getD j 0:=by
 rw [LW,Ci 2 j,h.get i hi (j+2) om,ahZ]
def akD (c:aj) (a:Nat) (acc:List UInt8): ∀ m i,(∀ j,i≤j→j<i+m→c.getD (a+j) 0=0)→Aa c a m i true acc=some acc
 | 0,_,_=>rfl
 | m+1,i,h=>by
  rw [Aa,au (by unfold aI;rw [h i om om];rfl)];exact akD c a acc m (i+1) (fun j d e=>h j om om)
def toNat_ne {b:UInt8} (h:b≠0):b.toNat≠0:=fun e=>h (Qk.1 (by simpa using e))
def akC (c:aj) (a:Nat) (s:List UInt8) (hs: ∀ b ∈ s,b≠0) (h: ∀ j,j<12→c.getD (a+j) 0=s.getD j 0): ∀ m i,i+m=12→i≤s.length→s.length≤12→Aa c a m i false (s.take i)=some s
 | 0,i,l,n,d=>by rw [Aa,J4 om]
 | m+1,i,l,n,d=>by
  rw [Aa]
  by_cases hi:i<s.length
  ·have e:c.getD (a+i) 0=s[i]:=by rw [h i om,aN,bJ hi];rfl
   have k:=toNat_ne (hs _ (o9 hi));rw [ak (by unfold aI;rw [e];exact k),ak dc,e,← x9 hi];exact akC c a s hs h m (i+1) om om d
  ·have f: ∀ j,i≤j→j<12→c.getD (a+j) 0=0:=fun j o g=>by rw [h j g,aN,eG om];rfl
   rw [au (by unfold aI;rw [f i om om];rfl),J4 om];exact akD c a s m (i+1) (fun j o g=>f j om om)
def iZ.nameOf (h:iZ E) (i:Nat) (hi:i<E.length):nameOf (og E) (16*i+2)=((E.getD i ze).name,true):=by
 have c:=h.len;have ok:Qo (E.getD i ze):=by
  rcases h.at i with x | ⟨_,x⟩
  ·rw [Ej i hi] at x
   have:=h.all (E.getD i ze) (by rw [aN,bJ hi];exact o9 hi)
   exact this
  ·rw [Ej i hi] at x;exact x
 have e:=akC (og E) (16*i+2) (E.getD i ze).name (akG ok.name) (fun j hj=>by rw [h.byte i om j om,Ej i hi]) 12 0 om om ok.le;unfold Go.Proofs.YtknjjjenklfeoaaGreatDoor.nameOf;rw [List.take_zero] at e;rw [e];simp only;rw [ok.name]
def lU (e:aW):bI:=⟨e.first,5,e.name⟩
def akF (Q:List bI) (s:List UInt8): ∀ m k,(∀ j,k≤j→j<k+m→(Q.getD j ⟨0,0,[]⟩).name≠s)→Dq Q s m k=false
 | 0,_,_=>rfl
 | m+1,k,h=>by rw [Dq,ak (h k om om)];exact akF Q s m (k+1) (fun j c d=>h j om om)
def iZ.zero (h:iZ E) (i:Nat) (hi:i<4) (c:E.length≤i):vN (og E) 16 (16*i)=true:=by
 have d: ∀ j,j<16→aI (og E) (16*i+j)=0:=fun j hj=>by
  unfold aI;rw [h.get i hi j hj,RJ i c]
  have: ∀ j:Fin 16,((zV ze).getD j.val 0).toNat=0:=dc
  exact this ⟨j,hj⟩
 have key: ∀ m k,k+m=16→vN (og E) m (16*i+k)=true:=by
  intro m
  induction m with
  | zero=>intro k _;rfl
  | succ m ih=>
   intro k hk;rw [vN,au (d k om),LW];exact ih (k+1) om
 exact key 16 0 rfl
def iZ.ajV (h:iZ E) (Q:List bI): ∀ m i over,i+m=4→E.length≤i→qX (og E) m i over Q=(true,Q)
 | 0,_,_,_,_=>rfl
 | m+1,i,over,d,c=>by
  rw [qX,au (by rw [h.num i om,RJ i c];rfl),au (h.zero i om c)];exact h.ajV Q m (i+1) true om om
def iZ.qX (h:iZ E) (r0:bI): ∀ m i,i+m=4→i≤E.length→Go.Proofs.YtknjjjenklfeoaaGreatDoor.qX (og E) m i false (r0 :: (E.take i).map lU)=(true,r0 :: E.map lU)
 | 0,i,g,n=>by rw [Go.Proofs.YtknjjjenklfeoaaGreatDoor.qX,J4 (by have:=h.len;omega)]
 | m+1,i,g,n=>by
  by_cases hi:i<E.length
  ·have c:E.getD i ze=E[i]:=by rw [aN,bJ hi];rfl
   have ok:Qo E[i]:=h.all _ (o9 hi);have hn:=h.nameOf i hi;have d:Go.Proofs.YtknjjjenklfeoaaGreatDoor.num (og E) (16*i)=E[i].first:=by rw [h.num i om,Ej i hi,c]
   have k:MX (og E) i false=false:=by
    unfold MX;rw [hn];have o:aI (og E) (16*i+14)=0:=by
     unfold aI;rw [show 16*i+14=16*i+2+12 by omega,h.byte i om 12 om,Ej i hi,c,aN,eG (by have:=ok.le;omega)];rfl
    have p:aI (og E) (16*i+15)=0:=by
     unfold aI;rw [show 16*i+15=16*i+2+13 by omega,h.byte i om 13 om,Ej i hi,c,aN,eG (by have:=ok.le;omega)];rfl
    rw [o,p];rfl
   have l:Dq (r0 :: (E.take i).map lU) E[i].name ((r0 :: (E.take i).map lU).length - 1) 1=false:=by
    refine akF _ _ _ _ fun j s r=> ?_;have hj:j - 1<i:=by simp at r;omega
    obtain ⟨q,rfl⟩: ∃ q,j=q+1:=⟨j - 1,om⟩;rw [J5,aN,jK,S9 om,bJ om];show E[q].name≠E[i].name;intro e;have f:=h.nodup;rw [afp,afq,afr] at f;exact f q i om hi om e
   rw [Go.Proofs.YtknjjjenklfeoaaGreatDoor.qX,ak (by rw [d];exact ok.pos),k,hn];simp only [c,Ce,yS,l];rw [d];have e:(r0 :: (E.take i).map lU)++[⟨E[i].first,5,E[i].name⟩]=r0 :: (E.take (i+1)).map lU:=by
    rw [x9 hi,rQ];rfl
   rw [e];exact h.qX r0 m (i+1) om om
  ·rw [J4 om];exact h.ajV _ (m+1) i false g om
def ap6 (s:List UInt8) (k:Nat) (hs: ∀ b ∈ s,b≠0):qC (s++List.replicate k 0)=s.length:=by
 have d: ∀ k,Lib.indexByte (List.replicate k (0:UInt8)) 0=if k=0 then -1 else 0:=fun k=>by
  cases k with
  | zero=>rfl
  | succ k=>simp [Wu,Lib.indexByte]
 have key: ∀ s:List UInt8,(∀ b ∈ s,b≠0)→Lib.indexByte (s++List.replicate k 0) 0=if k=0 then -1 else (s.length:Int):=by
  intro s
  induction s with
  | nil=>intro _;rw [qy,d];split <;> rfl
  | cons b r ih=>
   intro hs
   have:=ih (fun x e=>hs x (by simp [e]))
   have f:(b == (0:UInt8))=false:=by simpa using hs b sm
   rw [rU,Lib.indexByte,f,this]
   by_cases hk:k=0
   ·simp [hk]
   ·have c:(((r.length:Nat):Int) == -1)=false:=by rw [lY];omega
    simp only [hk,yS,c,Ce,iO];omega
 unfold qC zeroAt;rw [key s hs]
 by_cases hk:k=0
 ·rw [au hk,ak dc,hk];simp
 ·rw [ak hk,au om];simp
def iZ.EZ (h:iZ E) (i:Nat) (hi:i<4):EZ (og E) i=(jy E).getD i ze:=by
 have g:=h.length;have f:((jy E).getD i ze).name.length≤12:=by
  rcases h.at i with x | ⟨_,x⟩
  ·rw [x];decide
  ·exact x.le
 have d: ∀ b ∈ ((jy E).getD i ze).name,b≠0:=by
  rcases h.at i with x | ⟨_,x⟩
  ·rw [x];intro b c;cases c
  ·exact akG x.name
 have e:nameBytes (og E) i=((jy E).getD i ze).name++List.replicate (12 - ((jy E).getD i ze).name.length) 0:=by
  unfold nameBytes;apply uY;intro j
  by_cases hj:j<12
  ·have c:=h.byte i hi j om;rw [S9 hj,Qc,bJ om];rw [aN,bJ om,aN] at c;simp only [LZ] at c;rw [c]
   by_cases hn:j<((jy E).getD i ze).name.length
   ·rw [nV hn,bJ hn];rfl
   ·rw [nP om,rG,au om,eG om];rfl
  ·rw [eG (by rw [yg];omega),eG (by rw [oL,Ai];omega)]
 unfold Go.Proofs.YtknjjjenklfeoaaGreatDoor.EZ;rw [e,ap6 _ _ d,afm,h.num i hi]
def iZ.aZ (h:iZ E):aZ (og E)=jy E:=by
 apply uY;intro i;unfold Go.Proofs.YtknjjjenklfeoaaGreatDoor.aZ;rw [jK]
 by_cases hi:i<4
 ·rw [yR hi,Gf,h.EZ i hi,aN,bJ (by rw [Za h.len];exact hi)];rfl
 ·rw [eG (by simpa using hi),eG (by rw [Za h.len];omega)];rfl
def ajO (h:iZ E): ∀ m k,k+m=4→k≤E.length→Dk (jy E) m k=E.length
 | 0,k,c,d=>by rw [Dk];have:=h.len;omega
 | m+1,k,c,d=>by
  rw [Dk]
  by_cases hk:k<E.length
  ·rw [ak]
   ·exact ajO h m (k+1) om om
   ·rcases h.at k with x | ⟨_,x⟩
    ·rw [Ej k hk] at x ⊢;exact (h.all (E.getD k ze) (by rw [aN,bJ hk];exact o9 hk)).pos
    ·exact x.pos
  ·rw [au (by rw [RJ k om];rfl)];omega
def iZ.lenOf (h:iZ E):lenOf (jy E)=E.length:=ajO h 4 0 rfl (lX _)
def at6:(jy E).take E.length=E:=by unfold jy;rw [afm]
def iZ.AZ {C:List aj} (h:iZ E) (hc:cl C 5=og E):AZ C=E.map (·.first):=by
 unfold Go.Proofs.YtknjjjenklfeoaaGreatDoor.AZ;rw [hc,h.aZ,h.lenOf,at6]
end
def aiJ {l:List aj} {n:Nat} (h:n≤l.length):oW l n=l:=by
 unfold oW;rw [show n - l.length=0 by omega]
 simp
def ahk {l:List aj} (n t:Nat) (c:t<l.length):cl (oW l n) t=cl l t:=by
 unfold cl oW;rw [aN,nV c,aN]
def avP {l:List aj} {n:Nat} (h:n<l.length):l.set n (cl l n)=l:=by
 apply uY;intro i;rw [uI]
 by_cases e:n=i
 ·subst e;rw [au rfl,au h,cl,aN,bJ h];rfl
 ·rw [ak e]
def VG (V:aB) (n:Nat) (d:aj):(bQ V n d).C=(oW V.C (n+1)).set n d:=by
 unfold bQ
 by_cases hc:n<V.C.length∧cl V.C n=d
 ·rw [au hc,aiJ om,← hc.2,avP hc.1]
 ·rw [ak hc];rfl
def abS (V:aB) (n:Nat) (d:aj):cl (bQ V n d).C n=d:=by
 rw [VG,Xx _ _ _ _ (by rw [Ec];omega),au rfl]
def Ug (V:aB) (n:Nat) (d:aj) (t:Nat) (e:t<V.C.length) (c:n≠t):cl (bQ V n d).C t=cl V.C t:=by
 rw [VG,Xx _ _ _ _ (by rw [Ec];omega),ak c,ahk _ _ e]
def alr {V:aB} (k:List UInt8) (c:5≤V.C.length): ∀ p,p≤4→(lT V k p).C.length=V.C.length
 | 0,_=>rfl
 | p+1,d=>by
  rw [lT,zL,alr k c p om];omega
def ahm {V:aB} (k:List UInt8) (c:5≤V.C.length) (t:Nat) (d:t<V.C.length): ∀ p,p≤4→cl (lT V k p).C t=if 1≤t∧t≤p then partOf k (t - 1) else cl V.C t
 | 0,_=>by rw [ak om];rfl
 | p+1,g=>by
  have ih:=ahm k c t d p om;rw [lT]
  by_cases e:1+p=t
  ·subst e;rw [abS,au om,show 1+p - 1=p by omega]
  ·rw [Ug _ _ _ _ (by rw [alr k c p om];exact d) e,ih]
   by_cases f:1≤t∧t≤p
   ·rw [au f,au om]
   ·rw [ak f,ak om]
def ahd (k:List UInt8) (n:Nat):aI (partOf k (n / 64)) (n%64)=aI k n:=by
 unfold aI partOf;rw [aN,S9 om,Qc,aN]
 congr 3
 omega
def abN (m:Nat): ∀ (F:List Nat) (k:List UInt8),k.length=256→(∀ n ∈ F,n<256)→aI (gI k F) m=if m ∈ F then 1 else aI k m
 | [],k,_,_=>by simp [gI]
 | a :: r,k,hk,d=>by
  have ih:=abN m r (k.set a 1) (by simpa using hk) (fun n hn=>d n (by simp [hn]));have e:gI k (a :: r)=gI (k.set a 1) r:=rfl;rw [e,ih]
  by_cases hm:m ∈ r
  ·rw [au hm,au (by simp [hm])]
  ·rw [ak hm,Bz _ _ _ _ (by have:=d a sm;omega)]
   by_cases c:a=m
   ·subst c;rw [au rfl,au sm];rfl
   ·rw [ak c,ak (by simp [hm];exact fun x=>c x.symm)]
def Rk (c:List UInt8) (want:Nat): ∀ k,∀ n ∈ oO c want k,aI c n=0
 | 0,n,hn=>by simp [oO] at hn
 | k+1,n,hn=>by
  rw [oO] at hn
  split at hn
  ·exact Rk c want k n hn
  ·split at hn
   ·rename_i _ h0;rcases fK.1 hn with h | h
    ·exact Rk c want k n h
    ·rw [iP.1 h];exact h0
   ·exact Rk c want k n hn
def YF (c:List UInt8) (want:Nat): ∀ k,(oO c want k).Pairwise (· < ·)
 | 0=>by simp [oO]
 | k+1=>by
  rw [oO];split
  ·exact YF c want k
  ·split
   ·rw [List.pairwise_append];refine ⟨YF c want k,sm,fun a d b e=> ?_⟩;rw [iP.1 e];exact Vr c want k a d
   ·exact YF c want k
def Nq {c:List UInt8} (h:0<(dD c 1).length): ∃ n,dD c 1=[n]∧n<256∧aI c n=0:=by
 have d:(dD c 1).length≤1:=(Pg c 1 256).1;obtain ⟨n,hn⟩:=List.length_eq_one_iff.1 (show (dD c 1).length=1 by omega);exact ⟨n,hn,YD c 1 n (by rw [hn];simp),Rk c 1 256 n (by show n ∈ dD c 1;rw [hn];simp)⟩
def YE {c:List UInt8} (h:2≤(dD c 2).length): ∃ s n,dD c 2=[s,n]∧s<n∧n<256∧aI c s=0∧aI c n=0:=by
 have f:(dD c 2).length≤2:=(Pg c 2 256).1;obtain ⟨s,n,hn⟩: ∃ s n,dD c 2=[s,n]:=by
  match hl:dD c 2,(show (dD c 2).length=2 by omega) with
  | [s,n],_=>exact ⟨s,n,rfl⟩
 have e:=YF c 2 256;have d:(dD c 2).Pairwise (· < ·):=e;rw [hn] at d;exact ⟨s,n,hn,by simpa using d,YD c 2 n (by rw [hn];simp),Rk c 2 256 s (by show s ∈ dD c 2;rw [hn];simp),Rk c 2 256 n (by show n ∈ dD c 2;rw [hn];simp)⟩
def akf (c:List UInt8) (want:Nat): ∀ k,(oO c want k).length<want→(oO c want k).length=bF (fun m=>aI c m == 0) k
 | 0,_=>rfl
 | k+1,h=>by
  rw [oO] at h ⊢;simp only [bF]
  split at h
  ·omega
  ·rename_i hw;rw [ak hw];have hk:=(Pg c want k).1;have ih:=akf c want k om
   split at h
   ·rename_i h0;rw [au h0,au (by simpa using h0),oL,ih];rfl
   ·rename_i h0;rw [ak h0,ak (by simpa using h0),ih];rfl
def acS:aj:=zO++List.replicate 60 0
def ahe (c:aj) (k n m:Nat) (hk:k+1<c.length) (hn:n<65536):aI (vK c k n) m=if m=k then n / 256 else if m=k+1 then n%256 else aI c m:=by
 have g:(UInt8.ofNat (n / 256)).toNat=n / 256:=by rw [NZ];omega
 have h:(UInt8.ofNat (n%256)).toNat=n%256:=by rw [NZ];omega
 unfold vK;rw [Bz _ _ _ _ (by simpa using hk),Bz _ _ _ _ om,g,h]
 by_cases d:m=k
 ·subst d;rw [ak om,au rfl,au rfl]
 ·rw [ak d]
  by_cases f:m=k+1
  ·subst f;rw [au rfl,au rfl]
  ·rw [ak (fun e=>f e.symm),ak (fun e=>d e.symm),ak f]
section
variable {a b:Nat}
def QH (c:a<65536) (d:b<65536) (m:Nat):aI (fG a b) m=if m=6 then b / 256 else if m=7 then b%256 else if m=4 then a / 256 else if m=5 then a%256 else aI acS m:=by
 unfold fG;rw [ahe _ 6 b m (by rw [RQ];decide) d,ahe _ 4 a m dc c];rfl
def atf (c:a<65536) (d:b<65536):num (fG a b) 4=a:=by
 unfold num;rw [QH c d,QH c d];simp only [show ¬ (4=6) by decide,show ¬ (4=7) by decide,show ¬ (4+1=6) by decide,show ¬ (4+1=7) by decide,show ¬ (4+1=4) by decide,xk,yS];omega
def atg (c:a<65536) (d:b<65536):num (fG a b) 6=b:=by
 unfold num;rw [QH c d,QH c d];simp only [show ¬ (6+1=6) by decide,xk,yS];omega
def alT (c:aj): ∀ m i,(∀ j,i≤j→j<i+m→aI c j=0)→vN c m i=true
 | 0,_,_=>rfl
 | m+1,i,h=>by
  rw [vN,au (h i om om)];exact alT c m (i+1) (fun j d e=>h j om om)
def ai3: ∀ j:Fin 64,8≤j.val→aI acS j.val=0:=dc
def ai5 (c:a<65536) (d:b<65536):vN (fG a b) 56 8=true:=
 alT _ _ _ fun j e f=>by
  rw [QH c d,ak om,ak om,ak om,ak om];exact ai3 ⟨j,om⟩ e
def ai7:(fG a b).take 4=zO:=by
 unfold fG vK;rw [aaH om,aaH om,aaH om,aaH om];rfl
end
def Zb {C:List aj}:bg C C.length=C:=by
 unfold bg;apply uY;intro i;rw [jK]
 by_cases h:i<C.length
 ·rw [yR h,Gf,au h,cl,aN,bJ h];rfl
 ·rw [eG (by simpa using h),eG om];rfl
end
end Go.Proofs.YtknjjjenklfeoaaGreatDoor
