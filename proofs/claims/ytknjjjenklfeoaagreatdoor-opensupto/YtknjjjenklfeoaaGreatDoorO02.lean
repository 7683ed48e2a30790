import Derived.Test.YtknjjjenklfeoaaGreatDoorO01
set_option maxHeartbeats 8000000
set_option maxRecDepth 100000
set_option linter.all false
namespace Go.Proofs.YtknjjjenklfeoaaGreatDoor
open Go.RowKit
theorem aaH (L:List aj) (n:Nat):aS L n<256:=tV _ _
theorem an1 (w:World) (f:Nat) (Lv Rv:Value) (R:aU) (h:bV w f Lv Rv R) (hL5:5≤R.L.length) (hlow:uK 1000000 R):
  Calls Tryz.prog 77 #[.pointer (some ⟨f,0,none⟩)] w fun e w'=>e= .returned (.int .i64 (qm R 256 0))∧w'=w:=by
 have c0:=h.uN;obtain ⟨a,cap,rfl⟩:=iq h.fF
 go_enter Tryz.func77,Tryz.ntmps77
 go_wp2
 go_loopw [3] (fun i w'=> ∃ k:Nat,k≤256∧i= .int .i64 k∧w'=w∧qm R 256 0=qm R (256 - k) k) (fun i _=>256 - (intOf i).toNat)
 case atStart=>exact ⟨0,om,rfl,rfl,rfl⟩
 case round=>
  obtain ⟨k,hk,rfl,rfl,he⟩:=hrel;have He:=ah he;clear he
  by_cases hlt:k<256
  ·have cu:=h.SA k hlt;have hu:=hlow k;have zB:=ah (SG wr f _ Rv R h (k:Int) om om hL5);rw [vC] at zB;have hq:=aaH R.L k;have hb:DW R k=((decide (k<R.L.length) && decide (aS R.L k<R.used.getD k 0)) || (aS R.L k == 255 || (decide (R.L.length≤k) && aS R.L k != 0))):=rfl;have hnext:DW R k=false→qm R 256 0=qm R (256 - (k+1)) (k+1):=fun hf=>by
    rw [uh He,show 256 - k=(256 - (k+1))+1 by omega,qm,hf];rfl
   have hstop:DW R k=true→qm R 256 0=(k:Int):=fun hf=>by
    rw [uh He,show 256 - k=(256 - (k+1))+1 by omega,qm,hf];rfl
   generalize DW R k=bc at*;have Hb:=ah hb;have Ld:=ah hnext;have Iy:=ah hstop;clear hb hnext hstop;generalize aS R.L k=q at*;generalize R.used.getD k 0=u at*
   go_wp2_with fail
   refine zB.mono ?_;rintro e w1 ⟨rfl,rfl⟩;clear zB
   by_cases hl:k<R.L.length
   ·have dl:decide ((k:Int)<(R.L.length:Int))=true:=by simp;omega
    have dl2:decide ((R.L.length:Int)≤(k:Int))=false:=by simp;omega
    by_cases WX:q<u
    ·have dq:decide ((q:Int)<(u:Int))=true:=by simp;omega
     have e:=uh Iy (by rw [uh Hb];simp [hl,WX]);have E:=ah e;clear e Hb Ld Iy;go_wp2;go_ret;exact ⟨by rw [uh E];rfl,rfl⟩
    ·have dq:decide ((q:Int)<(u:Int))=false:=by simp;omega
     by_cases h255:q=255
     ·subst h255;have e:=uh Iy (by rw [uh Hb];simp);have E:=ah e;clear e Hb Ld Iy;go_wp2;go_ret;exact ⟨by rw [uh E];rfl,rfl⟩
     ·have d2:((q:Int) == 255)=false:=by rw [lI];omega
      have e:=uh Ld (by rw [uh Hb];simp [WX,h255];omega);have E:=ah e;clear e Hb Ld Iy;go_wp2;go_roundw
      case rel=>exact ⟨k+1,om,gn,by trivial,uh E⟩
      case measure=>exact cO
   ·have dl:decide ((k:Int)<(R.L.length:Int))=false:=by simp;omega
    have dl2:decide ((R.L.length:Int)≤(k:Int))=true:=by simp;omega
    by_cases h255:q=255
    ·subst h255;have e:=uh Iy (by rw [uh Hb];simp);have E:=ah e;clear e Hb Ld Iy;go_wp2;go_ret;exact ⟨by rw [uh E];rfl,rfl⟩
    ·have d2:((q:Int) == 255)=false:=by rw [lI];omega
     by_cases hq0:q=0
     ·subst hq0;have e:=uh Ld (by rw [uh Hb];simp [hl]);have E:=ah e;clear e Hb Ld Iy;go_wp2;go_roundw
      case rel=>exact ⟨k+1,om,gn,by trivial,uh E⟩
      case measure=>exact cO
     ·have d3:((q:Int) != 0)=true:=by rw [nR];omega
      have e:=uh Iy (by rw [uh Hb];simp [hq0];omega);have E:=ah e;clear e Hb Ld Iy;go_wp2;go_ret;exact ⟨by rw [uh E];rfl,rfl⟩
  ·have hk2:k=256:=om;subst hk2;go_wp2;go_ret;exact ⟨by rw [uh He];rfl,rfl⟩
theorem agX (w:World) (f:Nat) (Lv Rv:Value) (R:aU) (h:bV w f Lv Rv R) (jk:R.L.length≤256) (hL5:6≤R.L.length):
  Calls Tryz.prog 117 #[.pointer (some ⟨f,0,none⟩)] w fun e w'=>e= .returned (.int .i64 (Eb R.L:Nat))∧w'=w:=by
 have c0:=h.uN;obtain ⟨a,cap,rfl⟩:=iq h.fF;have hLi:(R.L.length:Int)≤256:=om;have h6:bF (fun k=>decide (6≤k) && aS R.L k == 0) 6=0:=by simp [bF]
 have hf:Eb R.L=256 - R.L.length+bF (fun k=>decide (6≤k) && aS R.L k == 0) R.L.length:=rfl;have Hf:=ah hf;have H6:=ah h6;clear hf h6
 go_enter Tryz.func117,Tryz.ntmps117
 go_wp2
 go_loopw [3,4] (fun n i w'=> ∃ k c:Nat,6≤k∧k≤R.L.length∧i= .int .i64 k∧w'=w∧c≤k∧n= .int .i64 (256 - (R.L.length:Int)+c)∧bF (fun k=>decide (6≤k) && aS R.L k == 0) k=c) (fun _ i _=>R.L.length - (intOf i).toNat)
 case atStart=>exact ⟨6,0,om,om,rfl,rfl,om,sm,uh H6⟩
 case round=>
  obtain ⟨k,c,hk6,hk,rfl,rfl,hc,rfl,he⟩:=hrel;have He:=ah he;clear he H6
  by_cases hlt:k<R.L.length
  ·have zB:=ah (SG wr f _ Rv R h (k:Int) om om om);rw [vC] at zB;have hs:bF (fun k=>decide (6≤k) && aS R.L k == 0) (k+1)=c+if aS R.L k=0 then 1 else 0:=by
    rw [bF,uh He]
    congr 1
    simp [hk6]
   have Hs:=ah hs;clear hs;generalize aS R.L k=q at*
   go_wp2_with fail
   refine zB.mono ?_;rintro e w1 ⟨rfl,rfl⟩;clear zB
   by_cases hq0:q=0
   ·subst hq0;go_wp2;go_roundw
    case rel=>exact ⟨k+1,c+1,om,om,gn,by trivial,om,gn,by rw [uh Hs];rfl⟩
    case measure=>exact cO
   ·have d3:((q:Int) == 0)=false:=by rw [lI];omega
    go_wp2;go_roundw
    case rel=>exact ⟨k+1,c,om,om,gn,by trivial,om,rfl,by rw [uh Hs,ak hq0];rfl⟩
    case measure=>exact cO
  ·have hk2:k=R.L.length:=om;have Hk2:=ah hk2;clear hk2;go_wp2;go_ret;refine ⟨Us ?_,rfl⟩;have e:=uh Hf;rw [← uh Hk2,uh He] at e;have hq:=uh Hk2;omega
section
attribute [local go_sem ↓] dw
attribute [local go_sem] dK
def sH (R:aU) (t:Nat):Nat→Nat→Nat→Option Nat
 | 0,_,acc=>some acc
 | m+1,k,acc=>
  if num (cl R.L t) (2*k)=0 then sH R t m (k+1) acc
  else if oZ R (num (cl R.L t) (2*k)) then none
  else sH R t m (k+1) (acc+sG R (num (cl R.L t) (2*k)))
def uS (R:aU) (t:Nat):Nat→Nat→Nat→Int × Nat
 | 0,_,acc=>(-1,acc)
 | m+1,i,acc=>
  if num (cl R.L t) (2*i)=0 then uS R t m (i+1) acc
  else if oZ R (num (cl R.L t) (2*i)) then (t,0)
  else match sH R (num (cl R.L t) (2*i)%32768) 32 0 (acc+sG R (num (cl R.L t) (2*i))) with
   | none=>(((num (cl R.L t) (2*i)%32768:Nat):Int),0)
   | some a=>uS R t m (i+1) a
def marked (R:aU) (r:bC):Int × Nat:=uS R r.N 2 0 0
structure rH (L:List aj) (t:Nat):Prop where
 at':t<L.length
 second: ∀ i,i<2→num (cl L t) (2*i)≠0→num (cl L t) (2*i)%32768<L.length
 block: ∀ i,i<2→num (cl L t) (2*i)≠0→ ∀ k,k<32→num (cl L (num (cl L t) (2*i)%32768)) (2*k)%32768<L.length
theorem Xo (R:aU) (x:Nat):sG R x≤1:=by
 unfold sG;split
 ·omega
 ·split <;> omega
theorem aiE (w:World) (f:Nat) (Lv Rv:Value) (R:aU) (r:bC) (h:bV w f Lv Rv R) (jk:R.L.length≤256) (hL5:5≤R.L.length) (hin:rH R.L r.N) (hlow:uK 1000000 R):
  Calls Tryz.prog 78 #[.pointer (some ⟨f,0,none⟩),.agg (ig r).toArray] w fun e w'=>
   e= .returned (.tuple #[.int .i64 (marked R r).1,.int .i64 ((marked R r).2:Nat)])∧aC w w':=by
 have hB:aC w (w.alloc (.cells (ig r).toArray 132)):=fC;have b0:(w.alloc (.cells (ig r).toArray 132)).cell? ⟨w.heap.size,0,none⟩=some (.int .i64 (r.N:Nat)):=by rw [vX];rfl
 have h0:=h.below hB;obtain ⟨g,cap,rfl,hc⟩:=gB h.fF om;have HB:=ah hB;clear hB;have hNi:(r.N:Int)<(R.L.length:Int):=by have:=hin.at';omega
 have hres:marked R r=uS R r.N 2 0 0:=rfl;have BA:=ah hres;clear hres;have Gi:=ah hin
 go_enter Tryz.func78,Tryz.ntmps78
 go_wp2;generalize w.alloc (.cells (ig r).toArray 132)=W at*
 go_loopw [6,7] (fun n i w'=> ∃ k a:Nat,k≤2∧a≤33*k∧i= .int .i64 k∧n= .int .i64 a∧aC W w'∧marked R r=uS R r.N (2 - k) k a) (fun _ i _=>2 - (intOf i).toNat)
 case atStart=>exact ⟨0,0,om,om,rfl,rfl,bG _ _,uh BA⟩
 case round=>
  obtain ⟨k,a,hk,ha,rfl,rfl,hb,he⟩:=hrel;have He:=ah he;clear he BA
  by_cases hlt:k<2
  ·have hbox:wr.cell? ⟨w.heap.size,0,none⟩=some (.int .i64 (r.N:Nat)):=by
    rw [hb.cell (p:=⟨w.heap.size,0,none⟩) (World.block_lt_of_cell? _ _ b0)];exact b0
   have hr:=h0.below hb;have hG: ∀ d os,bV (Go.Sort.grow (redrawn wr d) os) f _ _ R:=fun d os=>hr.below (kL wr d os);have c0:=fun d os=>(hG d os).uN;have cx:=fun d os=>Ip hbox d os;have l1:=fun d os=>oI (hG d os).fF h.lens _ hin.at';have l2:=fun d os=>oH (hG d os).fF h.lens _ hin.at';have hlen:=iM h.lens hin.at';have Hn:=ah (fun d os=>Em (cl R.L r.N) (2*(k:Int)) (Go.Sort.grow (redrawn wr d) os) hlen om om);rw [show (2*(k:Int)).toNat=2*k by omega] at Hn;have hxl:=iD (cl R.L r.N) (2*k);have nD:=hin.second k hlt;have hblk:=hin.block k hlt;have hstep:marked R r=(if num (cl R.L r.N) (2*k)=0 then uS R r.N (2 - (k+1)) (k+1) a
     else if oZ R (num (cl R.L r.N) (2*k)) then ((r.N:Int),0)
     else match sH R (num (cl R.L r.N) (2*k)%32768) 32 0 (a+sG R (num (cl R.L r.N) (2*k))) with
      | none=>(((num (cl R.L r.N) (2*k)%32768:Nat):Int),0)
      | some a=>uS R r.N (2 - (k+1)) (k+1) a):=by
    rw [uh He,show 2 - k=(2 - (k+1))+1 by omega,uS]
   generalize num (cl R.L r.N) (2*k)=x at*;have EW:=ah hstep;clear hstep hG;have Pg:=ah hblk;clear hblk He;go_wp2;refine CQ kr kr ?_
   repeat (go_big_quiet_step (exact zA (uh Hn _ _)))
   refine CS ?_;intro _ hw';obtain ⟨⟨dq,osq⟩,hw''⟩:=hw';subst hw'';clear c0 cx l1 l2 Hn;have hb2:=hb.trans ((kL wr dq osq).mono hb.size);have hr2:=hr.below (kL wr dq osq);have Tt:=Ip hbox dq osq;clear hbox hb hr;generalize Go.Sort.grow (redrawn wr dq) osq=w2 at*;have Hb2:=ah hb2;clear hb2
   by_cases hx0:x=0
   ·subst hx0;clear hr2;go_wp2;go_roundw
    case rel=>exact ⟨k+1,a,om,om,gn,rfl,uh Hb2,by rw [uh EW];rfl⟩
    case measure=>exact cO
   ·have dx:((x:Int) == 0)=false:=by rw [lI];omega
    have hxL:=nD hx0;have Hm:=ah (aiA w2 f _ Rv R hr2 x om hxl hL5 hlow);have hm1:=Xo R x;rw [ak hx0] at EW;have Hr2:=ah hr2;clear hr2 nD
    go_wp2_with fail
    refine Hm.mono ?_;rintro e w3 ⟨rfl,rfl⟩;clear Hm;cases hbad:oZ R x with
    | true=>
     rw [hbad] at EW;clear hbad;go_wp2;go_ret2;refine ⟨?_,HB.trans (Hb2.mono HB.size)⟩;rw [uh EW];rfl
    | false=>
     rw [hbad] at EW;clear hbad;generalize sG R x=q at*;clear Tt;have hstep2:marked R r=match sH R (x%32768) 32 0 (a+q) with
      | none=>(((x%32768:Nat):Int),0)
      | some a=>uS R r.N (2 - (k+1)) (k+1) a:=by rw [uh EW];rfl
     have ZJ:=ah hstep2;clear hstep2 EW;generalize hT:sH R (x%32768) 32 0 (a+q)=T at ZJ;have HT:=ah hT;clear hT;have hxi:(x:Int)%32768<(R.L.length:Int):=om;go_wp2
     go_loopw [6,11] (fun n i w'=> ∃ m c:Nat,m≤32∧c≤33*k+1+m∧i= .int .i64 m∧n= .int .i64 c∧aC W w'∧bV w' f (.slice (some ⟨g,0,none⟩) R.L.length cap) Rv R∧sH R (x%32768) (32 - m) m c=T) (fun _ i _=>32 - (intOf i).toNat)
     case atStart=>exact ⟨0,a+q,om,om,rfl,gn,uh Hb2,uh Hr2,uh HT⟩
     case round=>
      obtain ⟨m,c,hm,hcc,rfl,rfl,hb3,hr3,he3⟩:=hrel;have He3:=ah he3;clear he3 HT Hb2 Hr2
      by_cases hlt2:m<32
      ·have c0:=hr3.uN;have l1:=oI hr3.fF hr3.lens _ hxL;have l2:=oH hr3.fF hr3.lens _ hxL;have Hn:=ah (Em (cl R.L (x%32768)) (2*(m:Int)) wr (iM h.lens hxL) om om);rw [show (2*(m:Int)).toNat=2*m by omega] at Hn;have hyl:=iD (cl R.L (x%32768)) (2*m);have hyb:=uh Pg hx0 m hlt2;have hs3:(if num (cl R.L (x%32768)) (2*m)=0 then sH R (x%32768) (32 - (m+1)) (m+1) c
         else if oZ R (num (cl R.L (x%32768)) (2*m)) then none
         else sH R (x%32768) (32 - (m+1)) (m+1) (c+sG R (num (cl R.L (x%32768)) (2*m))))=T:=by
        rw [← uh He3,show 32 - m=(32 - (m+1))+1 by omega,sH]
       generalize num (cl R.L (x%32768)) (2*m)=y at*;have Hs3:=ah hs3;have Hr3:=ah hr3;clear hs3 He3 hr3;have Hb3:=ah hb3;clear hb3
       go_wp2_with fail
       refine Hn.mono ?_;rintro e w4 ⟨rfl,hb4⟩;have Hr4:=ah (Hr3.below hb4);have Hb4:=ah (Hb3.trans (hb4.mono Hb3.size));clear Hn hb4 Hr3 Hb3 c0 l1 l2
       by_cases hy0:y=0
       ·subst hy0;go_wp2;go_roundw
        case rel=>exact ⟨m+1,c,om,om,gn,rfl,uh Hb4,uh Hr4,by rw [← uh Hs3];rfl⟩
        case measure=>exact cO
       ·have dy:((y:Int) == 0)=false:=by rw [lI];omega
        have Hm:=ah (aiA w4 f _ Rv R Hr4 y om hyl hL5 hlow);have hm1:=Xo R y;rw [ak hy0] at Hs3
        go_wp2_with fail
        refine Hm.mono ?_;rintro e w5 ⟨rfl,rfl⟩;clear Hm;cases hbad:oZ R y with
        | true=>
         rw [hbad] at Hs3;clear hbad;go_wp2;go_ret2;refine ⟨?_,HB.trans (Hb4.mono HB.size)⟩;rw [uh ZJ,← uh Hs3];rfl
        | false=>
         rw [hbad] at Hs3;clear hbad;generalize sG R y=p at*;go_wp2;go_roundw
         case rel=>exact ⟨m+1,c+p,om,om,gn,gn,uh Hb4,uh Hr4,by rw [← uh Hs3];rfl⟩
         case measure=>exact cO
      ·have hm32:m=32:=om;subst hm32;have Hb3:=ah hb3;clear hb3 hr3;go_wp2;go_roundw
       case rel=>
        refine ⟨k+1,c,om,om,gn,rfl,uh Hb3,?_⟩;rw [uh ZJ,← uh He3];rfl
       case measure=>exact cO
  ·have hk2:k=2:=om;subst hk2;have Hb:=ah hb;clear hb;go_wp2;go_ret2;refine ⟨?_,HB.trans (Hb.mono HB.size)⟩;rw [uh He];rfl
end
def xO (R:aU) (n:Nat):Bool:=R.used.getD n 0 == 0 && decide (0<aS R.L n)
def zx (R:aU) (n:Nat):Bool:=decide (0<R.used.getD n 0)
def xP (R:aU) (n:Nat):Bool:=decide (0<R.used.getD n 0) && decide (R.used.getD n 0<aS R.L n)
def Ac (R:aU):Nat→Nat
 | 0=>0
 | k+1=>Ac R k+(marked R (rootOf R k)).2
structure JE where
 aax:Nat
 used:Nat
 lost:Nat
 over:Nat
 QT:Nat
def Cm (R:aU):JE:=⟨R.L.length,bF (zx R) R.L.length,bF (xO R) R.L.length,bF (xP R) R.L.length,Ac R R.roots.length⟩
def oq (s:JE):List Value:=[.int .i64 s.aax,.int .i64 s.used,.int .i64 s.lost,.int .i64 s.over,.int .i64 s.QT]
theorem abW (R:aU) (t:Nat): ∀ m k acc a,sH R t m k acc=some a→a≤acc+m
 | 0,_,_,_,h=>by simp [sH] at h;omega
 | m+1,k,acc,a,h=>by
  rw [sH] at h
  split at h
  ·have:=abW R t m _ _ _ h;omega
  ·split at h
   ·cases h
   ·have:=abW R t m _ _ _ h
    have:=Xo R (num (cl R.L t) (2*k))
    omega
theorem ab2 (R:aU) (t:Nat): ∀ m i acc,(uS R t m i acc).2≤acc+33*m
 | 0,_,_=>by simp [uS]
 | m+1,i,acc=>by
  rw [uS];split
  ·have:=ab2 R t m (i+1) acc;omega
  ·split
   ·show (0:Nat)≤_;omega
   ·split
    ·show (0:Nat)≤_;omega
    ·rename_i a ha;have h1:=abW R _ _ _ _ _ ha;have h2:=ab2 R t m (i+1) a
     have:=Xo R (num (cl R.L t) (2*i))
     omega
theorem aiF (R:aU) (r:bC):(marked R r).2≤66:=by have:=ab2 R r.N 2 0 0;unfold marked;omega
theorem akT (R:aU): ∀ m,Ac R m≤66*m
 | 0=>aP _
 | m+1=>by have:=akT R m;have:=aiF R (rootOf R m);simp only [Ac];omega
structure JF (w w':World) (z s:List Value):Prop where
 below:aC w w'
 one:w'.heap[w.heap.size]? = some (.cells z.toArray 51 (0,0))
 two:w'.heap[w.heap.size+1]? = some (.cells s.toArray 51 (0,0))
theorem JF.set {w w':World} {z s:List Value} (h:JF w w' z s) (i:Nat) (v:Value):JF w (w'.setCell ⟨w.heap.size+1,i,none⟩ v) z (s.set i v):=
 ⟨h.below.setCell sm _,by rw [Ry _ _ _ _ sm];exact h.one,by rw [heap_setCell_same _ _ _ _ _ _ _ h.two,Af]⟩
theorem JF.later {w w' w2:World} {z s:List Value} (h:JF w w' z s) (hb:Below w'.heap.size w' w2):JF w w2 z s:=
 ⟨h.below.trans (hb.mono h.below.size),by rw [hb.block _ (aO h.one)];exact h.one,by rw [hb.block _ (aO h.two)];exact h.two⟩
def zs5:List Value:=[.int .i64 0,.int .i64 0,.int .i64 0,.int .i64 0,.int .i64 0]
theorem ac9 (w:World) (f:Nat) (Lv Rv:Value) (R:aU) (h:bV w f Lv Rv R) (jk:R.L.length≤256) (hL5:5≤R.L.length) (hrl:R.roots.length≤5) (hin: ∀ i,i<R.roots.length→rH R.L (rootOf R i).N) (hlow:uK 1000000 R):
  Calls Tryz.prog 42 #[.pointer (some ⟨f,0,none⟩)] w fun e w'=>
   e= .returned (.agg (oq (Cm R)).toArray)∧aC w w':=by
 have c0:=h.uN;have hfl:=h.lt;obtain ⟨a,cap,rfl⟩:=iq h.fF;obtain ⟨a2,cap2,rfl⟩:=iq h.o8;have t0:JF w ((w.alloc (.cells zs5.toArray 51)).alloc (.cells (oq ⟨R.L.length,0,0,0,0⟩).toArray 51)) zs5 (oq ⟨R.L.length,0,0,0,0⟩):=by
  refine ⟨(fC).alloc sm _,?_,?_⟩
  ·rw [jE _ _ _ sm];exact aW _ _
  ·have:=aW (w.alloc (.cells zs5.toArray 51)) (.cells (oq ⟨R.L.length,0,0,0,0⟩).toArray 51)
   simpa using this
 have T0:=ah t0;clear t0
 go_enter Tryz.func42,Tryz.ntmps42
 go_wp2
 go_loopw [4] (fun i w'=> ∃ k:Nat,k≤R.L.length∧i= .int .i64 k∧JF w w' zs5 (oq ⟨R.L.length,bF (zx R) k,bF (xO R) k,bF (xP R) k,0⟩)) (fun i _=>R.L.length - (intOf i).toNat)
 case atStart=>exact ⟨0,om,rfl,uh T0⟩
 case round=>
  obtain ⟨k,hk,rfl,ht⟩:=hrel;clear T0;have hr:=h.below ht.below;clear c0;have c0:=hr.uN
  by_cases hlt:k<R.L.length
  ·have cu:=hr.SA k om;have hu:=hlow k;have zB:=ah (SG wr f _ _ R hr (k:Int) om om hL5);rw [vC] at zB;have hq:=aaH R.L k;have hU:bF (zx R) (k+1)=bF (zx R) k+if 0<R.used.getD k 0 then 1 else 0:=by simp [bF,zx]
   have hLo:bF (xO R) (k+1)=bF (xO R) k+if R.used.getD k 0=0∧0<aS R.L k then 1 else 0:=by simp [bF,xO]
   have hO:bF (xP R) (k+1)=bF (xP R) k+if 0<R.used.getD k 0∧R.used.getD k 0<aS R.L k then 1 else 0:=by simp [bF,xP]
   have l1:=PK (zx R) k;have l2:=PK (xO R) k;have l3:=PK (xP R) k;have s1:wr.cell? ⟨w.heap.size+1,1,none⟩=some (.int .i64 (bF (zx R) k:Nat)):=by rw [aG ht.two];rfl
   have s2:wr.cell? ⟨w.heap.size+1,2,none⟩=some (.int .i64 (bF (xO R) k:Nat)):=by rw [aG ht.two];rfl
   have s3:wr.cell? ⟨w.heap.size+1,3,none⟩=some (.int .i64 (bF (xP R) k:Nat)):=by rw [aG ht.two];rfl
   have hfz: ∀ i,wr.frozen? ⟨w.heap.size+1,i,none⟩=false:=fun i=>eG ht.two i;have avK: ¬ f=w.heap.size+1:=om;generalize aS R.L k=q at*;generalize R.used.getD k 0=u at*;generalize bF (zx R) k=nU at*;generalize bF (xO R) k=nL at*;generalize bF (xP R) k=nO at*;have HU:=ah hU;have HL:=ah hLo;have HO:=ah hO;have HT:=ah ht;clear hU hLo hO ht hr
   go_wp2_with fail
   refine zB.mono ?_;rintro e w1 ⟨rfl,rfl⟩;clear zB
   by_cases hu0:u=0
   ·subst hu0
    by_cases hq0:0<q
    ·have dq:decide ((0:Int)<(q:Int))=true:=by simp;omega
     go_wp2;go_roundw
     case rel=>
      refine ⟨k+1,om,gn,?_⟩;have eU:bF (zx R) (k+1)=nU:=by have e:=uh HU;split at e <;> omega
      have eL:bF (xO R) (k+1)=nL+1:=by have e:=uh HL;rw [au (And.intro trivial om)] at e;exact e
      have eO:bF (xP R) (k+1)=nO:=by have e:=uh HO;split at e <;> omega
      rw [eU,eL,eO];exact HT.set 2 (.int .i64 ((nL:Int)+1))
     case measure=>exact cO
    ·have dq:decide ((0:Int)<(q:Int))=false:=by simp;omega
     go_wp2;go_roundw
     case rel=>
      refine ⟨k+1,om,gn,?_⟩;have eU:bF (zx R) (k+1)=nU:=by have e:=uh HU;split at e <;> omega
      have eL:bF (xO R) (k+1)=nL:=by have e:=uh HL;split at e <;> omega
      have eO:bF (xP R) (k+1)=nO:=by have e:=uh HO;split at e <;> omega
      rw [eU,eL,eO];exact uh HT
     case measure=>exact cO
   ·have d1:((u:Int) == 0)=false:=by rw [lI];omega
    have d2:decide ((0:Int)<(u:Int))=true:=by simp;omega
    by_cases WX:u<q
    ·have dq:decide ((u:Int)<(q:Int))=true:=by simp;omega
     go_wp2;go_roundw
     case rel=>
      refine ⟨k+1,om,gn,?_⟩;have eU:bF (zx R) (k+1)=nU+1:=by have e:=uh HU;split at e <;> omega
      have eL:bF (xO R) (k+1)=nL:=by have e:=uh HL;split at e <;> omega
      have eO:bF (xP R) (k+1)=nO+1:=by have e:=uh HO;split at e <;> omega
      rw [eU,eL,eO];exact (HT.set 1 (.int .i64 ((nU:Int)+1))).set 3 (.int .i64 ((nO:Int)+1))
     case measure=>exact cO
    ·have dq:decide ((u:Int)<(q:Int))=false:=by simp;omega
     go_wp2;go_roundw
     case rel=>
      refine ⟨k+1,om,gn,?_⟩;have eU:bF (zx R) (k+1)=nU+1:=by have e:=uh HU;split at e <;> omega
      have eL:bF (xO R) (k+1)=nL:=by have e:=uh HL;split at e <;> omega
      have eO:bF (xP R) (k+1)=nO:=by have e:=uh HO;split at e <;> omega
      rw [eU,eL,eO];exact HT.set 1 (.int .i64 ((nU:Int)+1))
     case measure=>exact cO
  ·have xK:k=R.L.length:=om;rw [xK] at ht;have HT:=ah ht;have c1:=hr.BG;clear ht hr xK;go_wp2
   go_loopw [6] (fun i w'=> ∃ m:Nat,m≤R.roots.length∧i= .int .i64 m∧JF w w' zs5 (oq ⟨R.L.length,bF (zx R) R.L.length,bF (xO R) R.L.length,bF (xP R) R.L.length,Ac R m⟩)) (fun i _=>R.roots.length - (intOf i).toNat)
   case atStart=>exact ⟨0,om,rfl,uh HT⟩
   case round=>
    obtain ⟨m,hm,rfl,ht⟩:=hrel;clear HT c0 c1;have hr:=h.below ht.below;have c1:=hr.BG
    by_cases hlt2:m<R.roots.length
    ·have hrow:=hr.o8;obtain ⟨g2,cap3,e2,_⟩:=gB hrow om;obtain ⟨rfl,rfl⟩:a2=some ⟨g2,0,none⟩∧cap2=cap3:=by injection e2 with x1 x2 x3;exact ⟨x1,x3⟩
     have r0:=xU hrow m hlt2 0 om;have r1:=xU hrow m hlt2 1 om;have r2:=xU hrow m hlt2 2 om;rw [show R.roots.getD m ⟨0,0,[]⟩=rootOf R m from rfl] at r0 r1 r2;simp only [ig,Ju,EN,jL] at r0 r1 r2;have hun:Ac R (m+1)=Ac R m+(marked R (rootOf R m)).2:=rfl;have hle:=akT R m;have hml:=aiF R (rootOf R m);have Hm:=ah (aiE wr f _ _ R (rootOf R m) hr jk hL5 (hin m hlt2) hlow);have s4:wr.cell? ⟨w.heap.size+1,4,none⟩=some (.int .i64 (Ac R m:Nat)):=by rw [aG ht.two];rfl
     have TJ:(m:Int)<(R.roots.length:Int):=om;have HT:=ah ht;clear ht hr hrow e2;have Hun:=ah hun;clear hun;generalize Ac R m=nM at*;unfold ig at Hm
     go_wp2_with fail
     refine Hm.mono ?_;rintro e w1 ⟨rfl,hb1⟩;have ht1:=HT.later hb1;have s4':w1.cell? ⟨w.heap.size+1,4,none⟩=some (.int .i64 (nM:Nat)):=by rw [aG ht1.two];rfl
     have hfz: ∀ i,w1.frozen? ⟨w.heap.size+1,i,none⟩=false:=fun i=>eG ht1.two i;have HT1:=ah ht1;clear ht1 hb1 Hm HT r0 r1 r2 s4 c1;generalize (marked R (rootOf R m)).2=q at*;generalize (marked R (rootOf R m)).1=q1 at*;go_wp2;go_roundw
     case rel=>
      refine ⟨m+1,om,gn,?_⟩;rw [uh Hun];exact HT1.set 4 (.int .i64 ((nM:Int)+(q:Int)))
     case measure=>exact cO
    ·have hme:m=R.roots.length:=om;have o0:wr.cell? ⟨w.heap.size,0,none⟩=some (.int .i64 0):=by rw [aG ht.one];rfl
     have o1:wr.cell? ⟨w.heap.size,1,none⟩=some (.int .i64 0):=by rw [aG ht.one];rfl
     have o2:wr.cell? ⟨w.heap.size,2,none⟩=some (.int .i64 0):=by rw [aG ht.one];rfl
     have o3:wr.cell? ⟨w.heap.size,3,none⟩=some (.int .i64 0):=by rw [aG ht.one];rfl
     have o4:wr.cell? ⟨w.heap.size,4,none⟩=some (.int .i64 0):=by rw [aG ht.one];rfl
     have hfo: ∀ i,wr.frozen? ⟨w.heap.size,i,none⟩=false:=fun i=>eG ht.one i;have s0:wr.cell? ⟨w.heap.size+1,0,none⟩=some (.int .i64 (R.L.length:Nat)):=by rw [aG ht.two];rfl
     have s1:wr.cell? ⟨w.heap.size+1,1,none⟩=some (.int .i64 (bF (zx R) R.L.length:Nat)):=by rw [aG ht.two];rfl
     have s2:wr.cell? ⟨w.heap.size+1,2,none⟩=some (.int .i64 (bF (xO R) R.L.length:Nat)):=by rw [aG ht.two];rfl
     have s3:wr.cell? ⟨w.heap.size+1,3,none⟩=some (.int .i64 (bF (xP R) R.L.length:Nat)):=by rw [aG ht.two];rfl
     have s4:wr.cell? ⟨w.heap.size+1,4,none⟩=some (.int .i64 (Ac R m:Nat)):=by rw [aG ht.two];rfl
     rw [hme] at s4;have hst:Cm R=⟨R.L.length,bF (zx R) R.L.length,bF (xO R) R.L.length,bF (xP R) R.L.length,Ac R R.roots.length⟩:=rfl;have fK:=ah hst;have Hb:=ah ht.below;clear hst ht hr hme;generalize bF (zx R) R.L.length=nU at*;generalize bF (xO R) R.L.length=nL at*;generalize bF (xP R) R.L.length=nO at*;generalize Ac R R.roots.length=nM at*;go_wp2;rw [uh fK];refine gV (v:= .agg (oq ⟨R.L.length,nU,nL,nO,nM⟩).toArray) (by simp [results,Tryz.results42,oq,go_sem,o0,o1,o2,o3,o4]) rfl ⟨rfl,?_⟩;exact ((((Hb.setCell (p:=⟨w.heap.size,0,none⟩) (aP _) _).setCell (p:=⟨w.heap.size,1,none⟩) (aP _) _).setCell (p:=⟨w.heap.size,2,none⟩) (aP _) _).setCell (p:=⟨w.heap.size,3,none⟩) (aP _) _).setCell (p:=⟨w.heap.size,4,none⟩) (aP _) _
def y7 (R:aU):Bool:=(Cm R).lost == 0 && ((Cm R).over == 0 && (Cm R).QT == 0)
theorem ags (w:World) (f:Nat) (Lv Rv:Value) (R:aU) (h:bV w f Lv Rv R) (jk:R.L.length≤256) (hL5:5≤R.L.length) (hrl:R.roots.length≤5) (hin: ∀ i,i<R.roots.length→rH R.L (rootOf R i).N) (hlow:uK 1000000 R):
  Calls Tryz.prog 44 #[.pointer (some ⟨f,0,none⟩)] w fun e w'=>e= .returned (.bool (y7 R))∧aC w w':=by
 have Hs:=ah (ac9 w f Lv Rv R h jk hL5 hrl hin hlow);have He:Hid (y7 R=((Cm R).lost == 0 && ((Cm R).over == 0 && (Cm R).QT == 0))):=rfl;generalize y7 R=ex at*;generalize Cm R=st at*;obtain ⟨s0,s1,s2,s3,s4⟩:=st;simp only at He;unfold oq at Hs
 go_enter Tryz.func44,Tryz.ntmps44
 go_wp2_with fail
 refine Hs.mono ?_;rintro e w1 ⟨rfl,hb⟩;have Hb:=ah hb;clear hb Hs
 by_cases h2:s2=0
 ·subst h2
  by_cases h3:s3=0
  ·subst h3
   by_cases h4:s4=0
   ·subst h4;go_wp2;go_ret;exact ⟨by rw [uh He];rfl,(Hb.alloc Hb.size _)⟩
   ·have d4:((s4:Int) == 0)=false:=by rw [lI];omega
    have e4:(s4 == 0)=false:=by rw [lI];omega
    rw [e4] at He;clear e4;go_wp2;go_ret;exact ⟨by rw [uh He];rfl,(Hb.alloc Hb.size _)⟩
  ·have d3:((s3:Int) == 0)=false:=by rw [lI];omega
   have e3:(s3 == 0)=false:=by rw [lI];omega
   rw [e3] at He;clear e3;go_wp2;go_ret;exact ⟨by rw [uh He];rfl,(Hb.alloc Hb.size _)⟩
 ·have d2:((s2:Int) == 0)=false:=by rw [lI];omega
  have e2:(s2 == 0)=false:=by rw [lI];omega
  rw [e2] at He;clear e2;go_wp2;go_ret;exact ⟨by rw [uh He];rfl,(Hb.alloc Hb.size _)⟩
section
attribute [local go_sem ↓] dw fP LK Ou OH
attribute [local go_sem] dK fO MF Oj Ol
def tN (L:List aj) (t b:Nat):aj:=
 if num (cl L t) (2*(b / 32))=0 then zc
 else if num (cl L (num (cl L t) (2*(b / 32))%32768)) (2*(b%32))=0 then zc
 else cl L (num (cl L (num (cl L t) (2*(b / 32))%32768)) (2*(b%32))%32768)
def yA (L:List aj) (t k:Nat):List aj:=(List.range 64).map fun b=>if b<k then tN L t b else zc
def dZ (L:List aj) (t:Nat):List aj:=(List.range 64).map fun b=>tN L t b
theorem aaD (L:List aj) (t k:Nat):(yA L t k).length=64:=by simp [yA]
theorem anR (L:List aj) (t:Nat):yA L t 0=zD:=by
 refine uH fun i=> ?_
 by_cases hi:i<64
 ·rw [zD,qU,au hi];simp only [yA,jD,x9 hi,EM];rw [ak om]
 ·rw [eu (by simp [yA];omega),eu (by simp [zD];omega)]
theorem aaC (L:List aj) (t:Nat):yA L t 64=dZ L t:=by
 unfold yA dZ;refine Ii fun b hb=> ?_;rw [au (by simpa using hb)]
theorem afV (L:List aj) (t k:Nat) (hk:k<64):yA L t (k+1)=(yA L t k).set k (tN L t k):=by
 refine uH fun i=> ?_;rw [uf]
 by_cases hi:i<64
 ·simp only [yA,jD,x9 hi,EM,tH,Y5]
  by_cases h:k=i
  ·subst h;rw [au rfl,au hk,au om]
  ·rw [ak h]
   by_cases h2:i<k
   ·rw [au h2,au om]
   ·rw [ak h2,ak om]
 ·rw [eu (by simp [yA];omega),ak om,eu (by simp [yA];omega)]
theorem afU (L:List aj) (t k:Nat) (hk:k<64) (h:tN L t k=zc):yA L t (k+1)=yA L t k:=by
 rw [afV L t k hk,h];refine uH fun i=> ?_;rw [uf]
 by_cases hi:k=i
 ·subst hi;rw [au rfl,au (by rw [aaD];exact hk)];simp [yA,hk]
 ·rw [ak hi]
theorem afe {L:List aj} {t:Nat} (hl: ∀ c ∈ L,c.length=64) (hin:rH L t) (b:Nat) (hb:b<64):(tN L t b).length=64:=by
 unfold tN;split
 ·exact aV
 ·split
  ·exact aV
  ·rename_i h1 h2;exact iM hl (hin.block (b / 32) om h1 (b%32) om)
theorem aaE {L:List aj} {t:Nat} (hl: ∀ c ∈ L,c.length=64) (hin:rH L t) (k:Nat): ∀ c ∈ yA L t k,c.length=64:=by
 intro c hc;simp only [yA,gQ,Jm] at hc;obtain ⟨b,hb,rfl⟩:=hc;split
 ·exact afe hl hin b hb
 ·exact aV
structure Lj (w w':World) (D:List aj):Prop where
 below:aC w w'
 one:w'.heap[w.heap.size+1]? = some (.cells (aQ zD).toArray 67 (0,0))
 two:w'.heap[w.heap.size+1+1]? = some (.cells (aQ D).toArray 67 (0,0))
theorem Lj.later {w w' w2:World} {D:List aj} (h:Lj w w' D) (hb:Below w'.heap.size w' w2):Lj w w2 D:=
 ⟨h.below.trans (hb.mono h.below.size),by rw [hb.block _ (aO h.one)];exact h.one,by rw [hb.block _ (aO h.two)];exact h.two⟩
theorem Lj.set {w w':World} {D:List aj} (h:Lj w w' D) (hD: ∀ c ∈ D,c.length=64) (k:Nat) (hk:k<D.length) (c:aj) (hc:c.length=64):Lj w (w'.setCells (w.heap.size+1+1) (k*64) (cv c)) (D.set k c):=
 ⟨below_setCells h.below om _ _,by rw [TA _ _ _ _ _ om];exact h.one,by rw [JY _ _ _ _ _ _ _ h.two,acZ D hD k hk c hc]⟩
theorem iI {w:World} {b:Nat} {cs:Array Value} {t:TypeId} (h:w.heap[b]? = some (.cells cs t (0,0))) (o n:Nat) (hn:o+n≤cs.size):w.there b o n:=fun j hj=>
 ⟨by rw [aG h,alr om];rfl,eG h _⟩
theorem Me {w:World} {b:Nat} {cs:List Value} {t:TypeId} {fr:Nat × Nat} (h:w.heap[b]? = some (.cells cs.toArray t fr)):w.rangeAt b 0 cs:=fun j v hv=>by
 rw [qR,aG h,bW];exact hv
theorem afX (w:World) (f:Nat) (Lv Rv:Value) (R:aU) (r:bC) (h:bV w f Lv Rv R) (hin:rH R.L r.N) (jk:R.L.length≤256):
  Calls Tryz.prog 80 #[.pointer (some ⟨f,0,none⟩),.agg (ig r).toArray] w fun e w'=>
   e= .returned (.agg (aQ (dZ R.L r.N)).toArray)∧aC w w':=by
 have hfl:=h.lt;obtain ⟨g,cap,rfl,hc⟩:=gB h.fF (by have:=hin.at';omega);have t0:Lj w (((w.alloc (.cells (ig r).toArray 132)).alloc (.cells (aQ zD).toArray 67)).alloc (.cells (aQ zD).toArray 67)) (yA R.L r.N 0):=by
  rw [anR];refine ⟨((fC).alloc sm _).alloc (by simp;omega) _,?_,?_⟩
  ·rw [jE _ _ _ sm]
   have:=aW (w.alloc (.cells (ig r).toArray 132)) (.cells (aQ zD).toArray 67)
   simpa using this
  ·have:=aW ((w.alloc (.cells (ig r).toArray 132)).alloc (.cells (aQ zD).toArray 67)) (.cells (aQ zD).toArray 67)
   simpa using this
 have b0:(((w.alloc (.cells (ig r).toArray 132)).alloc (.cells (aQ zD).toArray 67)).alloc (.cells (aQ zD).toArray 67)).heap[w.heap.size]? = some (.cells (ig r).toArray 132 (0,0)):=by
  rw [jE _ _ _ (by simp;omega),jE _ _ _ sm];exact aW _ _
 have T0:=ah t0;have B0:=ah b0;clear t0 b0;have hNi:(r.N:Int)<(R.L.length:Int):=by have:=hin.at';omega
 go_enter Tryz.func80,Tryz.ntmps80
 go_wp2
 go_loopw [6] (fun i w'=> ∃ k:Nat,k≤64∧i= .int .i64 k∧Lj w w' (yA R.L r.N k)∧w'.heap[w.heap.size]? = some (.cells (ig r).toArray 132 (0,0))) (fun i _=>64 - (intOf i).toNat)
 case atStart=>exact ⟨0,om,rfl,uh T0,uh B0⟩
 case round=>
  obtain ⟨k,hk,rfl,ht,hbx⟩:=hrel;clear T0 B0
  by_cases hlt:k<64
  ·have hr:=h.below ht.below;have hbox:wr.cell? ⟨w.heap.size,0,none⟩=some (.int .i64 (r.N:Nat)):=by rw [aG hbx];rfl
   have hG: ∀ d os,bV (Go.Sort.grow (redrawn wr d) os) f _ _ R:=fun d os=>hr.below (kL wr d os);have c0:=fun d os=>(hG d os).uN;have cx:=fun d os=>Ip hbox d os;have l1:=fun d os=>oI (hG d os).fF h.lens _ hin.at';have l2:=fun d os=>oH (hG d os).fF h.lens _ hin.at';have hlen:=iM h.lens hin.at';have Hn:=ah (fun d os=>Em (cl R.L r.N) (2*((k:Int) / 32)) (Go.Sort.grow (redrawn wr d) os) hlen om om);rw [show (2*((k:Int) / 32)).toNat=2*(k / 32) by omega] at Hn;have hxl:=iD (cl R.L r.N) (2*(k / 32));have nD:=hin.second (k / 32) om;have hblk:=hin.block (k / 32) om;have hbe:tN R.L r.N k=if num (cl R.L r.N) (2*(k / 32))=0 then zc
     else if num (cl R.L (num (cl R.L r.N) (2*(k / 32))%32768)) (2*(k%32))=0 then zc
     else cl R.L (num (cl R.L (num (cl R.L r.N) (2*(k / 32))%32768)) (2*(k%32))%32768):=rfl
   generalize num (cl R.L r.N) (2*(k / 32))=x at*;have Nb:=ah hbe;have Pg:=ah hblk;have al2:=ah nD;have HT:=ah ht;have pz:=ah hbx;have Hr:=ah hr;clear hG hbe hblk nD ht hbx hr;go_wp2;refine CQ kr kr ?_
   repeat (go_big_quiet_step (exact zA (uh Hn _ _)))
   refine CS ?_;intro _ hw';obtain ⟨⟨dq,osq⟩,hw''⟩:=hw';subst hw'';clear c0 cx l1 l2 Hn;have hb2:=kL wr dq osq;have HT2:=ah (HT.later hb2);have Vw:=ah (show (Go.Sort.grow (redrawn wr dq) osq).heap[w.heap.size]? = some (.cells (ig r).toArray 132 (0,0)) from (hb2.block _ (aO pz)).trans pz);have hr2:=Hr.below hb2;clear HT pz Hr hb2 hbox;generalize Go.Sort.grow (redrawn wr dq) osq=w2 at*
   by_cases hx0:x=0
   ·subst hx0;rw [au rfl] at Nb;clear hr2;go_wp2;go_roundw
    case rel=>exact ⟨k+1,om,gn,by rw [afU _ _ _ hlt (uh Nb)];exact uh HT2,uh Vw⟩
    case measure=>exact cO
   ·have dx:((x:Int) == 0)=false:=by rw [lI];omega
    rw [ak hx0] at Nb;have hxL:=uh al2 hx0;have hxi:(x:Int)%32768<(R.L.length:Int):=om;have c0:=hr2.uN;have l1:=oI hr2.fF hr2.lens _ hxL;have l2:=oH hr2.fF hr2.lens _ hxL;have Hn:=ah (Em (cl R.L (x%32768)) (2*((k:Int)%32)) w2 (iM h.lens hxL) om om);rw [show (2*((k:Int)%32)).toNat=2*(k%32) by omega] at Hn;have hyl:=iD (cl R.L (x%32768)) (2*(k%32));have hyL:=uh Pg hx0 (k%32) om;generalize num (cl R.L (x%32768)) (2*(k%32))=y at*;have Hr2:=ah hr2;clear hr2
    go_wp2_with fail
    refine Hn.mono ?_;rintro e w3 ⟨rfl,hb3⟩;have HT3:=ah (HT2.later hb3);have aew:=ah (show w3.heap[w.heap.size]? = some (.cells (ig r).toArray 132 (0,0)) from (hb3.block _ (aO Vw)).trans Vw);have hr3:=Hr2.below hb3;clear Hn HT2 Vw Hr2 hb3 c0 l1 l2
    by_cases hy0:y=0
    ·subst hy0;rw [au rfl] at Nb;clear hr3;go_wp2;go_roundw
     case rel=>exact ⟨k+1,om,gn,by rw [afU _ _ _ hlt (uh Nb)];exact uh HT3,uh aew⟩
     case measure=>exact cO
    ·have dy:((y:Int) != 0)=true:=by rw [nR];omega
     rw [ak hy0] at Nb;have hyi:(y:Int)%32768<(R.L.length:Int):=om;have c0:=hr3.uN;have l1:=oI hr3.fF hr3.lens _ hyL;have l2:=oH hr3.fF hr3.lens _ hyL;have hcl:=iM h.lens hyL;have pY:=aaE h.lens hin k;have hth:w3.there (w.heap.size+1+1) (k*64) 64:=iI HT3.two _ _ (by
      rw [iR,yC _ pY,aaD];omega)
     have alX:=ah pY;clear hr3 pY;go_wp2;go_roundw
     case rel=>
      refine ⟨k+1,om,gn,?_,?_⟩
      ·rw [afV _ _ _ hlt,uh Nb];exact HT3.set alX k (by rw [aaD];exact hlt) _ hcl
      ·rw [TA _ _ _ _ _ om];exact uh aew
     case measure=>exact cO
  ·have hk64:k=64:=om;subst hk64;rw [aaC] at ht;have pY: ∀ c ∈ dZ R.L r.N,c.length=64:=by rw [← aaC];exact aaE h.lens hin 64
   have hl64:(dZ R.L r.N).length=64:=by simp [dZ]
   have IK:(aQ (dZ R.L r.N)).length=4096:=by rw [yC _ pY,hl64]
   have hA:EP (dZ R.L r.N):=pY;have l1:dN wr (w.heap.size+1+1) 0 4096:=sV (Me ht.two) IK;have l2:dI wr (w.heap.size+1+1) 0 4096=aQ (dZ R.L r.N):=qX (Me ht.two) IK;have hzl:(aQ zD).length=4096:=by rw [yC _ MK,ML]
   have hth:wr.there (w.heap.size+1) 0 4096:=iI ht.one _ _ (by rw [iR,hzl];omega);have Hb:=ah ht.below;have hrg:(wr.setCells (w.heap.size+1) 0 (aQ (dZ R.L r.N))).rangeAt (w.heap.size+1) 0 (aQ (dZ R.L r.N)):=World.rangeAt_setCells_same _ _ _ _ (by rw [IK];exact hth);have l3:=sV hrg IK;have l4:=qX hrg IK;clear ht hbx hrg hzl IK pY;generalize hD:dZ R.L r.N=D at*;have HD:=ah hD;clear hD;go_wp2;refine gV (v:= .agg (aQ D).toArray) (qK Tryz.results80 ⟨w.heap.size+1,0,none⟩ rfl (by rw [LK,MF l3,l4])) rfl ⟨by rw [uh HD],?_⟩;exact below_setCells Hb om _ _
end
end Go.Proofs.YtknjjjenklfeoaaGreatDoor
