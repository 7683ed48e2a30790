import Derived.Test.YtknjjjenklfeoaaGreatDoorO26
import Derived.Test.YtknjjjenklfeoaaGreatDoorO24
set_option maxHeartbeats 8000000
set_option maxRecDepth 100000
set_option linter.all false
namespace Go.Proofs.YtknjjjenklfeoaaGreatDoor
open Go.RowKit
theorem atC (w:World):(Go.sizeOf 38).run Tryz.prog w= .ok 64 w:=by
 cases hq:Tryz.prog.info? 38 with
 | none=>
  have h:(Tryz.prog.info? 38).isSome=true:=kr;exact absurd hq (by intro e;rw [e] at h;cases h)
 | some i=>
  have hz:(Tryz.prog.info? 38).map (·.size)=some 64:=kr;rw [hq] at hz;simp at hz;simp [Go.sizeOf,typeInfo,hq,hz]
theorem arN (x:iU) (w:World):(part 3 (bM x).toArray 0).run Tryz.prog w= .ok (.int .i64 x.cl) w:=by
 have ha:(isAgg 3).run Tryz.prog w= .ok false w:=by unfold isAgg;rw [jh,xw Tryz.underlying3 w];rfl
 unfold part;rw [jh,ha];rfl
theorem arO (x:iU) (hx:x.data.length=64) (w:World):(part 38 (bM x).toArray 1).run Tryz.prog w= .ok (.agg (cv x.data).toArray) w:=by
 have ha:(isAgg 38).run Tryz.prog w= .ok true w:=by unfold isAgg;rw [jh,xw Tryz.underlying38 w];rfl
 unfold part;rw [jh,ha];simp only [rQ,wH,jh,atC,yX];rw [show (bM x).toArray.extract 1 (1+64)=(cv x.data).toArray by
  apply Array.ext';rw [Array.toList_extract];simp only [adY,bM,List.drop_one,List.tail_cons,Zp];exact Js (by rw [bg,hx];exact aP _)]
def agq (x y:Value):Sem Bool:=Op.equalIn 10000 104 x y
theorem agr (x y:Value):Op.equalIn 10000 104 x y=agq x y:=rfl
theorem aj9 {x:iU} (hx:x.data.length=64) (w:World):(agq (.agg (bM x).toArray) (.agg (bM x).toArray)).run Tryz.prog w= .ok true w:=by
 have hs:Tryz.prog.stoodInHeld 104=false:=kr;have h0:(Op.equalIn 9999 3 (.int .i64 x.cl) (.int .i64 x.cl)).run Tryz.prog w= .ok (x.cl == x.cl) w:=aea (P:=Tryz.prog) w 9998 3 .i64 .i64 x.cl x.cl Tryz.underlying3;have h1:(Op.equalIn 9999 38 (.agg (cv x.data).toArray) (.agg (cv x.data).toArray)).run Tryz.prog w= .ok (decide (x.data=x.data)) w:=acT 9997 x.data x.data hx hx w;show (Op.equalIn (9999+1) 104 _ _).run Tryz.prog w=_;rw [Op.equalIn];simp only [jh,xw Tryz.underlying104,rQ,Vh,hs,Bg,yc];rw [← adZ];simp only [MS,OQ,jh,arN,arO x hx,rQ,h0,h1,ne_eq,String.reduceEq,OT,wH,beq_self_eq_true,decide_true,Va,Bg,yc,yX]
section
attribute [local go_sem ↓] dw kT jG agr lZ
attribute [local go_sem] dK kY mD aV
theorem row_one {w:World} {base g cap n:Nat} {e:TypeId} {xs:List Value} (h:w.ownsRow base e 1 (.slice (some ⟨g,0,none⟩) n cap) n xs) (k:Nat) (hk:k<n) {v:Value} (hv:xs[k]? = some v):w.cell? ⟨g,k,none⟩=some v:=by
 rw [h.cellAt k om];exact hv
structure aec (B:lX):Prop where
 ln:B.names.length≤1000000000
 lf:B.files.length≤1000000000
 lw:B.writes.length≤1000000000
 en: ∀ x ∈ B.names,x.n≤1000000000
 ef: ∀ x ∈ B.files,x.n≤1000000000
 ew: ∀ x ∈ B.writes,x.n≤1000000000
theorem iK.nameAt {w:World} {b:Nat} {V:ou} {B:lX} {S:Nat→Prop} (h:iK w b V B S) (k:Nat) (hk:k<B.names.length):
  ∃ g cap g2 cap2 x a3 cap3,V.n= .slice (some ⟨g,0,none⟩) B.names.length cap∧V.nm= .slice (some ⟨g2,0,none⟩) B.names.length cap2∧B.names[k]? = some x∧x ∈ B.names∧x.v= .slice a3 x.n cap3:=by
 obtain ⟨g,cap,e1,_⟩:=gB h.rN om;obtain ⟨g2,cap2,e2,_⟩:=gB h.uw om;obtain ⟨a3,cap3,e3⟩:=iq (h.eN _ (oP hk));exact ⟨g,cap,g2,cap2,B.names[k],a3,cap3,e1,e2,bI hk,oP hk,e3⟩
theorem iK.fileAt {w:World} {b:Nat} {V:ou} {B:lX} {S:Nat→Prop} (h:iK w b V B S) (k:Nat) (hk:k<B.files.length):
  ∃ g cap g2 cap2 x a3 cap3,V.f= .slice (some ⟨g,0,none⟩) B.files.length cap∧V.fm= .slice (some ⟨g2,0,none⟩) B.files.length cap2∧B.files[k]? = some x∧x ∈ B.files∧x.v= .slice a3 x.n cap3:=by
 obtain ⟨g,cap,e1,_⟩:=gB h.rF om;obtain ⟨g2,cap2,e2,_⟩:=gB h.wY om;obtain ⟨a3,cap3,e3⟩:=iq (h.eF _ (oP hk));exact ⟨g,cap,g2,cap2,B.files[k],a3,cap3,e1,e2,bI hk,oP hk,e3⟩
theorem iK.avc {w:World} {b:Nat} {V:ou} {B:lX} {S:Nat→Prop} (h:iK w b V B S) (k:Nat) (hk:k<B.writes.length):
  ∃ g cap g2 cap2 x a3 cap3,V.w= .slice (some ⟨g,0,none⟩) B.writes.length cap∧V.wm= .slice (some ⟨g2,0,none⟩) B.writes.length cap2∧B.writes[k]? = some x∧x ∈ B.writes∧x.v= .slice a3 x.n cap3:=by
 obtain ⟨g,cap,e1,_⟩:=gB h.rW om;obtain ⟨g2,cap2,e2,_⟩:=gB h.wZ om;obtain ⟨a3,cap3,e3⟩:=iq (h.eW _ (oP hk));exact ⟨g,cap,g2,cap2,B.writes[k],a3,cap3,e1,e2,bI hk,oP hk,e3⟩
theorem anx (n:Nat) (c:aj) (j:Nat) (hj:j<n):cl (List.replicate n c) j=c:=by
 unfold cl;rw [aK,qU,au hj];rfl
theorem avb (n:Nat) (c:iU) (j:Nat) (hj:j<n):CG (List.replicate n c) j=c:=by
 unfold CG;rw [aK,qU,au hj];rfl
theorem aow {w:World} {x:Vm} {g cap:Nat} (h:w.ownsRow 0 38 64 (.slice (some ⟨g,0,none⟩) x.n cap) x.n (agt x)) (j:Nat) (hj:j<x.n):
  dN w g (j*64) 64∧dI w g (j*64) 64=cv (dR x.m):=by
 have hl:EP (List.replicate x.n (dR x.m)):=by
  intro c hc;rw [(ad2.1 hc).2];exact BX _
 have h':w.ownsRow 0 38 64 (.slice (some ⟨g,0,none⟩) (List.replicate x.n (dR x.m)).length cap) (List.replicate x.n (dR x.m)).length (aQ (List.replicate x.n (dR x.m))):=by
  rw [zy];exact h
 have e:=oH h' hl j (by simpa using hj);rw [anx _ _ _ hj] at e;exact ⟨oI h' hl j (by simpa using hj),e⟩
theorem agw {w:World} {x:VG} {g cap:Nat} (h:w.ownsRow 0 104 65 (.slice (some ⟨g,0,none⟩) x.n cap) x.n (agv x)) (j:Nat) (hj:j<x.n):
  dN w g (j*65) 65∧dI w g (j*65) 65=bM ⟨x.m,zc⟩:=by
 have hl: ∀ c ∈ List.replicate x.n (⟨x.m,zc⟩:iU),c.data.length=64:=by
  intro c hc;rw [(ad2.1 hc).2];exact aV
 have h':Le w (.slice (some ⟨g,0,none⟩) (List.replicate x.n (⟨x.m,zc⟩:iU)).length cap) (List.replicate x.n (⟨x.m,zc⟩:iU)):=by
  refine ⟨?_,hl⟩;rw [zy];exact h
 have r:=h'.range j (by simpa using hj);rw [avb _ _ _ hj] at r;exact ⟨sV r (uF aV),qX r (uF aV)⟩
def OY (w:World) (n:Nat) (i:Value) (w':World):Prop:= ∃ k:Nat,k≤n∧i= .int .i64 k∧aC w w'
theorem TW (w:World) (b:Nat) (V:ou) (B:lX) (S:Nat→Prop) (h:iK w b V B S) (hlow:aec B):
  Calls Tryz.prog 35 #[.pointer (some ⟨b,0,none⟩)] w fun e w'=>e= .returned (.bool true)∧aC w w':=by
 obtain ⟨an,cn,eN⟩:=iq h.rN;obtain ⟨af,cf,eF⟩:=iq h.rF;obtain ⟨aw,cw,eW⟩:=iq h.rW;have hc: ∀ w',aC w w'→w'.cell? ⟨b,0,none⟩=some (.slice an B.names.length cn)∧w'.cell? ⟨b,1,none⟩=some V.nm∧w'.cell? ⟨b,2,none⟩=some (.slice af B.files.length cf)∧w'.cell? ⟨b,3,none⟩=some V.fm∧w'.cell? ⟨b,4,none⟩=some (.slice aw B.writes.length cw)∧w'.cell? ⟨b,5,none⟩=some V.wm:=by
  intro w' hb;have h':=h.below hb;rw [h'.cell,h'.cell,h'.cell,h'.cell,h'.cell,h'.cell,← eN,← eF,← eW];exact ⟨rfl,rfl,rfl,rfl,rfl,rfl⟩
 have lN:(B.names.length:Int)≤1000000000:=by have:=hlow.ln;omega
 have lF:(B.files.length:Int)≤1000000000:=by have:=hlow.lf;omega
 have lW:(B.writes.length:Int)≤1000000000:=by have:=hlow.lw;omega
 have H:=ah h;have HC:=ah hc;have HL:=ah hlow;have HeN:=ah eN;have HeF:=ah eF;have HeW:=ah eW;clear h hc hlow eN eF eW
 go_enter Tryz.func35,Tryz.ntmps35
 go_wp2
 go_loopw [3] (fun i w'=>OY w B.names.length i w') (fun i _=>B.names.length - (intOf i).toNat)
 case atStart=>exact ⟨0,om,rfl,bG _ _⟩
 case round=>
  obtain ⟨k,hk,rfl,hb⟩:=hrel;have c0:=(uh HC wr hb).1;have Hb:=ah hb;clear hb
  by_cases hlt:k<B.names.length
  ·have hki:(k:Int)<(B.names.length:Int):=om;go_wp2
   go_loopw [4] (fun i w'=> ∃ x,B.names[k]? = some x∧OY w x.n i w') (fun i _=>1000000000 - (intOf i).toNat)
   case atStart=>exact ⟨B.names[k],bI hlt,0,om,rfl,uh Hb⟩
   case round=>
    obtain ⟨x,hx,j,hj,rfl,hb2⟩:=hrel;clear c0;have h2:=H.below hb2;have hq:=uh HC wr hb2;obtain ⟨g,cap,g2,cap2,x',a3,cap3,e1,e2,hx',hm,e3⟩:=h2.nameAt k hlt;obtain rfl:x'=x:=by rw [hx'] at hx;injection hx
    have hxl:(x'.n:Int)≤1000000000:=by have:=HL.en x' hm;omega
    obtain ⟨rfl,rfl⟩:an=some ⟨g,0,none⟩∧cn=cap:=by
     have e4:=uh HeN;rw [e1] at e4;injection e4 with x1 x2 x3;exact ⟨x1.symm,x3.symm⟩
    have c0:=hq.1;have c1:=hq.2.1;rw [e2] at c1;have r1:=h2.rN;rw [e1] at r1;have r2:=h2.uw;rw [e2] at r2;have d0:=row_one r1 k hlt (v:=x'.v) (by rw [jD,hx'];rfl);have d2:=row_one r2 k hlt (v:= .string x'.s) (by rw [jD,hx'];rfl);have r3:=h2.eN x' hm;rw [e3] at d0 r3;have Hb2:=ah hb2;have Hx:=ah hx';have Hm:=ah hm;have HH:=ah h2;clear h2 hq e1 e2 hx' hm r1 r2 hb2 e3 hx
    by_cases hjl:j<x'.n
    ·have hji:(j:Int)<(x'.n:Int):=om;obtain ⟨g3,cap4,e5,_⟩:=gB r3 om;obtain ⟨rfl,rfl⟩:a3=some ⟨g3,0,none⟩∧cap3=cap4:=by injection e5 with x1 x2 x3;exact ⟨x1,x3⟩
     have d1:=row_one r3 j hjl (v:= .string x'.s) (by unfold agu;rw [qU,au hjl]);clear r3 e5;go_wp2
     go_quiet (fail)
     go_wp2;go_roundw
     case rel=>exact ⟨x',uh Hx,j+1,om,gn,Hb2.trans ((((Kept.refl (fun _=>False) wr).drewN nq).below).mono Hb2.size)⟩
     case measure=>exact cO
    ·have hji: ¬ (j:Int)<(x'.n:Int):=om;clear r3 d2 c1;go_wp2;go_roundw
     case rel=>exact ⟨k+1,om,gn,uh Hb2⟩
     case measure=>exact cO
  ·have hki: ¬ (k:Int)<(B.names.length:Int):=om;go_wp2;clear c0;have Hb0:=Hb;clear Hb hk hlt hki;generalize Value.int .i64 (k:Int)=iv0 at*
   go_loopw [5] (fun i w'=>OY w B.files.length i w') (fun i _=>B.files.length - (intOf i).toNat)
   case atStart=>exact ⟨0,om,rfl,uh Hb0⟩
   case round=>
    obtain ⟨k,hk,rfl,hb⟩:=hrel;have c0:=(uh HC wr hb).2.2.1;have Hb:=ah hb;clear hb
    by_cases hlt:k<B.files.length
    ·have hki:(k:Int)<(B.files.length:Int):=om;go_wp2
     go_loopw [6] (fun i w'=> ∃ x,B.files[k]? = some x∧OY w x.n i w') (fun i _=>1000000000 - (intOf i).toNat)
     case atStart=>exact ⟨B.files[k],bI hlt,0,om,rfl,uh Hb⟩
     case round=>
      obtain ⟨x,hx,j,hj,rfl,hb2⟩:=hrel;clear c0;have h2:=H.below hb2;have hq:=uh HC wr hb2;obtain ⟨g,cap,g2,cap2,x',a3,cap3,e1,e2,hx',hm,e3⟩:=h2.fileAt k hlt;obtain rfl:x'=x:=by rw [hx'] at hx;injection hx
      have hxl:(x'.n:Int)≤1000000000:=by have:=HL.ef x' hm;omega
      obtain ⟨rfl,rfl⟩:af=some ⟨g,0,none⟩∧cf=cap:=by
       have e4:=uh HeF;rw [e1] at e4;injection e4 with x1 x2 x3;exact ⟨x1.symm,x3.symm⟩
      have c0:=hq.2.2.1;have c1:=hq.2.2.2.1;rw [e2] at c1;have r1:=h2.rF;rw [e1] at r1;have r2:=h2.wY;rw [e2] at r2;have d0:=row_one r1 k hlt (v:=x'.v) (by rw [jD,hx'];rfl);have d2:=row_one r2 k hlt (v:= .int .u8 (x'.m.toNat:Int)) (by rw [jD,hx'];rfl);have r3:=h2.eF x' hm;rw [e3] at d0 r3;have Hb2:=ah hb2;have Hx:=ah hx';have Hm:=ah hm;have HH:=ah h2;clear h2 hq e1 e2 hx' hm r1 r2 hb2 e3 hx
      by_cases hjl:j<x'.n
      ·have hji:(j:Int)<(x'.n:Int):=om;obtain ⟨g3,cap4,e5,_⟩:=gB r3 om;obtain ⟨rfl,rfl⟩:a3=some ⟨g3,0,none⟩∧cap3=cap4:=by injection e5 with x1 x2 x3;exact ⟨x1,x3⟩
       have r4: ∀ d os,dN (Go.Sort.grow (redrawn wr d) os) g3 (j*64) 64∧dI (Go.Sort.grow (redrawn wr d) os) g3 (j*64) 64=cv (dR x'.m):=fun d os=>aow (bQ (S:=fun _=>False) (Kept.dS (kL wr d os)) r3 (fun _ _=>id)) j hjl;have l1:=fun d os=>(r4 d os).1;have l2:=fun d os=>(r4 d os).2;have x0:=fun d os=>Ip c0 d os;have x1:=fun d os=>Ip c1 d os;have y0:=fun d os=>Ip d0 d os;have y2:=fun d os=>Ip d2 d os;have Hn:=ah (fun d os=>J5 x'.m (Go.Sort.grow (redrawn wr d) os));have hml:=BX x'.m;have he:=wE hml hml;rw [eH rfl] at he;clear r3 r4 e5 hml;go_wp2;clear c0 c1 d0 d2;refine CQ kr kr ?_
       repeat (go_big_quiet_step (exact zA (uh Hn _ _)))
       refine CS ?_;intro _ hw';obtain ⟨⟨dq,osq⟩,hw''⟩:=hw';subst hw'';clear x0 x1 y0 y2 l1 l2 Hn;go_wp2;go_roundw
       case rel=>exact ⟨x',uh Hx,j+1,om,gn,Hb2.trans ((kL wr dq osq).mono Hb2.size)⟩
       case measure=>exact cO
      ·have hji: ¬ (j:Int)<(x'.n:Int):=om;clear r3 d2 c1;go_wp2;go_roundw
       case rel=>exact ⟨k+1,om,gn,uh Hb2⟩
       case measure=>exact cO
    ·have hki: ¬ (k:Int)<(B.files.length:Int):=om;go_wp2;clear c0;have Hb1:=Hb0;clear Hb1 Hb0;have Hb0:=Hb;clear Hb hk hlt hki;generalize Value.int .i64 (k:Int)=iv0 at*
     go_loopw [7] (fun i w'=>OY w B.writes.length i w') (fun i _=>B.writes.length - (intOf i).toNat)
     case atStart=>exact ⟨0,om,rfl,uh Hb0⟩
     case round=>
      obtain ⟨k,hk,rfl,hb⟩:=hrel;have c0:=(uh HC wr hb).2.2.2.2.1;have Hb:=ah hb;clear hb
      by_cases hlt:k<B.writes.length
      ·have hki:(k:Int)<(B.writes.length:Int):=om;go_wp2
       go_loopw [8] (fun i w'=> ∃ x,B.writes[k]? = some x∧OY w x.n i w') (fun i _=>1000000000 - (intOf i).toNat)
       case atStart=>exact ⟨B.writes[k],bI hlt,0,om,rfl,uh Hb⟩
       case round=>
        obtain ⟨x,hx,j,hj,rfl,hb2⟩:=hrel;clear c0;have h2:=H.below hb2;have hq:=uh HC wr hb2;obtain ⟨g,cap,g2,cap2,x',a3,cap3,e1,e2,hx',hm,e3⟩:=h2.avc k hlt;obtain rfl:x'=x:=by rw [hx'] at hx;injection hx
        have hxl:(x'.n:Int)≤1000000000:=by have:=HL.ew x' hm;omega
        obtain ⟨rfl,rfl⟩:aw=some ⟨g,0,none⟩∧cw=cap:=by
         have e4:=uh HeW;rw [e1] at e4;injection e4 with x1 x2 x3;exact ⟨x1.symm,x3.symm⟩
        have c0:=hq.2.2.2.2.1;have c1:=hq.2.2.2.2.2;rw [e2] at c1;have r1:=h2.rW;rw [e1] at r1;have r2:=h2.wZ;rw [e2] at r2;have d0:=row_one r1 k hlt (v:=x'.v) (by rw [jD,hx'];rfl);have d2:=row_one r2 k hlt (v:= .int .i64 x'.m) (by rw [jD,hx'];rfl);have r3:=h2.eW x' hm;rw [e3] at d0 r3;have Hb2:=ah hb2;have Hx:=ah hx';have Hm:=ah hm;have HH:=ah h2;clear h2 hq e1 e2 hx' hm r1 r2 hb2 e3 hx
        by_cases hjl:j<x'.n
        ·have hji:(j:Int)<(x'.n:Int):=om;obtain ⟨g3,cap4,e5,_⟩:=gB r3 om;obtain ⟨rfl,rfl⟩:a3=some ⟨g3,0,none⟩∧cap3=cap4:=by injection e5 with x1 x2 x3;exact ⟨x1,x3⟩
         have d1: ∀ n,dN (wr.drewN n) g3 (j*65) 65:=fun n=>(agw r3 j hjl).1;have d3: ∀ n,dI (wr.drewN n) g3 (j*65) 65=bM ⟨x'.m,zc⟩:=fun n=>(agw r3 j hjl).2;have he:=aj9 (x:=⟨x'.m,zc⟩) aV;clear r3 e5;go_wp2
         go_quiet (fail)
         go_wp2;go_roundw
         case rel=>exact ⟨x',uh Hx,j+1,om,gn,Hb2.trans ((((Kept.refl (fun _=>False) wr).drewN nq).below).mono Hb2.size)⟩
         case measure=>exact cO
        ·have hji: ¬ (j:Int)<(x'.n:Int):=om;clear r3 d2 c1;go_wp2;go_roundw
         case rel=>exact ⟨k+1,om,gn,uh Hb2⟩
         case measure=>exact cO
      ·have hki: ¬ (k:Int)<(B.writes.length:Int):=om;go_wp2;clear c0;go_ret;exact ⟨rfl,uh Hb⟩
end
section
structure Pn where
 log:Nat
 d:Nat
 Pv:Value
 D:dY
def Xn (m:Pn):List Value:=[.int .i64 m.log,.pointer (some ⟨m.d,0,none⟩)]
structure gW where
 d:Nat
 v:Nat
 y:Nat
 Cv:Value
 Lv:Value
 Pv:Value
 Mv:Value
 bv:Value
 ex:Bool
 V:aB
 D:dY
 B:List aj
 ms:List Pn
def acu (P:gW):List Value:=[.pointer (some ⟨P.d,0,none⟩),.pointer (some ⟨P.y,0,none⟩),P.bv,.bool P.ex,P.Mv]
structure dO (w:World) (p:Nat) (P:gW) (S:Nat→Prop):Prop where
 aF:w.heap[p]? = some (.cells (acu P).toArray 107 (0,0))
 iV:pq w P.d P.v P.Cv P.Lv P.V
 ref:eP w P.y P.Pv P.D
 Dx:lK w P.bv P.B
 Dy:w.ownsRow 0 109 2 P.Mv P.ms.length (P.ms.flatMap Xn)
 eM: ∀ m ∈ P.ms,eP w m.d m.Pv m.D
 LM: ∀ m ∈ P.ms,m.d≠P.y
 JG: ∀ g,P.bv.ownBlock=some g→ ¬ eX P.v P.Cv P.Lv g
 zQ:S p
 BN: ∀ k,Lu P.d P.v P.Cv P.Lv k→S k
 J3:S P.y
 iC: ∀ g,(P.Pv.ownBlock=some g∨P.Mv.ownBlock=some g∨P.bv.ownBlock=some g)→S g
 BO: ∀ m ∈ P.ms,S m.d∧ ∀ g,m.Pv.ownBlock=some g→S g
 lt: ∀ k,S k→k<w.heap.size
section
variable {w w':World} {p:Nat} {P:gW} {S T:Nat→Prop}
theorem dO.kept (h:dO w p P S) (hk:Kept T w w') (hd: ∀ k,S k→ ¬ T k):dO w' p P S where
 aF:=hk.aF (hd p h.zQ) h.aF
 iV:=h.iV.kept hk fun k hf=>hd k (h.BN k hf)
 ref:=h.ref.kept hk (hd _ h.J3) fun g hg=>hd g (h.iC g (aA hg))
 Dx:=h.Dx.kept hk fun g hg=>hd g (h.iC g (ay (ay hg)))
 Dy:=bQ hk h.Dy fun g hg=>hd g (h.iC g (ay (aA hg)))
 eM:=fun m hm=>(h.eM m hm).kept hk (hd _ (h.BO m hm).1) fun g hg=>hd g ((h.BO m hm).2 g hg)
 LM:=h.LM
 JG:=h.JG
 zQ:=h.zQ
 BN:=h.BN
 J3:=h.J3
 iC:=h.iC
 BO:=h.BO
 lt:=fun k hk'=>iZ (h.lt k hk') hk.size
theorem dO.below (h:dO w p P S) (hb:aC w w'):dO w' p P S:=h.kept (T:=fun _=>False) (Kept.dS hb) (fun _ _=>id)
theorem dO.cell (h:dO w p P S) (i:Nat):w.cell? ⟨p,i,none⟩=(acu P)[i]? := by rw [aG h.aF,bW]
theorem dO.fz (h:dO w p P S) (i:Nat):w.frozen? ⟨p,i,none⟩=false:=eG h.aF i
theorem dO.c0 (h:dO w p P S):w.cell? ⟨p,0,none⟩=some (.pointer (some ⟨P.d,0,none⟩)):=h.cell 0
theorem dO.c1 (h:dO w p P S):w.cell? ⟨p,1,none⟩=some (.pointer (some ⟨P.y,0,none⟩)):=h.cell 1
theorem dO.c2 (h:dO w p P S):w.cell? ⟨p,2,none⟩=some P.bv:=h.cell 2
theorem dO.c3 (h:dO w p P S):w.cell? ⟨p,3,none⟩=some (.bool P.ex):=h.cell 3
theorem dO.c4 (h:dO w p P S):w.cell? ⟨p,4,none⟩=some P.Mv:=h.cell 4
theorem dO.Xy (h:dO w p P S): ∀ g,P.Mv.ownBlock=some g→g≠p:=iw h.Dy h.aF dc
theorem KE {w:World} {base:Nat} {e:TypeId} {size:Nat} {v:Value} {n:Nat} {xs:List Value} (hr:w.ownsRow base e size v n xs) {g:Nat} (hg:v.ownBlock=some g): ∃ cs fr,w.heap[g]? = some (.cells cs e fr):=by
 rcases hr.2 with ⟨rfl,_⟩ | ⟨g',cap,cur,rfl,_,hh,_⟩
 ·cases hg
 ·simp only [Value.ownBlock,jv] at hg;subst hg;exact ⟨_,_,hh⟩
theorem Pz {w:World} {k:Nat} {cs cs':Array Value} {t t':TypeId} {fr fr':Nat × Nat} (h:w.heap[k]? = some (.cells cs t fr)) (h':w.heap[k]? = some (.cells cs' t' fr')):t=t':=by
 rw [h] at h';injection h' with h';injection h' with _ h'
theorem dO.Ny (h:dO w p P S) {k:Nat} {cs:Array Value} {t:TypeId} {fr:Nat × Nat} (hb:w.heap[k]? = some (.cells cs t fr)) (h1:t≠121) (h2:t≠38) (h3:t≠104): ¬ eX P.v P.Cv P.Lv k:=by
 have hv:=h.iV.bP;rintro (e | e | e)
 ·subst e;exact h1 (Pz hb hv.aF)
 ·exact iw hv.jA hb (fun x=>h2 x.symm) k e rfl
 ·exact iw hv.fF hb (fun x=>h3 x.symm) k e rfl
theorem dO.Wi (h:dO w p P S) {y:Nat} {Qv:Value} {D:dY} (hd:eP w y Qv D): ¬ eX P.v P.Cv P.Lv y∧ ∀ g,Qv.ownBlock=some g→ ¬ eX P.v P.Cv P.Lv g:=by
 refine ⟨h.Ny hd.aF dc dc dc,fun g hg=> ?_⟩;obtain ⟨cs,fr,hb⟩:=KE hd.row hg;exact h.Ny hb dc dc dc
theorem dO.step {C1 L1:Value} {V1:aB} (h:dO w p P S) (hs:bZ w w' P.v P.Cv P.Lv C1 L1 V1):
  dO w' p { P with Cv:=C1,Lv:=L1,V:=V1 } (fun k=>S k∨eX P.v C1 L1 k) where
 aF:=hs.kept.aF (h.Ny h.aF dc dc dc) h.aF
 iV:=h.iV.step hs
 ref:=h.ref.kept hs.kept (h.Wi h.ref).1 (h.Wi h.ref).2
 Dx:=h.Dx.kept hs.kept h.JG
 Dy:=bQ hs.kept h.Dy fun g hg=>by
  obtain ⟨cs,fr,hb⟩:=KE h.Dy hg;exact h.Ny hb dc dc dc
 eM:=fun m hm=>(h.eM m hm).kept hs.kept (h.Wi (h.eM m hm)).1 (h.Wi (h.eM m hm)).2
 LM:=h.LM
 JG:=fun g hg hf=>by
  rcases hs.new g hf with x | x
  ·exact h.JG g hg x
  ·have:=h.lt g (h.iC g (ay (ay hg)));omega
 zQ:=aA h.zQ
 BN:=by
  rintro k (e | e)
  ·exact aA (h.BN k (aA e))
  ·exact ay e
 J3:=aA h.J3
 iC:=fun g hg=>aA (h.iC g hg)
 BO:=fun m hm=>⟨aA (h.BO m hm).1,fun g hg=>aA ((h.BO m hm).2 g hg)⟩
 lt:=by
  rintro k (e | e)
  ·exact iZ (h.lt k e) hs.kept.size
  ·exact hs.at'.qG k e
theorem dO.QS {C1 L1:Value} {V1:aB} (h:dO w p P S) (hs:bZ w w' P.v P.Cv P.Lv C1 L1 V1): ∀ k,(S k∨eX P.v C1 L1 k)→S k∨w.heap.size≤k:=by
 rintro k (e | e)
 ·exact aA e
 ·rcases hs.new k e with x | x
  ·exact aA (h.BN k (ay x))
  ·exact ay x
theorem dO.adb {C1 L1:Value} {V1:aB} (h:dO w p P S) (hs:bZ w w' P.v P.Cv P.Lv C1 L1 V1):Kept S w w':=hs.kept.mono fun k hk=>h.BN k (ay hk)
theorem dO.asw {D1:dY} {Qv:Value} (h:dO w p P S) (hk:Kept (fun k=>k=P.y) w w') (hr:eP w' P.y Qv D1):dO w' p { P with D:=D1,Pv:=Qv } (fun k=>S k∨Qv.ownBlock=some k):=by
 have key: ∀ {k:Nat} {cs:Array Value} {t:TypeId} {fr:Nat × Nat},w.heap[k]? = some (.cells cs t fr)→t≠70→k≠P.y:=by
  intro k cs t fr hb h1 e;subst e;exact h1 (Pz hb h.ref.aF)
 have uQ: ∀ {base:Nat} {e:TypeId} {size:Nat} {v:Value} {n:Nat} {xs:List Value},w.ownsRow base e size v n xs→e≠70→ ∀ g,v.ownBlock=some g→g≠P.y:=by
  intro base e size v n xs hr' h1 g hg;obtain ⟨cs,fr,hb⟩:=KE hr' hg;exact key hb h1
 refine ⟨hk.aF (key h.aF dc) h.aF,h.iV.kept hk ?_,hr,h.Dx.kept hk (uQ h.Dx.row dc),bQ hk h.Dy (uQ h.Dy dc),fun m hm=>(h.eM m hm).kept hk (h.LM m hm) (uQ (h.eM m hm).row dc),h.LM,h.JG,aA h.zQ,fun k hk'=>aA (h.BN k hk'),aA h.J3,?_,fun m hm=>⟨aA (h.BO m hm).1,fun g hg=>aA ((h.BO m hm).2 g hg)⟩,?_⟩
 ·rintro k (e | e | e | e)
  ·rw [e];exact key h.iV.aF dc
  ·rw [e];exact key h.iV.bP.aF dc
  ·exact uQ h.iV.bP.jA dc k e
  ·exact uQ h.iV.bP.fF dc k e
 ·rintro g (e | e | e)
  ·exact ay e
  ·exact aA (h.iC g (ay (aA e)))
  ·exact aA (h.iC g (ay (ay e)))
 ·rintro k (e | e)
  ·exact iZ (h.lt k e) hk.size
  ·exact (hr.row.lt k e).2
theorem dO.ag1 {w5:World} {g5 cap5:Nat} {m:Pn} (h:dO w p P S) (hg:w.grownBy w5 P.Mv.ownBlock) (hrow:w5.ownsRow 0 109 2 (.slice (some ⟨g5,0,none⟩) (P.ms.length+1) cap5) (P.ms.length+1) (P.ms.flatMap Xn++Xn m)) (hat:P.Mv.ownBlock=some g5∨w.heap.size≤g5) (hlt:g5<w5.heap.size)
  (hm:eP w m.d m.Pv m.D) (hmy:m.d≠P.y) (w0:World) (hw0:w0.heap.size≤w.heap.size) (hmn:w0.heap.size≤m.d∧ ∀ g,m.Pv.ownBlock=some g→w0.heap.size≤g):
  dO (w5.setCell ⟨p,4,none⟩ (.slice (some ⟨g5,0,none⟩) (P.ms.length+1) cap5)) p { P with Mv:= .slice (some ⟨g5,0,none⟩) (P.ms.length+1) cap5,ms:=P.ms++[m] } (fun k=>S k∨k=g5∨k=m.d∨m.Pv.ownBlock=some k)∧
   Kept S w (w5.setCell ⟨p,4,none⟩ (.slice (some ⟨g5,0,none⟩) (P.ms.length+1) cap5))∧ ∀ k,(S k∨k=g5∨k=m.d∨m.Pv.ownBlock=some k)→S k∨w0.heap.size≤k:=by
 have hk5:Kept (fun k=>P.Mv.ownBlock=some k) w w5:=⟨hg.os,hg.tape,hg.output,hg.size,fun k hk hs=>hg.block k hk (fun e=>hs e.symm)⟩;have b5:w5.heap[p]? = some (.cells (acu P).toArray 107 (0,0)):=qH hg h.aF h.Xy;have b6:=heap_setCell_same w5 p 4 (.slice (some ⟨g5,0,none⟩) (P.ms.length+1) cap5) _ _ _ b5;have og:=Kept.only w5 p 4 (.slice (some ⟨g5,0,none⟩) (P.ms.length+1) cap5);have hk6:Kept (fun k=>P.Mv.ownBlock=some k∨k=p) w (w5.setCell ⟨p,4,none⟩ (.slice (some ⟨g5,0,none⟩) (P.ms.length+1) cap5)):=(hk5.mono fun k hk=>aA hk).trans (og.mono fun k hk=>ay hk);have key: ∀ {k:Nat} {cs:Array Value} {t:TypeId} {fr:Nat × Nat},w.heap[k]? = some (.cells cs t fr)→t≠109→t≠107→ ¬ (P.Mv.ownBlock=some k∨k=p):=by
  intro k cs t fr hb h1 h2;rintro (e | e)
  ·exact iw h.Dy hb (fun x=>h1 x.symm) k e rfl
  ·subst e;exact h2 (Pz hb h.aF)
 have uQ: ∀ {base:Nat} {e:TypeId} {size:Nat} {v:Value} {n:Nat} {xs:List Value},w.ownsRow base e size v n xs→e≠109→e≠107→ ∀ g,v.ownBlock=some g→ ¬ (P.Mv.ownBlock=some g∨g=p):=by
  intro base e size v n xs hr' h1 h2 g hg';obtain ⟨cs,fr,hb⟩:=KE hr' hg';exact key hb h1 h2
 have hgp:g5≠p:=fun e=>by
  rcases hat with x | x
  ·exact h.Xy g5 x e
  ·have:=h.lt _ h.zQ;omega
 have hdk: ∀ {y:Nat} {Qv:Value} {D:dY},eP w y Qv D→eP (w5.setCell ⟨p,4,none⟩ (.slice (some ⟨g5,0,none⟩) (P.ms.length+1) cap5)) y Qv D:=fun hd=>hd.kept hk6 (key hd.aF dc dc) (uQ hd.row dc dc);refine ⟨⟨?_,h.iV.kept hk6 ?_,hdk h.ref,h.Dx.kept hk6 (uQ h.Dx.row dc dc),?_,fun x hx=> ?_,fun x hx=> ?_,h.JG,aA h.zQ,fun k hk=>aA (h.BN k hk),aA h.J3,?_,fun x hx=> ?_,?_⟩,?_,?_⟩
 ·rw [b6];rfl
 ·rintro k (e | e | e | e)
  ·rw [e];exact key h.iV.aF dc dc
  ·rw [e];exact key h.iV.bP.aF dc dc
  ·exact uQ h.iV.bP.jA dc dc k e
  ·exact uQ h.iV.bP.fF dc dc k e
 ·have:=bQ og hrow (fun g hg' e=>by simp only [Value.ownBlock,jv] at hg';omega)
  simpa using this
 ·rcases gq.1 hx with y | y
  ·exact hdk (h.eM x y)
  ·rw [jw.1 y];exact hdk hm
 ·rcases gq.1 hx with y | y
  ·exact h.LM x y
  ·rw [jw.1 y];exact hmy
 ·rintro g (e | e | e)
  ·exact aA (h.iC g (aA e))
  ·simp only [Value.ownBlock,jv] at e;exact ay (aA e.symm)
  ·exact aA (h.iC g (ay (ay e)))
 ·rcases gq.1 hx with y | y
  ·exact ⟨aA (h.BO x y).1,fun g hg'=>aA ((h.BO x y).2 g hg')⟩
  ·rw [jw.1 y];exact ⟨ay (ay (aA rfl)),fun g hg'=>ay (ay (ay hg'))⟩
 ·rintro k (e | e | e | e)
  ·exact iZ (h.lt k e) hk6.size
  ·rw [e];exact iZ hlt og.size
  ·rw [e];exact iZ hm.lt hk6.size
  ·exact iZ (hm.row.lt k e).2 hk6.size
 ·exact hk6.mono fun k hk=>by
   rcases hk with x | x
   ·exact h.iC k (ay (aA x))
   ·rw [x];exact h.zQ
 ·rintro k (e | e | e | e)
  ·exact aA e
  ·rcases hat with x | x
   ·exact aA (by rw [e];exact h.iC g5 (ay (aA x)))
   ·exact ay om
  ·exact ay (by rw [e];exact hmn.1)
  ·exact ay (hmn.2 k e)
end
structure nZ where
 kind:Int
 n:Int
 name:ByteArray
 text:ByteArray
 raw:Value
 gone:Value
def dH (o:nZ):List Value:=[.int .i64 o.kind,.int .i64 o.n,.string o.name,.string o.text,o.raw,o.gone]
theorem LV (o:nZ):(dH o).length=6:=rfl
def zo:nZ:=⟨0,0,.empty,.empty,.slice none 0 0,.slice none 0 0⟩
def aii (a:Addr):Sem Value:=loadVar 80 a
theorem J7 (a:Addr):loadVar 80 a=aii a:=rfl
theorem KG {w:World} {b o:Nat} (h:dN w b o 6):(aii ⟨b,o,none⟩).run Tryz.prog w= .ok (.agg (dI w b o 6).toArray) w:=
 AX h 80 _ Tryz.underlying80 rfl kr
def akt (a:Addr) (v:Value):Sem Unit:=storeVar 80 a v
theorem atU (a:Addr) (v:Value):storeVar 80 a v=akt a v:=rfl
def alk:Sem Value:=zeroValue 80
theorem avn:zeroValue 80=alk:=rfl
theorem atc (w:World):alk.run Tryz.prog w= .ok (.agg (dH zo).toArray) w:=
 (uI (P:=Tryz.prog) (t:=80) (v:= .agg (dH zo).toArray) (n:=6) kr).1 w
structure nZ.Fits (o:nZ):Prop where
 raw:o.raw.oneCell'=true
 gone:o.gone.oneCell'=true
theorem aq7 {o:nZ} (h:o.Fits): ∀ v ∈ dH o,v.oneCell'=true:=by
 intro v hv;simp only [dH,dD,jM,jO] at hv;rcases hv with rfl | rfl | rfl | rfl | rfl | rfl
 ·rfl
 ·rfl
 ·rfl
 ·rfl
 ·exact h.raw
 ·exact h.gone
theorem as7 {w:World} {z x:nZ} (hx:x.Fits):
  (akt ⟨w.heap.size,0,none⟩ (.agg (dH x).toArray)).run Tryz.prog (w.alloc (.cells (dH z).toArray 80))= .ok () (w.alloc (.cells (dH x).toArray 80)):=
 FY w 80 (dH z).toArray (dH x).toArray (by simp only [iR,LV];kernel_rfl) (by simp [LV]) (vg (aq7 hx))
end
end Go.Proofs.YtknjjjenklfeoaaGreatDoor
