import Derived.Test.YtknjjjenklfeoaaGreatDoorO12
set_option maxHeartbeats 8000000
set_option maxRecDepth 100000
set_option linter.all false
namespace Go.Proofs.YtknjjjenklfeoaaGreatDoor
open Go.RowKit Go.Shelf
attribute [local go_sem ↓] dw fP fZ kS mP mV jJ kJ jY jU lD lH kQ ku kT mQ mW lZ ny jG qc qP qQ qF
attribute [local go_sem] dK fO fV gK gy aV kX mG mM mJ mF gI jK kH jX kZ kW iJ jW lq lC lu kF jc jd lY l7 kG kY mO nI lT mD nH qh qM qO qN qL
attribute [local go_sem] pW pV Oper.semAt_some
theorem aga {a b:List UInt8} (h:cv a=cv b):a=b:=by
 unfold cv at h;refine List.map_inj_right (fun x y hxy=> ?_) |>.1 h;injection hxy with _ h2;exact OW.1 om
theorem agI: ∀ {A B:List aj},(∀ c ∈ A,c.length=64)→(∀ c ∈ B,c.length=64)→aQ A=aQ B→A=B
 | [],[],_,_,_=>rfl
 | [],b :: r,_,hB,h=>by
  have h1:=hB b sm
  have:=FV List.length h
  simp [aQ,bg,h1] at this;omega
 | a :: r,[],hA,_,h=>by
  have h1:=hA a sm
  have:=FV List.length h
  simp [aQ,bg,h1] at this
 | a :: r,b :: q,hA,hB,h=>by
  have h1:=hA a sm;have h2:=hB b sm;simp only [aQ,qA] at h;have h3:=List.append_inj h (by rw [bg,bg,h1,h2]);rw [aga h3.1,agI (fun c hc=>hA c (by simp [hc])) (fun c hc=>hB c (by simp [hc])) h3.2]
theorem agN: ∀ {A B:List iU},(∀ c ∈ A,c.data.length=64)→(∀ c ∈ B,c.data.length=64)→iY A=iY B→A=B
 | [],[],_,_,_=>rfl
 | [],b :: r,_,_,h=>by
  have:=FV List.length h
  simp [iY,bM] at this
 | a :: r,[],_,_,h=>by
  have:=FV List.length h
  simp [iY,bM] at this
 | a :: r,b :: q,hA,hB,h=>by
  have h1:=hA a sm;have h2:=hB b sm;simp only [iY,qA] at h;have h3:=List.append_inj h (by rw [uF h1,uF h2]);have h4:=h3.1;simp only [bM,List.cons.injEq] at h4;have h5:a=b:=by
   obtain ⟨ac,ad⟩:=a;obtain ⟨bc,bd⟩:=b;have e1:=h4.1;injection e1 with _ e1;have e2:=aga h4.2;dsimp only at e1 e2;rw [e1,e2]
  rw [h5,agN (fun c hc=>hA c (by simp [hc])) (fun c hc=>hB c (by simp [hc])) h3.2]
theorem aj1 {w:World} {b1 b2:Nat} {e:TypeId} {size:Nat} {v:Value} {n1 n2:Nat} {xs ys:List Value} (h1:w.ownsRow b1 e size v n1 xs) (h2:w.ownsRow b2 e size v n2 ys):n1=n2∧xs=ys:=by
 obtain ⟨a1,c1,e1⟩:=iq h1;obtain ⟨a2,c2,e2⟩:=iq h2;rw [e1] at e2;injection e2 with e3 e4 e5;subst e4;refine ⟨rfl,?_⟩;rcases h1.2 with ⟨f1,f2⟩ | ⟨g,cap,cur,rfl,_,hh,_,_,_,ht⟩
 ·have:=h1.1;have h22:=h2.1
  rw [f2,yV] at this h22;rw [adR.1 this,adR.1 h22]
 ·rcases h2.2 with ⟨f1,f2⟩ | ⟨g',cap',cur',e',_,hh',_,_,_,ht'⟩
  ·cases f1
  ·injection e' with x1 _ _;injection x1 with x1;injection x1 with x1 _ _;subst x1;rw [hh] at hh';simp only [jv,Obj.cells.injEq] at hh';rw [← ht,← ht',hh'.1]
theorem aN.unique {w:World} {v:Nat} {C1 L1 C2 L2:Value} {V1 V2:aB} (h:aN w v C1 L1 V1) (k:aN w v C2 L2 V2):C1=C2∧L1=L2∧V1=V2:=by
 have hb:=h.aF;rw [k.aF] at hb;simp only [OB,jv,Obj.cells.injEq,Array.mk.injEq,List.cons.injEq,Value.bool.injEq,and_true] at hb;obtain ⟨e1,e2,e3⟩:=hb;subst e1;subst e2;have a1:=agI h.kE k.kE (aj1 h.jA k.jA).2;have a2:=agN h.zT k.zT (aj1 h.fF k.fF).2;obtain ⟨c,l,o,s⟩:=V1;obtain ⟨c',l',o',s'⟩:=V2;dsimp only at a1 a2 e3;obtain ⟨e3,e4⟩:=e3;subst a1;subst a2;subst e3;subst e4;exact ⟨rfl,rfl,rfl⟩
def aT (X Y:Nat→Prop) (v:Nat) (R:aB→aB→Prop) (A B:World):Prop:=
 A.heap.size≤B.heap.size∧(∀ k o,A.heap[k]? = some o→o.isCells=false→Y k→B.heap[k]? = some o)∧ ∀ C1 L1 V1,aN A v C1 L1 V1→ ∃ C2 L2 V2,aN B v C2 L2 V2∧R V1 V2∧
  (∀ k o,A.heap[k]? = some o→o.isCells=true→ ¬ X k→ ¬ eX v C1 L1 k→B.heap[k]? = some o)∧(∀ k,k<A.heap.size→eX v C2 L2 k→eX v C1 L1 k)
theorem aN.cells {w:World} {v:Nat} {C1 L1:Value} {V1:aB} (hV:aN w v C1 L1 V1) {k:Nat} (hf:eX v C1 L1 k): ∃ o,w.heap[k]? = some o∧o.isCells=true:=by
 rcases hf with rfl | e | e
 ·exact ⟨_,hV.aF,rfl⟩
 ·rcases hV.jA.2 with ⟨rfl,_⟩ | ⟨g',cap,cur,rfl,_,hh,_⟩
  ·cases e
  ·simp only [Value.ownBlock,jv] at e;subst e;exact ⟨_,hh,rfl⟩
 ·rcases hV.fF.2 with ⟨rfl,_⟩ | ⟨g',cap,cur,rfl,_,hh,_⟩
  ·cases e
  ·simp only [Value.ownBlock,jv] at e;subst e;exact ⟨_,hh,rfl⟩
theorem aN.Qp {w:World} {v:Nat} {C1 L1:Value} {V1:aB} (hV:aN w v C1 L1 V1) {k:Nat} {o:Obj} (ho:w.heap[k]? = some o) (hc:o.isCells=false): ¬ eX v C1 L1 k:=by
 intro hf;obtain ⟨q,hq,hqc⟩:=hV.cells hf;rw [ho] at hq;injection hq with hq;subst hq;rw [hc] at hqc;cases hqc
section
variable {X Y:Nat→Prop} {v:Nat} {R:aB→aB→Prop}
theorem aT.trans (hR: ∀ a b c,R a b→R b c→R a c) {A B C:World} (h:aT X Y v R A B) (k:aT X Y v R B C):aT X Y v R A C:=by
 refine ⟨jZ h.1 k.1,fun i o hi hc hy=>k.2.1 i o (h.2.1 i o hi hc hy) hc hy,fun C1 L1 V1 hV=> ?_⟩;obtain ⟨C2,L2,V2,hV2,r2,o2,f2⟩:=h.2.2 C1 L1 V1 hV;obtain ⟨C3,L3,V3,hV3,r3,o3,f3⟩:=k.2.2 C2 L2 V2 hV2;exact ⟨C3,L3,V3,hV3,hR _ _ _ r2 r3,fun i o hi hc hx hf=>o3 i o (o2 i o hi hc hx hf) hc hx (fun hf2=>hf (f2 i (aO hi) hf2)),fun i hi hf=>f2 i hi (f3 i (iZ hi h.1) hf)⟩
theorem aT.turn (hR: ∀ a,R a a) (W:World) (l:Nat) (o o':Obj) (hl:W.heap[l]? = some o) (ho:o.isCells=false) (hy: ¬ Y l):aT X Y v R W (W.putObj l o'):=by
 have hg:=grownBy_putObj' W l o';have hk:Kept (fun k=>k=l) W (W.putObj l o'):=⟨hg.os,hg.tape,hg.output,hg.size,fun k hk hs=>hg.block k hk (fun e=>hs (by injection e))⟩;refine ⟨hk.size,fun k q hq _ hyk=>hk.aF (by rintro rfl;exact hy hyk) hq,fun C1 L1 V1 hV=> ?_⟩;have hn: ∀ k q,W.heap[k]? = some q→q.isCells=true→ ¬ (k=l):=by
  rintro k q hq hc rfl;rw [hl] at hq;injection hq with hq;subst hq;rw [ho] at hc;cases hc
 have hf: ∀ k,eX v C1 L1 k→ ¬ (k=l):=by
  intro k hf;obtain ⟨q,hq,hqc⟩:=hV.cells hf;exact hn k q hq hqc
 exact ⟨C1,L1,V1,hV.kept hk hf,hR _,fun k q hq hc _ _=>hk.aF (hn k q hq hc) hq,fun _ _ hf=>hf⟩
theorem aT.of {A B:World} {C1 L1 C2 L2:Value} {V1 V2:aB} (h:aN A v C1 L1 V1) (hB:aN B v C2 L2 V2) (hs:A.heap.size≤B.heap.size) (r:R V1 V2)
  (y: ∀ k o,A.heap[k]? = some o→o.isCells=false→Y k→B.heap[k]? = some o)
  (o: ∀ k o,A.heap[k]? = some o→o.isCells=true→ ¬ X k→ ¬ eX v C1 L1 k→B.heap[k]? = some o) (f: ∀ k,k<A.heap.size→eX v C2 L2 k→eX v C1 L1 k):aT X Y v R A B:=by
 refine ⟨hs,y,fun C1' L1' V1' hV=> ?_⟩;obtain ⟨rfl,rfl,rfl⟩:=h.unique hV;exact ⟨C2,L2,V2,hB,r,o,f⟩
theorem aT.step {A B:World} {C1 L1 C2 L2:Value} {V1 V2:aB} (h:aN A v C1 L1 V1) (hs:bZ A B v C1 L1 C2 L2 V2) (r:R V1 V2):aT X Y v R A B:=
 aT.of h hs.at' hs.kept.size r (fun _ _ ho hc _=>hs.kept.aF (h.Qp ho hc) ho) (fun _ _ ho _ _ hf=>hs.kept.aF hf ho) (fun k hk hf=>(hs.new k hf).elim id om)
theorem aT.own {A B:World} {C1 L1:Value} {V1:aB} (h:aN A v C1 L1 V1) {S:Nat→Prop} (hk:Kept S A B) (hS: ∀ k,S k→X k∧ ¬ eX v C1 L1 k∧ ∃ o,A.heap[k]? = some o∧o.isCells=true) (r:R V1 V1):aT X Y v R A B:=
 aT.of h (h.kept hk (fun k hf hs=>(hS k hs).2.1 hf)) hk.size r (fun k o ho hc _=>hk.aF (fun hs=>by
  obtain ⟨q,hq,hqc⟩:=(hS k hs).2.2;rw [ho] at hq;injection hq with hq;subst hq;rw [hc] at hqc;cases hqc) ho) (fun k _ ho _ hx _=>hk.aF (fun hs=>hx (hS k hs).1) ho) (fun _ _ hf=>hf)
theorem aT.below (hR: ∀ a,R a a) {A B:World} (h:aC A B):aT X Y v R A B:=
 ⟨h.size,fun k _ ho _ _=>(h.block k (aO ho)).trans ho,fun C1 L1 V1 hV=>⟨C1,L1,V1,hV.below h,hR _,fun k _ ho _ _ _=>(h.block k (aO ho)).trans ho,fun _ _ hf=>hf⟩⟩
theorem aT.OC {Y':Nat→Prop} {A B:World} (h:aT X Y v R A B) (hy: ∀ k,Y' k→Y k):aT X Y' v R A B:=⟨h.1,fun k o ho hc hy'=>h.2.1 k o ho hc (hy k hy'),h.2.2⟩
structure KU (X:Nat→Prop) (v b:Nat) (o:Obj) (P:aB→Prop) (W:World):Prop where
 bP: ∃ C1 L1 V1,aN W v C1 L1 V1∧P V1∧ ¬ eX v C1 L1 b
 box:W.heap[b]? = some o
 cells:o.isCells=true
 free: ¬ X b
theorem KU.wU {b:Nat} {o:Obj} {P:aB→Prop} (hP: ∀ a b,P a→R a b→P b) {A B:World} (h:KU X v b o P A) (k:aT X Y v R A B):KU X v b o P B:=by
 obtain ⟨C1,L1,V1,hV,hp,hf⟩:=h.bP;obtain ⟨C2,L2,V2,hV2,r,o2,f2⟩:=k.2.2 C1 L1 V1 hV;exact ⟨⟨C2,L2,V2,hV2,hP _ _ hp r,fun hf2=>hf (f2 b (aO h.box) hf2)⟩,o2 b o h.box h.cells h.free hf,h.cells,h.free⟩
theorem KU.below {b:Nat} {o:Obj} {P:aB→Prop} {A B:World} (h:KU X v b o P A) (k:aC A B):KU X v b o P B:=by
 obtain ⟨C1,L1,V1,hV,hp,hf⟩:=h.bP;exact ⟨⟨C1,L1,V1,hV.below k,hp,hf⟩,(k.block b (aO h.box)).trans h.box,h.cells,h.free⟩
end
theorem Qw (w:World) (v table:Nat):Calls Tryz.prog 172 #[.pointer (some ⟨v,0,none⟩),.int .i64 (table:Nat)] w fun e w'=>
  e= .returned (.func (.func 182) #[] #[.pointer (some ⟨w.heap.size,0,none⟩),.pointer (some ⟨w.heap.size+1,0,none⟩)])∧w'=(w.alloc (.cells #[.pointer (some ⟨v,0,none⟩)] 82)).alloc (.cells #[.int .i64 (table:Nat)] 3):=by
 go_enter Tryz.func172,Tryz.ntmps172
 go_wp2;go_ret;exact ⟨rfl,rfl⟩
theorem aua (w:World) (v table:Nat):Calls Tryz.prog 171 #[.pointer (some ⟨v,0,none⟩),.int .i64 (table:Nat)] w fun e w'=>
  e= .returned (.func (.func 181) #[] #[.pointer (some ⟨w.heap.size+1,0,none⟩),.pointer (some ⟨w.heap.size,0,none⟩)])∧w'=(w.alloc (.cells #[.pointer (some ⟨v,0,none⟩)] 82)).alloc (.cells #[.int .i64 (table:Nat)] 3):=by
 go_enter Tryz.func171,Tryz.ntmps171
 go_wp2;go_ret;exact ⟨rfl,rfl⟩
theorem SN (w:World) (v:Nat):Calls Tryz.prog 150 #[.pointer (some ⟨v,0,none⟩)] w fun e w'=>
  e= .returned (.func (.func 173) #[] #[.pointer (some ⟨w.heap.size,0,none⟩)])∧w'=w.alloc (.cells #[.pointer (some ⟨v,0,none⟩)] 82):=by
 go_enter Tryz.func150,Tryz.ntmps150
 go_wp2;go_ret;exact ⟨rfl,rfl⟩
theorem afQ (w:World) (a:Option Addr) (n cap:Nat):Calls Tryz.prog 165 #[.slice a n cap] w fun e w'=>
  e= .returned (.func (.func 179) #[] #[.pointer (some ⟨w.heap.size,0,none⟩)])∧w'=w.alloc (.cells #[.slice a n cap] 260):=by
 go_enter Tryz.func165,Tryz.ntmps165
 go_wp2;go_ret;exact ⟨rfl,rfl⟩
def Ai (Pc:Nat→Prop) (C:List aj) (t:Nat):Prop:= ∀ i,DU Pc ((numsOf (cl C t)).getD i 0)
def uY {Pc:Nat→Prop} (V:aB) (t:Nat) (hT:Ai Pc V.C t):List (mY Pc):=sJ t (numsOf (cl V.C t)) hT 32 (aP _)
theorem YZ {F:Fence} {m:Nat} {P:Program} {l:Nat} {args:Array Value} {W:World} {R R':Ending→World→Prop} (h:YieldAt F m P l args W R) (hr: ∀ e w,R e w→R' e w):YieldAt F m P l args W R':=by
 obtain ⟨fn,tmps,assign,body,hy,hR⟩:=h;exact ⟨fn,tmps,assign,body,hy,hR.mono hr⟩
theorem Qx {Pc:Nat→Prop} (n:Nat) (hn:3≤n) (X Y:Nat→Prop) (R:aB→aB→Prop) (v bv bt table:Nat) (V:aB) (Cv Lv:Value) (w:World) (hV:aN w v Cv Lv V)
  (hbv:w.heap[bv]? = some (.cells #[.pointer (some ⟨v,0,none⟩)] 82 (0,0))) (hbt:w.heap[bt]? = some (.cells #[.int .i64 (table:Nat)] 3 (0,0))) (hX: ¬ X bt) (hf: ¬ eX v Cv Lv bt) (ht:table<V.C.length)
  (hT:Ai Pc V.C table):
  SeqStopsK Fence.wide n Tryz.prog 182 #[.pointer (some ⟨bv,0,none⟩),.pointer (some ⟨bt,0,none⟩)] (fun s:mY Pc=> #[oh s]) (aT X Y v R) (fun ys=>ys=uY V table hT) (fun pre=>pre <+: uY V table hT) 32 w:=
 fun l J Jx W hW hJ _ hY h0=>
  aqV n hn l bv bt v table V J Jx (KU X v bt (.cells #[.int .i64 (table:Nat)] 3 (0,0)) (fun _=>True)) hT
   (fun pre x W1 hJ1 hl=>YZ (hY pre x W1 hJ1 hl) (by
    rintro e W' (⟨a,b,c⟩ | h)
    ·exact aA ⟨a,b,fun hp=>hp.wU (fun _ _ _ _=>trivial) c⟩
    ·exact ay h))
   (fun W1 hp=>(aG hp.box 0).trans rfl) (fun _ _ hp hb=>hp.below hb) W hJ
   ⟨⟨Cv,Lv,V,hV.below hW,trivial,hf⟩,(hW.block bt (aO hbt)).trans hbt,rfl,hX⟩ ((aG ((hW.block bv (aO hbv)).trans hbv) 0).trans rfl) Cv Lv (hV.below hW) ht h0
abbrev U256:={ n:Nat // n<256 }
def dL (ns:List Nat):List Nat:=(ns.filter (· != 0)).map (· % 32768)
theorem anL (n:Nat) (hn:3≤n) (l bx bs cap:Nat) (ns:List Nat) (hns: ∀ m ∈ ns,m<65536∧m%32768<256) (hl:ns.length≤100) (J Jx:List U256→World→Prop) (P:World→Prop)
  (hY: ∀ pre x W,J pre W→pre.length<ns.length→YieldAt Fence.wide (n - 1) Tryz.prog l #[.int .i64 ((x.1:Nat):Int)] W fun e W'=>
   (e= .returned (.bool true)∧J (pre++[x]) W'∧(P W→P W'))∨(e= .returned (.bool false)∧Jx (pre++[x]) W'))
  (WH: ∀ W,P W→W.heap[bs]? = some (.cells (tv ns).toArray 167 (0,0)))
  (W:World) (hP:P W) (hbx:W.cell? ⟨bx,0,none⟩=some (.slice (some ⟨bs,0,none⟩) ns.length cap)) (h0:J [] W):
  CallsIn Fence.wide n Tryz.prog 179 #[.func (.yield l) #[] #[],.pointer (some ⟨bx,0,none⟩)] W fun e W'=>(∃ v,e= .returned v)∧
   ((∃ ys:List U256,ys.map (·.1)=dL ns∧J ys W')∨(∃ pre:List U256,Jx pre W')):=by
 refine Zf Tryz.func179 rfl trivial ?_ rfl;simp only [Tryz.ntmps179,iR,iQ,vk,Nat.reduceAdd,Nat.reduceSub,A8,Ba,Bc,Bd,ql,sO]
 gi_wp2
 gi_loopw [4,7] (fun _ i wr=> ∃ (k:Nat) (ys:List U256),k≤ns.length∧i= .int .i64 k∧P wr∧ys.map (·.1)=dL (ns.take k)∧ys.length≤k∧J ys wr) (fun _ i _=>ns.length - (intOf i).toNat)
 case atStart=>exact ⟨0,[],om,rfl,hP,rfl,sm,h0⟩
 case round=>
  obtain ⟨k,ys,hk,rfl,Ee,hys,hyl,BK⟩:=hrel;have hb:=WH wr Ee
  by_cases hlt:k<ns.length
  ·have hki:(k:Int)<(ns.length:Int):=om;have hm:=hns _ (oP hlt);have c1:wr.cell? ⟨bs,k,none⟩=some (.int .u16 ((ns[k]:Nat):Int)):=by
    rw [aG hb,bW,Oy _ _ hlt,aK,bI hlt];rfl
   have htk:dL (ns.take (k+1))=dL (ns.take k)++(if ns[k]=0 then [] else [ns[k]%32768]):=by
    rw [yU hlt,dL,OO,rE];unfold dL
    congr 1
    by_cases h:ns[k]=0
    ·simp [h]
    ·simp [h]
   generalize ns[k]=nn at*
   by_cases h0:nn=0
   ·rw [au h0,rU] at htk;have Ht:=ah htk;subst h0;clear htk
    gi_wp2
    refine ⟨trivial,?_⟩
    gi_wp2
    refine ⟨fun _ h=>(by cases h),?_⟩
    gi_wp2
    go_roundw
    case rel=>exact ⟨k+1,ys,om,gn,Ee,by rw [uh Ht];exact hys,om,BK⟩
    case measure=>exact cO
   ·rw [ak h0] at htk;have Ht:=ah htk;clear htk;have d0:(((nn:Nat):Int) != 0)=true:=by rw [nR];omega
    have Hc:=ah (BH nn hm.1 wr);have hm1:=hm.1;have hm2:=hm.2;clear hm;generalize nn%32768=cc at*;obtain ⟨fn,tmps,assign,body,hy,hR⟩:=hY ys ⟨cc,hm2⟩ wr BK om
    gi_wp2
    refine ⟨trivial,fun _=>om,(eY.2 Hc).mono ?_⟩;rintro e w1 ⟨rfl,rfl⟩
    gi_wp2
    refine ⟨fun _=>om,hR.mono ?_⟩;rintro e W3 (⟨rfl,hJ3,hP3⟩ | ⟨rfl,hJx3⟩)
    ·have HP3:=ah (hP3 Ee);clear hP3 c1 Ee hb
     gi_wp2
     go_roundw
     case rel=>exact ⟨k+1,ys++[⟨cc,hm2⟩],om,gn,uh HP3,by rw [uh Ht,rE,hys];rfl,by simp;omega,hJ3⟩
     case measure=>exact cO
    ·gi_wp2
     refine gV (CJ rfl _ _ _) rfl ?_;exact ⟨⟨_,rfl⟩,.inr ⟨_,hJx3⟩⟩
  ·have hk32:k=ns.length:=om;subst hk32;rw [Ij] at hys
   gi_wp2
   go_end0
   exact ⟨⟨_,rfl⟩,.inl ⟨ys,hys,BK⟩⟩
theorem anM (n:Nat) (hn:3≤n) (X Y:Nat→Prop) (R:aB→aB→Prop) (v bx bs cap:Nat) (ns:List Nat) (hns: ∀ m ∈ ns,m<65536∧m%32768<256) (hl:ns.length≤100) (V:aB) (Cv Lv:Value) (w:World) (hV:aN w v Cv Lv V)
  (hbx:w.heap[bx]? = some (.cells #[.slice (some ⟨bs,0,none⟩) ns.length cap] 260 (0,0))) (hbs:w.heap[bs]? = some (.cells (tv ns).toArray 167 (0,0))) (hX: ¬ X bs) (hf: ¬ eX v Cv Lv bs):
  SeqStopsK Fence.wide n Tryz.prog 179 #[.pointer (some ⟨bx,0,none⟩)] (fun x:U256=> #[Value.int .i64 ((x.1:Nat):Int)]) (aT X Y v R) (fun ys=>ys.map (·.1)=dL ns) (fun _=>True) ns.length w:=
 fun l J Jx W hW _ _ hY h0=>
  (anL n hn l bx bs cap ns hns hl J Jx (KU X v bs (.cells (tv ns).toArray 167 (0,0)) (fun _=>True))
   (fun pre x W1 hJ1 hl=>YZ (hY pre x W1 hJ1 hl) (by
    rintro e W' (⟨a,b,c⟩ | h)
    ·exact aA ⟨a,b,fun hp=>hp.wU (fun _ _ _ _=>trivial) c⟩
    ·exact ay h))
   (fun W1 hp=>hp.box) W
   ⟨⟨Cv,Lv,V,hV.below hW,trivial,hf⟩,(hW.block bs (aO hbs)).trans hbs,rfl,hX⟩ ((aG ((hW.block bx (aO hbx)).trans hbx) 0).trans rfl) h0).mono (by
   rintro e W' ⟨h1,h2 | ⟨pre,h3⟩⟩
   ·exact ⟨h1,aA h2⟩
   ·exact ⟨h1,ay ⟨pre,trivial,h3⟩⟩)
def Lh {α:Type} (n gf:Nat) (lb:Array Value) (encs:α→Array Value) (Kp:World→World→Prop) (S:List α→Prop) (N B:Nat) (w:World):Prop:=
 ∀ (l:Nat) (J:List α→World→Prop) (W:World),aC w W→B≤W.heap.size→OwnFrom W.heap.size J→
  (∀ pre x W1,J pre W1→pre.length<N→YieldAt Fence.wide (n - 1) Tryz.prog l (encs x) W1 fun e W'=>e= .returned (.bool true)∧J (pre++[x]) W'∧Kp W1 W')→
  J [] W→CallsIn Fence.wide n Tryz.prog gf (#[.func (.yield l) #[] #[]]++lb) W fun e W'=>(∃ v,e= .returned v)∧ ∃ xs,S xs∧J xs W'
theorem XJ {β:Type} {B C:Nat} {I:β→World→Prop} (h:OwnFrom B I) (hc:B≤C):OwnFrom C I:=fun s W W' row hs hg hr=>h s W W' row hs hg (fun r e=>⟨jZ hc (hr r e).1,(hr r e).2⟩)
theorem rX {W W':World} {row:Option Nat} {B k:Nat} {o:Obj} (hg:W.grownBy W' row) (hr: ∀ r,row=some r→B≤r∧ ∃ o:Obj,W.heap[r]? = some o∧o.isCells=false) (hk:W.heap[k]? = some o) (hlt:k<B):W'.heap[k]? = some o:=by
 rw [hg.block k (aO hk) (fun e=>by have:=(hr k e.symm).1;omega)];exact hk
section
variable {α:Type} {g:Operand} {ps:Array Tmp} {assign body:Code} {Q:Exit→Act→World→Prop} {a:Act} {w:World} {n:Nat}
def Dw (fn:FuncId) (a:Act) (ps:Array Tmp) (assign body:Code) (d:Nat) (st:LoopState):Loop:={ state:=st,pending:=none,fn:=fn,tmps:=a.tmps,params:=ps,assign:=assign,body:=body,defers:=d }
structure Ag (fn:FuncId) (a:Act) (ps:Array Tmp) (assign body:Code) (d:Nat) (st:LoopState) (W:World):Prop where
 pJ:W.heap[d+1]? = some (.loop (Dw fn a ps assign body d st))
 IC:W.heap[d]? = some (.deferred (some []))
theorem Ag.wU {fn:FuncId} {d:Nat} {st:LoopState} {W W':World} (h:Ag fn a ps assign body d st W) (hk:KeepsFrom d W W'):Ag fn a ps assign body d st W':=
 ⟨hk.same _ _ om h.pJ rfl,hk.same _ _ (aP _) h.IC rfl⟩
theorem Ag.turn {fn:FuncId} {d:Nat} {st st':LoopState} {W:World} (h:Ag fn a ps assign body d st W):Ag fn a ps assign body d st' (W.putObj (d+1) (.loop (Dw fn a ps assign body d st'))):=
 ⟨World.putObj_heap_same (aO h.pJ),(World.putObj_heap_other om).trans h.IC⟩
theorem QF (h1:1≤n) {gf:Nat} {lb:Array Value} (hg:a.eval g= .func (.func gf) #[] lb) (eg: ∀ args w,(callFunc gf args).run Tryz.prog w= .ok (.enter gf args) w)
  {encs:α→Array Value} {Kp:World→World→Prop} {S:List α→Prop} {N:Nat} {w0:World} (hseq:Lh (n - 1) gf lb encs Kp S N (w.heap.size+2) w0)
  (hKt: ∀ A B C:World,Kp A B→Kp B C→Kp A C) (hKb: ∀ (W:World) (o o':Obj),W.heap[w.heap.size+1]? = some o→o.isCells=false→Kp W (W.putObj (w.heap.size+1) o')) (hb0:aC w0 w) (hps: ∀ x,(encs x).size=ps.size)
  (I:List α→World→Prop) (hI:OwnFrom w.heap.size I) (h0:I [] w) (Ax:α→Act→World→Prop) (hAx: ∀ x a',OwnFrom w.heap.size (fun (_:Unit) W=>Ax x a' W))
  (hassign: ∀ (l:Nat) (pre:List α) (x:α) (W:World) (K:Act→World→Prop),I pre W→(∀ a' W',KeepsFrom w.heap.size W W'→Kp W W'→I pre W'→Ax x a' W'→K a' W')→
   assign.wpIn (Fence.wide.inRound l) (n - 1 - 1) Tryz.prog (Exit.then K (fun _ _ _=>False)) { tmps:=(ps.zip (encs x)).foldl (fun t (p,v)=>t.setIfInBounds p v) a.tmps,defers:=[] } W)
  (hbody: ∀ (l:Nat) (pre:List α) (x:α) (a':Act) (W:World),w.heap.size≤l→(∃ r,W.heap[l]? = some (.loop r))→I pre W→Ax x a' W→pre.length<N→body.wpIn (Fence.wide.inRound l) (n - 1 - 1) Tryz.prog (fun e _ W'=>e= .normal∧KeepsFrom w.heap.size W W'∧Kp W W'∧I (pre++[x]) W') a' W)
  (hdone: ∀ (D:Nat) (xs:List α) (W:World),w.heap.size≤D→S xs→I xs W→W.heap[D]? = some (.deferred (some []))→Q .normal { a with defers:={ target:= .collected D,args:= #[] } :: a.defers } W):
  (Code.rangeFunc g ps assign body).wpIn Fence.wide n Tryz.prog Q a w:=by
 refine wpIn_rangeFunc fun fn hfn=> ?_
 let d:=w.heap.size
 let W1:=(w.alloc (.deferred (some []))).alloc (.loop (Dw fn a ps assign body d .ready))
 have hB1:Ag fn a ps assign body d .ready W1:=
  ⟨by have:=aW (w.alloc (.deferred (some []))) (.loop (Dw fn a ps assign body d .ready));rwa [jB] at this,(jE _ _ _ (by simp [d])).trans (aW w _)⟩
 have hI1:I [] W1:=hI.alloc _ (hI.alloc _ h0);have hsz:W1.heap.size=d+2:=by simp [W1,d]
 have hw1:aC w0 W1:=hb0.trans ((((bG _ w).alloc (aP _) _).alloc sm _).mono hb0.size);refine ⟨d+1,[{ target:= .collected d,args:= #[] }],W1,{ target:= .fn (.func gf) lb,args:= #[.func (.yield (d+1)) #[] #[]] },W1,gf,#[.func (.yield (d+1)) #[] #[]]++lb,W1,
  run_enterLoop_outer _ _ _ _ _,?_,fun _ _=>trivial,?_,fun _=>h1,?_⟩
 ·simp only [resolve,hg];simp [go_sem]
 ·simp [invoke,go_sem,eg]
 have hJ:OwnFrom W1.heap.size (fun (pre:List α) W=>I pre W∧Ag fn a ps assign body d .ready W):=fun s A B row hs hg' hr=>
  ⟨hI s A B row hs.1 hg' (fun r e=>⟨by have:=(hr r e).1;omega,(hr r e).2⟩),rX hg' hr hs.2.pJ om,rX hg' hr hs.2.IC om⟩
 refine (hseq (d+1) (fun pre W=>I pre W∧Ag fn a ps assign body d .ready W) W1 hw1 om hJ ?_ ⟨hI1,hB1⟩).mono ?_
 ·rintro pre x W ⟨hi,hb⟩ hlen;refine ⟨fn,_,assign,body,run_yield hb.pJ (hps x),roundIn_of_wpIn hfn (hassign (d+1) pre x W _ hi fun a' Wa Fq hkp hia hax=> ?_)⟩;have hba:=hb.wU Fq;refine ⟨_,run_beginRound hba.pJ rfl,?_⟩;have hbb:Ag fn a ps assign body d .busy (Wa.putObj (d+1) (.loop (Dw fn a ps assign body d .busy))):=hba.turn;have hkb:Kp Wa (Wa.putObj (d+1) (.loop (Dw fn a ps assign body d .busy))):=hKb _ _ _ hba.pJ rfl;refine UW (hbody (d+1) pre x a' _ om ⟨_,hbb.pJ⟩ (hI.putObj _ hia om hba.pJ rfl) ((hAx x a').putObj (s:=()) _ hax om hba.pJ rfl) hlen) ?_;rintro e a3 W3 ⟨rfl,BM,hkp3,hi3⟩;have hb3:=hbb.wU BM;have hb4:Ag fn a ps assign body d .ready (W3.putObj (d+1) (.loop (Dw fn a ps assign body d .ready))):=hb3.turn;exact ⟨_,_,run_endRound none hb3.pJ,rfl,⟨hI.putObj _ hi3 om hb3.pJ rfl,hb4⟩,hKt _ _ _ hkp (hKt _ _ _ hkb (hKt _ _ _ hkp3 (hKb _ _ _ hb3.pJ rfl)))⟩
 ·rintro e W2 ⟨⟨v,rfl⟩,xs,hS,hi,hb⟩;exact ⟨none,_,run_endLoop hb.pJ (by simp [Dw]),hdone d xs _ (aP _) hS (hI.putObj _ hi om hb.pJ rfl) ((World.putObj_heap_other om).trans hb.IC)⟩
end
structure bH (V1 V2:aB):Prop where
 len:V2.C.length=V1.C.length
 low: ∀ t,t<6→cl V2.C t=cl V1.C t
 zero: ∀ t i,i<32→(num (cl V2.C t) (2*i)=0↔num (cl V1.C t) (2*i)=0)
 same: ∀ t i,i<32→num (cl V2.C t) (2*i)%32768=num (cl V1.C t) (2*i)%32768
theorem bH.refl (V:aB):bH V V:=⟨rfl,fun _ _=>rfl,fun _ _ _=>Iff.rfl,fun _ _ _=>rfl⟩
theorem bH.trans {A B C:aB} (h:bH A B) (k:bH B C):bH A C:=
 ⟨k.len.trans h.len,fun t ht=>(k.low t ht).trans (h.low t ht),fun t i hi=>(k.zero t i hi).trans (h.zero t i hi),fun t i hi=>(k.same t i hi).trans (h.same t i hi)⟩
theorem akF (n:Nat) (ns:List Nat):dL (n :: ns)=(if n=0 then [] else [n%32768])++dL ns:=by
 unfold dL
 by_cases h:n=0
 ·simp [h]
 ·simp [h]
theorem akE: ∀ {A B:List Nat},A.length=B.length→(∀ i,i<A.length→(A.getD i 0=0↔B.getD i 0=0)∧A.getD i 0%32768=B.getD i 0%32768)→dL A=dL B
 | [],[],_,_=>rfl
 | [],_ :: _,h,_=>by simp at h
 | _ :: _,[],h,_=>by simp at h
 | a :: r,b :: q,h,hs=>by
  rw [akF,akF];have h1:=hs 0 sm;simp only [DF] at h1;have h2:=akE (A:=r) (B:=q) (by simpa using h) (fun i hi=>by have:=hs (i+1) (by simp;omega);simpa using this);rw [h2]
  congr 1
  by_cases h0:a=0
  ·rw [au h0,au (h1.1.1 h0)]
  ·rw [ak h0,ak (fun e=>h0 (h1.1.2 e)),h1.2]
theorem bH.told {A B:aB} (h:bH A B) (t:Nat):dL (numsOf (cl B.C t))=dL (numsOf (cl A.C t)):=by
 refine akE (by rw [numsOf_length,numsOf_length]) (fun i hi=> ?_);rw [numsOf_length] at hi;rw [uT _ _ hi,uT _ _ hi];exact ⟨h.zero t i hi,h.same t i hi⟩
theorem bH.ok {A B:aB} (h:bH A B) {Pc:Nat→Prop} {t:Nat} (hT:Ai Pc A.C t):Ai Pc B.C t:=by
 intro i
 by_cases hi:i<32
 ·have h1:=(hT i).2;rw [uT _ _ hi] at h1 ⊢;exact ⟨iD _ _,fun h0=>by rw [h.same t i hi];exact h1 (fun e=>h0 ((h.zero t i hi).2 e))⟩
 ·rw [aK,eu (by rw [numsOf_length];omega)];exact ⟨dc,fun e=>absurd rfl e⟩
theorem ac8 {Pc:Nat→Prop} (t:Nat) (T:List Nat) (hT: ∀ i,DU Pc (T.getD i 0)) (hl:T.length=32): ∀ k hk,(sJ t T hT k hk).map (fun s=>s.number%32768)=dL (T.take k)
 | 0,_=>rfl
 | k+1,hk=>by
  have ih:=ac8 t T hT hl k om;have hlt:k<T.length:=om;have hg:T.getD k 0=T[k]:=by rw [aK,bI hlt];rfl
  have ht:dL (T.take (k+1))=dL (T.take k)++(if T.getD k 0=0 then [] else [T.getD k 0%32768]):=by
   rw [yU hlt,hg];unfold dL;rw [OO,rE]
   congr 1
   by_cases h:T[k]=0
   ·simp [h]
   ·simp [h]
  rw [ht]
  by_cases h0:T.getD k 0=0
  ·rw [UD t T hT k hk h0,ih,au h0,rU]
  ·rw [UC t T hT k hk h0,rE,ih,ak h0];rfl
def sN (V:aB) (first:Nat):List Nat:=first :: dL (numsOf (cl V.C first))
structure lJ (X:Nat→Prop) (v:Nat) (bs:List (Nat × Obj)) (P:aB→Prop) (W:World):Prop where
 bP: ∃ C1 L1 V1,aN W v C1 L1 V1∧P V1∧ ∀ x ∈ bs,¬ eX v C1 L1 x.1
 box: ∀ x ∈ bs,W.heap[x.1]? = some x.2
 cells: ∀ x ∈ bs,x.2.isCells=true
 free: ∀ x ∈ bs,¬ X x.1
section
variable {X Y:Nat→Prop} {v:Nat} {R:aB→aB→Prop} {bs:List (Nat × Obj)} {P:aB→Prop}
theorem lJ.wU (hP: ∀ a b,P a→R a b→P b) {A B:World} (h:lJ X v bs P A) (k:aT X Y v R A B):lJ X v bs P B:=by
 obtain ⟨C1,L1,V1,hV,hp,hf⟩:=h.bP;obtain ⟨C2,L2,V2,hV2,r,o2,f2⟩:=k.2.2 C1 L1 V1 hV;exact ⟨⟨C2,L2,V2,hV2,hP _ _ hp r,fun x hx hf2=>hf x hx (f2 x.1 (aO (h.box x hx)) hf2)⟩,fun x hx=>o2 x.1 x.2 (h.box x hx) (h.cells x hx) (h.free x hx) (hf x hx),h.cells,h.free⟩
theorem lJ.below {A B:World} (h:lJ X v bs P A) (k:aC A B):lJ X v bs P B:=by
 obtain ⟨C1,L1,V1,hV,hp,hf⟩:=h.bP;exact ⟨⟨C1,L1,V1,hV.below k,hp,hf⟩,fun x hx=>(k.block x.1 (aO (h.box x hx))).trans (h.box x hx),h.cells,h.free⟩
theorem lJ.lay {A:World} (h:lJ X v bs P A) (o:Obj) (ho:o.isCells=true) (hx: ¬ X A.heap.size):lJ X v ((A.heap.size,o) :: bs) P (A.alloc o):=by
 have h2:=h.below ((bG _ A).alloc (aP _) o);obtain ⟨C1,L1,V1,hV,hp,hf⟩:=h.bP;refine ⟨⟨C1,L1,V1,hV.alloc o,hp,fun x hx=> ?_⟩,fun x hx=> ?_,fun x hx=> ?_,fun x hx=> ?_⟩
 ·rcases dD.1 hx with rfl | hx
  ·intro hf';have:=hV.qG _ hf';simp at this
  ·exact hf x hx
 ·rcases dD.1 hx with rfl | hx
  ·exact aW A o
  ·exact h2.box x hx
 ·rcases dD.1 hx with rfl | hx
  ·exact ho
  ·exact h.cells x hx
 ·rcases dD.1 hx with rfl | hx
  ·assumption
  ·exact h.free x hx
theorem lJ.sub {cs:List (Nat × Obj)} {W:World} (h:lJ X v bs P W) (hs: ∀ x ∈ cs,x ∈ bs):lJ X v cs P W:=by
 obtain ⟨C1,L1,V1,hV,hp,hf⟩:=h.bP;exact ⟨⟨C1,L1,V1,hV,hp,fun x hx=>hf x (hs x hx)⟩,fun x hx=>h.box x (hs x hx),fun x hx=>h.cells x (hs x hx),fun x hx=>h.free x (hs x hx)⟩
theorem lJ.b0 {W:World} {b:Nat} {o:Obj} (h:lJ X v ((b,o) :: bs) P W):W.heap[b]? = some o:=h.box (b,o) sm
theorem lJ.b1 {W:World} {a b:Nat} {p o:Obj} (h:lJ X v ((a,p) :: (b,o) :: bs) P W):W.heap[b]? = some o:=h.box (b,o) sm
theorem lJ.b2 {W:World} {a b c:Nat} {p q o:Obj} (h:lJ X v ((a,p) :: (c,q) :: (b,o) :: bs) P W):W.heap[b]? = some o:=h.box (b,o) sm
theorem lJ.pO {W W':World} {row:Option Nat} (h:lJ X v bs P W) (hg:W.grownBy W' row) (hr: ∀ r,row=some r→ ∃ o:Obj,W.heap[r]? = some o∧o.isCells=false):lJ X v bs P W':=by
 obtain ⟨C1,L1,V1,hV,hp,hf⟩:=h.bP;have hk:Kept (fun k=>row=some k) W W':=⟨hg.os,hg.tape,hg.output,hg.size,fun k hk hs=>hg.block k hk (fun e=>hs e.symm)⟩;have hn: ∀ k q,W.heap[k]? = some q→q.isCells=true→ ¬ (row=some k):=by
  intro k q hq hc e;obtain ⟨q',hq',hc'⟩:=hr k e;rw [hq] at hq';injection hq' with hq';subst hq';rw [hc] at hc';cases hc'
 refine ⟨⟨C1,L1,V1,hV.kept hk (fun k hf'=> ?_),hp,hf⟩,fun x hx=>hk.aF (hn _ _ (h.box x hx) (h.cells x hx)) (h.box x hx),h.cells,h.free⟩;obtain ⟨q,hq,hqc⟩:=hV.cells hf';exact hn k q hq hqc
end
abbrev UM (Pc:Nat→Prop):={ m:Nat // Pc m }
theorem asK {F:Fence} (hd:F.depth=none) (k:Nat):F.room k:=fun d h=>by rw [hd] at h;cases h
theorem QX {m m':Nat} {l:Nat} {args:Array Value} {W:World} {R:Ending→World→Prop} (h:YieldAt Fence.wide m Tryz.prog l args W R):YieldAt Fence.wide m' Tryz.prog l args W R:=by
 obtain ⟨fn,tmps,assign,body,hy,hf,hR⟩:=h;exact ⟨fn,tmps,assign,body,hy,hf,fun c cs _=>hR c cs (asK rfl _)⟩
theorem at7 {Pc:Nat→Prop} (n:Nat) (hn:10≤n) (X:Nat→Prop) (v bv bt first B:Nat) (V:aB) (Cv Lv:Value) (w:World) (hV:aN w v Cv Lv V)
  (hbv:w.heap[bv]? = some (.cells #[.pointer (some ⟨v,0,none⟩)] 82 (0,0))) (hbt:w.heap[bt]? = some (.cells #[.int .i64 (first:Nat)] 3 (0,0))) (NH: ¬ X bt) (GN: ¬ X bv) (hft: ¬ eX v Cv Lv bt) (hfv: ¬ eX v Cv Lv bv)
  (Eh: ∀ k,X k→k<w.heap.size) (hfl:first<V.C.length) (hf:Pc first) (hT:Ai Pc V.C first):
  Lh n 181 #[.pointer (some ⟨bt,0,none⟩),.pointer (some ⟨bv,0,none⟩)] (fun x:UM Pc=> #[Value.int .i64 ((x.1:Nat):Int)]) (aT X (fun k=>B≤k) v bH) (fun ys=>ys.map (·.1)=sN V first) 33 B w:=by
 intro l J W hW hBW hJ hY h0;have qp: ¬ X W.heap.size:=fun hx=>by have:=Eh _ hx;have:=hW.size;omega
 have B0:lJ X v [(bt,.cells #[.int .i64 (first:Nat)] 3 (0,0)),(bv,.cells #[.pointer (some ⟨v,0,none⟩)] 82 (0,0))] (bH V) W:=by
  refine ⟨⟨Cv,Lv,V,hV.below hW,bH.refl V,?_⟩,?_,?_,?_⟩
  ·intro x hx;simp only [dD,jM,jO] at hx;rcases hx with rfl | rfl
   ·exact hft
   ·exact hfv
  ·intro x hx;simp only [dD,jM,jO] at hx;rcases hx with rfl | rfl
   ·exact (hW.block _ (aO hbt)).trans hbt
   ·exact (hW.block _ (aO hbv)).trans hbv
  ·intro x hx;simp only [dD,jM,jO] at hx;rcases hx with rfl | rfl <;> rfl
  ·intro x hx;simp only [dD,jM,jO] at hx;rcases hx with rfl | rfl
   ·exact NH
   ·exact GN
 have B1:=B0.lay (.cells #[.func (.yield l) #[] #[]] 165) rfl qp;have hJ1:J [] (W.alloc (.cells #[.func (.yield l) #[] #[]] 165)):=hJ.alloc _ h0;have c1:(W.alloc (.cells #[.func (.yield l) #[] #[]] 165)).cell? ⟨bt,0,none⟩=some (.int .i64 (first:Nat)):=(aG B1.b1 0).trans rfl;obtain ⟨fn,tmps,assign,body,hy,hR⟩:=hY [] ⟨first,hf⟩ _ hJ1 sm;have hVl: ∀ V1,bH V V1→V1.C.length=V.C.length:=fun _ h=>h.len;refine callsIn_of_wp_marks Tryz.func181 rfl trivial ?_ rfl;simp only [Tryz.ntmps181,iR,iQ,vk,Nat.reduceAdd,Nat.reduceSub,A8,Ba,Bc,Bd,ql,sO];have B1:=ah B1;clear B0 hbt hbv h0
 gi_wp2_with fail
 refine ⟨fun _=>om,hR.mono ?_⟩;rintro e W3 ⟨rfl,hJ3,hK3⟩;have B3:=B1.wU (fun _ _ a b=>bH.trans a b) hK3;obtain ⟨C3,L3,V3,hV3,hS3,hf3⟩:=B3.bP;have c3:W3.cell? ⟨bt,0,none⟩=some (.int .i64 (first:Nat)):=(aG B3.b1 0).trans rfl;have d3:W3.cell? ⟨bv,0,none⟩=some (.pointer (some ⟨v,0,none⟩)):=(aG B3.b2 0).trans rfl;have hs3:W.heap.size+1≤W3.heap.size:=by have:=hK3.1;simp at this;omega
 have abl: ∀ k,W3.heap.size≤k→ ¬ X k:=fun k hk hx=>by have:=Eh _ hx;have:=hW.size;omega
 have Hn:=ah (Qw W3 v first);have hn4:=(B3.lay (.cells #[.pointer (some ⟨v,0,none⟩)] 82) rfl (abl _ (aP _))).lay (.cells #[.int .i64 (first:Nat)] 3) rfl (abl _ sm);simp only [jB] at hn4;have hb4:=ah hn4;have B4:=ah (hn4.sub (cs:=[(W.heap.size,.cells #[.func (.yield l) #[] #[]] 165 (0,0))]) sm);have hJ4:=ah ((XJ hJ (C:=W.heap.size) (aP _)).alloc (.cells #[.int .i64 (first:Nat)] 3) (hJ.alloc (.cells #[.pointer (some ⟨v,0,none⟩)] 82) hJ3));have HV3:=ah hV3;have HB3:=ah B3;clear hn4 B3 hV3 hJ3 hJ1 B1 hR hy
 gi_wp2_with fail
 refine ⟨trivial,fun _=>om,(eY.2 Hn).mono ?_⟩;rintro e W4 ⟨rfl,rfl⟩
 gi_wp2_with fail
 generalize hW4:(W3.alloc (.cells #[.pointer (some ⟨v,0,none⟩)] 82)).alloc (.cells #[.int .i64 (first:Nat)] 3)=W4 at*;have hV4:aN W4 v C3 L3 V3:=by rw [← hW4];exact (HV3.alloc _).alloc _
 have hs4:W4.heap.size=W3.heap.size+2:=by rw [← hW4];simp
 have hfn: ¬ eX v C3 L3 (W3.heap.size+1):=fun hf=>by have:=HV3.qG _ hf;omega
 have GI:=Qx (Pc:=Pc) (n - 1) om X (fun _=>False) bH v W3.heap.size (W3.heap.size+1) first V3 C3 L3 W4 hV4 hb4.b1 hb4.b0 (abl _ om) hfn (by rw [hS3.len];exact hfl) (hS3.ok hT);have htold:(uY V3 first (hS3.ok (Pc:=Pc) hT)).map (fun s=>s.number%32768)=dL (numsOf (cl V.C first)):=by
  rw [← hS3.told first]
  have:=ac8 first (numsOf (cl V3.C first)) (hS3.ok (Pc:=Pc) hT) (numsOf_length _) 32 (aP _)
  rw [Js (by rw [numsOf_length];exact aP _)] at this;exact this
 clear hb4 hW4 HV3 HB3 hf3 c3 d3 c1 hV4 hfn;refine wpIn_rangeFunc_ownH rfl om (gf:=182) (lb:= #[.pointer (some ⟨W3.heap.size,0,none⟩),.pointer (some ⟨W3.heap.size+1,0,none⟩)]) rfl trivial (enters_of Tryz.func182 kr rfl) GI (fun h k=>aT.trans (R:=bH) (fun _ _ _ a b=>a.trans b) h k) (fun W l o o' _ hl hc _=>aT.turn bH.refl W l o o' hl hc id) (bG _ _) (fun _=>rfl)
  (fun pre W'=>J (⟨first,hf⟩ :: pre.map (fun s=>⟨s.number%32768,s.hc⟩)) W'∧lJ X v [(W.heap.size,.cells #[.func (.yield l) #[] #[]] 165 (0,0))] (bH V) W')
  (fun _ _ _=>False)
  (fun _ _ _ _ hs hg hr=>⟨hJ _ _ _ _ hs.1 hg (fun r e=>⟨by have:=(hr r e).1;omega,(hr r e).2⟩),hs.2.pO hg (fun r e=>(hr r e).2)⟩)
  (fun _ _ _ _ _ hs _ _=>hs)
  ⟨uh hJ4,uh B4⟩
  (fun x a' W'=> ∃ bx,W'.heap[bx]? = some (.cells #[.int .i64 ((x.table:Nat):Int),.int .i64 ((x.index:Nat):Int),.int .u16 ((x.number:Nat):Int)] 219 (0,0))∧a'={ tmps:= #[.func (.yield l) #[] #[],.pointer (some ⟨bt,0,none⟩),.pointer (some ⟨bv,0,none⟩),.pointer (some ⟨W.heap.size,0,none⟩),.pointer (some ⟨bx,0,none⟩),.func (.yield l) #[] #[],.int .i64 (first:Nat),.bool true,.bool false,.pointer (some ⟨v,0,none⟩),.int .i64 (first:Nat),.func (.func 182) #[] #[.pointer (some ⟨W3.heap.size,0,none⟩),.pointer (some ⟨W3.heap.size+1,0,none⟩)],oh x,undef,undef,undef,undef,undef,undef],defers:=[] })
  (fun x a' _ A' B' row hs hg hr=>by
   obtain ⟨bx,h2,h3⟩:=hs;refine ⟨bx,?_,h3⟩;rw [hg.block bx (aO h2) (fun e=>by
    obtain ⟨_,o,ho,hc⟩:=hr bx e.symm;rw [h2] at ho;injection ho with ho;subst ho;cases hc)]
   exact h2)
  ?assign ?body ?done ?stop
 case assign=>
  rintro l2 pre x W' K ⟨hJx,hBx⟩ hK;unfold oh
  gi_wp2
  exact hK _ _ ((KeepsOthers.alloc _ _).from _) (aT.below bH.refl (fC)) ⟨hJ.alloc _ hJx,hBx.below (fC)⟩ ⟨_,aW _ _,rfl⟩
 case body=>
  rintro l2 pre x a' W' hl2 ⟨r,hr⟩ ⟨hJx,hBx⟩ ⟨bx,hbx,rfl⟩ hlen;have c1:W'.cell? ⟨W.heap.size,0,none⟩=some (.func (.yield l) #[] #[]):=(aG hBx.b0 0).trans rfl;have c2:W'.cell? ⟨bx,2,none⟩=some (.int .u16 ((x.number:Nat):Int)):=(aG hbx 2).trans rfl;have Hc:Hid (∀ W,_):=fun W=>BH x.number x.hn W;have hJd:J (⟨first,hf⟩ :: pre.map (fun s=>⟨s.number%32768,s.hc⟩)) W'.drew:=hJ _ W' W'.drew none hJx ⟨rfl,rfl,rfl,aP _,fun _ _ _=>rfl⟩ (fun r e=>by cases e);have hap:(⟨first,hf⟩ :: pre.map (fun s:mY Pc=>(⟨s.number%32768,s.hc⟩:UM Pc)))++[⟨x.number%32768,x.hc⟩]=⟨first,hf⟩ :: (pre++[x]).map (fun s=>⟨s.number%32768,s.hc⟩):=sm;have NI:=hY _ ⟨x.number%32768,x.hc⟩ W'.drew hJd (by simp;omega);rw [hap] at NI;obtain ⟨fn2,Ox,assign2,body2,hy2,hR2⟩:=QX (m':=n - 1 - 1 - 1) NI;have Hx:=x.hn;have hB2:=ah (hBx.below (B:=W'.drew) ⟨rfl,rfl,rfl,aP _,fun _ _=>rfl⟩);dsimp only at hy2;clear hJd NI hJx hBx hap hbx
  generalize x.number%32768=cc at*;generalize x.number=nn at*;generalize oh x=sv at*
  gi_wp2
  gi_region_with (first
   | (
    refine ⟨trivial,fun _=>om,(CallsIn.inRound l2 (eY.2 (uh Hc _))).mono ?_⟩;rintro e w3 ⟨rfl,rfl⟩)
   | (
    refine ⟨fun _=>om,Ri hR2 ?_⟩;rintro e w3 ⟨rfl,hJ5,hK5⟩))
  all_goals
   have B5:=hB2.wU (fun _ _ a b=>bH.trans a b) hK5;have hKF:KeepsFrom W4.heap.size W' w3:=⟨hK5.1,fun k o hB hk ho=>hK5.2.1 k o hk ho om⟩;have hK6:aT X (fun _=>False) v bH W' w3:=aT.trans (R:=bH) (fun _ _ _ a b=>bH.trans a b) (aT.below bH.refl (B:=W'.drew) ⟨rfl,rfl,rfl,aP _,fun _ _=>rfl⟩) (hK5.OC (Y':=fun _=>False) (fun _ h=>False.elim h))
   gi_wp2
   exact ⟨hKF,hK6,hJ5,B5⟩
 case done=>
  rintro D ys W' hD hS ⟨hJx,_⟩ hK
  gi_wp2
  refine ⟨sm,.inl ⟨_,_,rfl,run_takeDeferred hK,?_⟩⟩;refine ⟨_,CJ rfl _ _ _,⟨_,rfl⟩,_,?_,hJ.putObj _ hJx om hK rfl⟩;rw [jC,OM,hS,sN,← htold];rfl
 case stop=>
  rintro D c pre W' _ _ h _;exact h.elim
end Go.Proofs.YtknjjjenklfeoaaGreatDoor
