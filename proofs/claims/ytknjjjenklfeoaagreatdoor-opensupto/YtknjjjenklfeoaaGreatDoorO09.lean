import Derived.Test.YtknjjjenklfeoaaGreatDoorO08
set_option maxHeartbeats 8000000
set_option maxRecDepth 100000
set_option linter.all false
namespace Go.Proofs.YtknjjjenklfeoaaGreatDoor
open Go.RowKit
section
attribute [local go_sem ↓] dw fP fZ ku afp
attribute [local go_sem] dK fO fV aV kG aj6
theorem iK.cell {w:World} {b:Nat} {V:ou} {B:lX} {S:Nat→Prop} (h:iK w b V B S) (i:Nat):w.cell? ⟨b,i,none⟩=(yw V B.next)[i]? := by rw [aG h.aF,bW]
theorem iK.lt' {w:World} {b:Nat} {V:ou} {B:lX} {S:Nat→Prop} (h:iK w b V B S):b<w.heap.size:=aO h.aF
theorem iK.ac0 {w:World} {b:Nat} {V:ou} {B:lX} {S:Nat→Prop} (h:iK w b V B S) (q:Nat):iK (w.setCell ⟨b,6,none⟩ (.int .i64 (q:Int))) b V { B with next:=q } S:=by
 have hk:=Kept.only w b 6 (.int .i64 (q:Int));exact {
  aF:=by rw [heap_setCell_same _ _ _ _ _ _ _ h.aF];rfl
  rN:=bQ hk h.rN (iw h.rN h.aF dc)
  uw:=bQ hk h.uw (iw h.uw h.aF dc)
  rF:=bQ hk h.rF (iw h.rF h.aF dc)
  wY:=bQ hk h.wY (iw h.wY h.aF dc)
  rW:=bQ hk h.rW (iw h.rW h.aF dc)
  wZ:=bQ hk h.wZ (iw h.wZ h.aF dc)
  eN:=fun x hx=>bQ hk (h.eN x hx) (iw (h.eN x hx) h.aF dc)
  eF:=fun x hx=>bQ hk (h.eF x hx) (iw (h.eF x hx) h.aF dc)
  eW:=fun x hx=>bQ hk (h.eW x hx) (iw (h.eW x hx) h.aF dc)
  apart:=h.apart,zO:=h.zO,iC:=h.iC,GX:=h.GX,GV:=h.GV,GY:=h.GY
  lt:=fun k hk'=>iZ (h.lt k hk') hk.size }
theorem Tryz.apF:(Tryz.prog.info? 28).map (fun i=>(i.zero,i.size,i.bytes))=some (some (.slice none 0 0),1,24):=kr
theorem Tryz.apI:(Tryz.prog.info? 5).map (fun i=>(i.zero,i.size,i.bytes))=some (some (.int .u8 0),1,1):=kr
theorem size_setCell (w:World) (a:Addr) (v:Value):(w.setCell a v).heap.size=w.heap.size:=by simp [World.setCell]
theorem xW {w:World} {base base':Nat} {e e':TypeId} {size size':Nat} {v v':Value} {n n':Nat} {xs xs':List Value} (h:w.ownsRow base e size v n xs) (h':w.ownsRow base' e' size' v' n' xs') (hne:e≠e'): ∀ g,v.ownBlock=some g→v'.ownBlock≠some g:=by
 intro g hg hl;rcases h'.2 with ⟨rfl,_⟩ | ⟨g',cap,cur,rfl,_,hh,_⟩
 ·cases hl
 ·simp only [Value.ownBlock,jv] at hl;subst hl;exact iw h hh hne _ hg rfl
def BZ (L:List aj) (m:UInt8) (k:Nat):List aj:=List.replicate k (dR m)++L.drop k
theorem Xp (L:List aj) (m:UInt8) (k:Nat) (h:k≤L.length):(BZ L m k).length=L.length:=by simp [BZ];omega
theorem aiw {L:List aj} (hl: ∀ c ∈ L,c.length=64) (m:UInt8) (k:Nat): ∀ c ∈ BZ L m k,c.length=64:=by
 intro c hc;rcases gq.1 hc with h | h
 ·rw [KT h];exact BX m
 ·exact hl c (List.mem_of_mem_drop h)
theorem aix (L:List aj) (m:UInt8) (k:Nat) (h:k<L.length):(BZ L m k).set k (dR m)=BZ L m (k+1):=by
 unfold BZ;rw [Jv _ _ sm,zy,Bf,KO h,nK,KP,uG];rfl
theorem Yb (N:Nat) (c:aj):aQ (List.replicate N c)++cv c=aQ (List.replicate (N+1) c):=by rw [KP,PS]
theorem IQ {w W:World} {b:Nat} {V:ou} {B:lX} {S:Nat→Prop} (h:iK w b V B S) (hk:Kept (fun k=>k=b∨V.f.ownBlock=some k∨V.fm.ownBlock=some k) w W) {base:Nat} {e:TypeId} {size:Nat} {v:Value} {n:Nat} {xs:List Value}
  (hr:w.ownsRow base e size v n xs) (h1:e≠77) (h2:e≠28) (h3:e≠5):W.ownsRow base e size v n xs:=
 bQ hk hr fun g hg x=>by
  rcases x with x | x | x
  ·exact iw hr h.aF h1 g hg x
  ·exact xW hr h.rF h2 g hg x
  ·exact xW hr h.wY h3 g hg x
theorem aiN {α:Type} {l:List α} {a b c x:α} {f:α→Nat} {n:Nat} (hx:x ∈ l++[a,b,c]) (ha:f a≤n) (hb:f b≤n) (hc:f c≤n):x ∈ l∨f x≤n:=by
 rcases gq.1 hx with y | y
 ·exact aA y
 ·simp only [dD,jM,jO] at y;rcases y with rfl | rfl | rfl
  ·exact ay ha
  ·exact ay hb
  ·exact ay hc
theorem arz {w w6 w7 w8:World} {b:Nat} {V:ou} {B:lX} {S:Nat→Prop} {lv one two:Value} {N g7 ji g8 kR:Nat} {m:UInt8} {X7 X8:Obj}
  (h:iK w6 b V B S) (hl:w6.ownsRow 0 38 64 lv N (aQ (List.replicate N (dR m)))) (h1:w6.ownsRow 0 38 64 one (N+1) (aQ (List.replicate (N+1) (dR m)))) (h2:w6.ownsRow 0 38 64 two (N+2) (aQ (List.replicate (N+2) (dR m))))
  (o1: ∀ g,one.ownBlock=some g→lv.ownBlock=some g∨w.heap.size≤g) (o2: ∀ g,two.ownBlock=some g→lv.ownBlock=some g∨w.heap.size≤g)
  (hK:Kept (fun k=>S k∨lv.ownBlock=some k) w w6)
  (hg7:(w6.alloc X7).grownBy w7 V.f.ownBlock) (r7:w7.ownsRow 0 28 1 (.slice (some ⟨g7,0,none⟩) (B.files.length+3) ji) (B.files.length+3) (B.files.map (·.v)++[lv,one,two])) (a7:V.f.ownBlock=some g7∨g7=w6.heap.size+1)
  (hg8:((w7.setCell ⟨b,2,none⟩ (.slice (some ⟨g7,0,none⟩) (B.files.length+3) ji)).alloc X8).grownBy w8 V.fm.ownBlock)
  (r8:w8.ownsRow 0 5 1 (.slice (some ⟨g8,0,none⟩) (B.files.length+3) kR) (B.files.length+3) ((B.files.map fun x=> .int .u8 (x.m.toNat:Int))++[.int .u8 (m.toNat:Int),.int .u8 (m.toNat:Int),.int .u8 (m.toNat:Int)])) (a8:V.fm.ownBlock=some g8∨g8=w7.heap.size+1)
  (b8:w8.heap[b]? = some (.cells (yw { V with f:= .slice (some ⟨g7,0,none⟩) (B.files.length+3) ji } B.next).toArray 77 (0,0))):
  ∃ V' B' S',iK (w8.setCell ⟨b,3,none⟩ (.slice (some ⟨g8,0,none⟩) (B.files.length+3) kR)) b V' B' S'∧B'.next=B.next∧B'.files.length=B.files.length+3∧B'.writes=B.writes∧B'.names=B.names∧(∀ x ∈ B'.files,x ∈ B.files∨x.n≤N+2)∧
   Kept (fun k=>S k∨lv.ownBlock=some k) w (w8.setCell ⟨b,3,none⟩ (.slice (some ⟨g8,0,none⟩) (B.files.length+3) kR))∧(∀ k,S' k→S k∨lv.ownBlock=some k∨w.heap.size≤k):=by
 have KA:Kept (fun k=>k=b∨V.f.ownBlock=some k∨V.fm.ownBlock=some k) w6 (w7.setCell ⟨b,2,none⟩ (.slice (some ⟨g7,0,none⟩) (B.files.length+3) ji)):=
  Kept.setCell (S:=fun k=>k=b∨V.f.ownBlock=some k∨V.fm.ownBlock=some k) (((Kept.refl _ _).alloc X7).grown hg7 (fun g hg=>aA (ay (aA hg)))) (p:=⟨b,2,none⟩) (aA (aA rfl)) _
 have KB:Kept (fun k=>k=b∨V.f.ownBlock=some k∨V.fm.ownBlock=some k) (w7.setCell ⟨b,2,none⟩ (.slice (some ⟨g7,0,none⟩) (B.files.length+3) ji)) (w8.setCell ⟨b,3,none⟩ (.slice (some ⟨g8,0,none⟩) (B.files.length+3) kR)):=
  Kept.setCell (S:=fun k=>k=b∨V.f.ownBlock=some k∨V.fm.ownBlock=some k) (((Kept.refl _ _).alloc X8).grown hg8 (fun g hg=>aA (ay (ay hg)))) (p:=⟨b,3,none⟩) (aA (aA rfl)) _
 have oL:=KA.trans KB;have hb7:w7.heap[b]? = some (.cells (yw V B.next).toArray 77 (0,0)):=qH hg7 ((jE _ _ _ h.lt').trans h.aF) (iw h.rF h.aF dc);have s1:=hK.size;have s2:=KA.size;have s3:=KB.size;have s7:=size_setCell w7 ⟨b,2,none⟩ (.slice (some ⟨g7,0,none⟩) (B.files.length+3) ji);have TB:(w7.setCell ⟨b,2,none⟩ (.slice (some ⟨g7,0,none⟩) (B.files.length+3) ji)).ownsRow 0 5 1 V.fm B.files.length (B.files.map fun x=> .int .u8 (x.m.toNat:Int)):=
  bQ (Kept.only w7 b 2 _) (zN hg7 (h.wY.alloc X7) (xW h.wY h.rF dc)) (iw h.wY h.aF dc)
 have r7':(w7.setCell ⟨b,2,none⟩ (.slice (some ⟨g7,0,none⟩) (B.files.length+3) ji)).ownsRow 0 28 1 (.slice (some ⟨g7,0,none⟩) (B.files.length+3) ji) (B.files.length+3) (B.files.map (·.v)++[lv,one,two]):=
  bQ (Kept.only w7 b 2 _) r7 (iw r7 hb7 dc)
 have Ib:w8.ownsRow 0 28 1 (.slice (some ⟨g7,0,none⟩) (B.files.length+3) ji) (B.files.length+3) (B.files.map (·.v)++[lv,one,two]):=
  zN hg8 (r7'.alloc X8) (xW r7' TB dc)
 refine ⟨{ V with f:= .slice (some ⟨g7,0,none⟩) (B.files.length+3) ji,fm:= .slice (some ⟨g8,0,none⟩) (B.files.length+3) kR },{ B with files:=B.files++[⟨lv,N,m⟩,⟨one,N+1,m⟩,⟨two,N+2,m⟩] },
  fun k=>S k∨lv.ownBlock=some k∨(w.heap.size≤k∧k<(w8.setCell ⟨b,3,none⟩ (.slice (some ⟨g8,0,none⟩) (B.files.length+3) kR)).heap.size),?_,rfl,sm,rfl,rfl,fun x hx=>aiN (f:=Vm.n) hx sm sm sm,?_,fun k hk=>by rcases hk with x | x | x;exact aA x;exact ay (aA x);exact ay (ay x.1)⟩
 ·exact {
   aF:=by rw [heap_setCell_same _ _ _ _ _ _ _ b8];rfl
   rN:=IQ h oL h.rN dc dc dc
   uw:=IQ h oL h.uw dc dc dc
   rF:=by
    have:=bQ (Kept.only w8 b 3 (.slice (some ⟨g8,0,none⟩) (B.files.length+3) kR)) Ib (iw Ib b8 dc)
    simpa using this
   wY:=by
    have:=bQ (Kept.only w8 b 3 (.slice (some ⟨g8,0,none⟩) (B.files.length+3) kR)) r8 (iw r8 b8 dc)
    simpa using this
   rW:=IQ h oL h.rW dc dc dc
   wZ:=IQ h oL h.wZ dc dc dc
   eN:=fun x hx=>IQ h oL (h.eN x hx) dc dc dc
   eF:=fun x hx=>by
    rcases gq.1 hx with y | y
    ·exact IQ h oL (h.eF x y) dc dc dc
    ·simp only [dD,jM,jO] at y;rcases y with rfl | rfl | rfl
     ·exact IQ h oL hl dc dc dc
     ·exact IQ h oL h1 dc dc dc
     ·exact IQ h oL h2 dc dc dc
   eW:=fun x hx=>IQ h oL (h.eW x hx) dc dc dc
   apart:=h.apart
   zO:=aA h.zO
   iC:=fun g hg=>by
    have q8:=(r8.lt g8 rfl).2;have q7:=(Ib.lt g7 rfl).2;rcases hg with x | x | x | x | x | x
    ·exact aA (h.iC g (aA x))
    ·exact aA (h.iC g (ay (aA x)))
    ·simp only [Value.ownBlock,jv] at x;subst x;rcases a7 with y | y
     ·exact aA (h.iC _ (ay (ay (aA y))))
     ·exact ay (ay ⟨om,by rw [size_setCell];exact q7⟩)
    ·simp only [Value.ownBlock,jv] at x;subst x;rcases a8 with y | y
     ·exact aA (h.iC _ (ay (ay (ay (aA y)))))
     ·exact ay (ay ⟨om,by rw [size_setCell];exact q8⟩)
    ·exact aA (h.iC g (ay (ay (ay (ay (aA x))))))
    ·exact aA (h.iC g (ay (ay (ay (ay (ay x))))))
   GX:=fun x hx g hg=>aA (h.GX x hx g hg)
   GV:=fun x hx g hg=>by
    rcases gq.1 hx with y | y
    ·exact aA (h.GV x y g hg)
    ·simp only [dD,jM,jO] at y;rcases y with rfl | rfl | rfl
     ·exact ay (aA hg)
     ·rcases o1 g hg with z | z
      ·exact ay (aA z)
      ·exact ay (ay ⟨z,by have:=(h1.lt g hg).2;omega⟩)
     ·rcases o2 g hg with z | z
      ·exact ay (aA z)
      ·exact ay (ay ⟨z,by have:=(h2.lt g hg).2;omega⟩)
   GY:=fun x hx g hg=>aA (h.GY x hx g hg)
   lt:=fun k hk=>by
    rcases hk with x | x | x
    ·have:=h.lt k x;omega
    ·have:=(hl.lt k x).2;omega
    ·exact x.2 }
 ·refine hK.trans (oL.mono fun k hk=> ?_);rcases hk with rfl | x | x
  ·exact aA h.zO
  ·exact aA (h.iC k (ay (ay (aA x))))
  ·exact aA (h.iC k (ay (ay (ay (aA x)))))
theorem arx (w:World) (b:Nat) (V:ou) (B:lX) (S:Nat→Prop) (lv:Value) (L:List aj) (h:iK w b V B S) (hl:w.ownsRow 0 38 64 lv L.length (aQ L)) (hls: ∀ c ∈ L,c.length=64)
  (hne: ∀ g,lv.ownBlock=some g→ ¬ S g) (hnx:B.next≤1000000000) (hfl:B.files.length≤10000000000) (hL:L.length≤1000):
  Calls Tryz.prog 130 #[.pointer (some ⟨b,0,none⟩),lv] w fun e w'=>e= .returned (.tuple #[])∧
   ∃ V' B' S',iK w' b V' B' S'∧B'.next=B.next+1∧B'.files.length=B.files.length+3∧B'.writes=B.writes∧B'.names=B.names∧(∀ x ∈ B'.files,x ∈ B.files∨x.n≤L.length+2)∧
    Kept (fun k=>S k∨lv.ownBlock=some k) w w'∧(∀ k,S' k→S k∨lv.ownBlock=some k∨w.heap.size≤k):=by
 have c6:=h.cell 6;rw [show (yw V B.next)[6]? = some (.int .i64 (B.next:Int)) from rfl] at c6;have z6:=eG h.aF 6;have h1:=h.ac0 (B.next+1);have hni:(B.next:Int)≤1000000000:=om;rw [show ((B.next+1:Nat):Int)=(B.next:Int)+1 by omega] at h1;have d6:(w.setCell ⟨b,6,none⟩ (.int .i64 ((B.next:Int)+1))).cell? ⟨b,6,none⟩=some (.int .i64 ((B.next:Int)+1)):=by
  rw [h1.cell 6];show some (Value.int .i64 ((B.next+1:Nat):Int))=_;rw [show ((B.next+1:Nat):Int)=(B.next:Int)+1 by omega]
 go_enter Tryz.func130,Tryz.ntmps130
 go_wp2;obtain ⟨m,hm⟩: ∃ m:UInt8,((B.next:Int)+1)%256=(m.toNat:Int):=⟨UInt8.ofNat ((B.next+1)%256),sm⟩;rw [hm];have HK0:=ah ((Kept.only w b 6 (.int .i64 ((B.next:Int)+1))).mono (T:=fun k=>S k∨lv.ownBlock=some k) (fun k hk=>aA (by rw [hk];exact h.zO)));have Hl0:=ah (bQ (Kept.only w b 6 (.int .i64 ((B.next:Int)+1))) hl (iw hl h.aF dc));have HB0:=ah h1;have hlt0: ∀ g,lv.ownBlock=some g→g<w.heap.size:=fun g hg=>(hl.lt g hg).2;have JB:=ah hlt0;have uj:=ah hne;have HS:=ah h.lt;obtain ⟨la,jq,hlv⟩:=iq hl;have Hlv:=ah hlv;subst hlv;clear c6 z6 d6 hm h1 h hl hlt0 hne;generalize w.setCell ⟨b,6,none⟩ (.int .i64 ((B.next:Int)+1))=W at*;have hmark:=J5 m;have Vy:=ah hmark;clear hmark;have WU:=BX m
 go_loopw [5] (fun i w'=> ∃ k:Nat,k≤L.length∧i= .int .i64 k∧w'.ownsRow 0 38 64 (.slice la L.length jq) L.length (aQ (BZ L m k))∧iK w' b V { B with next:=B.next+1 } S∧Kept (fun k=>S k∨(Value.slice la L.length jq).ownBlock=some k) w w') (fun i _=>L.length - (intOf i).toNat)
 case atStart=>exact ⟨0,om,rfl,uh Hl0,uh HB0,uh HK0⟩
 case round=>
  obtain ⟨k,hk,rfl,hrow,hbk,hkp⟩:=hrel;clear Hl0 HB0 HK0
  by_cases hlt:k<L.length
  ·obtain ⟨g,cap2,e2,_⟩:=gB hrow om;obtain ⟨rfl,rfl⟩:la=some ⟨g,0,none⟩∧jq=cap2:=by injection e2 with x1 x2 x3;exact ⟨x1,x3⟩
   have hki:(k:Int)<(L.length:Int):=om;have fA:=ah hrow;have DR:=ah hbk;have Bz:=ah hkp;clear hrow hbk hkp e2
   go_wp2_with fail
   refine (uh Vy wr).mono ?_;rintro e w2 ⟨rfl,hb2⟩;have hr2:=bQ (Kept.dS (S:=fun _=>False) hb2) fA (fun _ _=>id);have hml:=Xp L m k om;have hr2':w2.ownsRow 0 38 64 (.slice (some ⟨g,0,none⟩) (BZ L m k).length jq) (BZ L m k).length (aQ (BZ L m k)):=by rw [hml];exact hr2
   have th:=Uw hr2' k (by rw [hml];exact hlt);have hset:=Yc hr2' (aiw hls m k) k (by rw [hml];exact hlt) (dR m) WU;rw [aix L m k hlt,Xp L m (k+1) om,hml] at hset;have Iw:=ah hset;have Vu:=ah (DR.below hb2);have RN:=ah (Bz.trans (Kept.dS hb2));clear hr2 hr2' hset hb2 fA DR Bz hml;go_wp2;go_roundw
   case rel=>
    refine ⟨k+1,om,gn,uh Iw,?_,RN.setCells (b:=g) (aA (ay rfl)) _ _⟩;exact Vu.kept (T:=fun x=>x=g) ((Kept.refl (fun x=>x=g) w2).setCells (b:=g) (aA rfl) _ _) (fun x hx e=>uh uj g rfl (by rw [← e];exact hx))
   case measure=>exact cO
  ·have xK:k=L.length:=om;have hfull:BZ L m k=List.replicate L.length (dR m):=by rw [xK];unfold BZ;rw [Zd,rU]
   rw [hfull] at hrow;have fA:=ah hrow;have DR:=ah hbk;have Bz:=ah hkp;clear hrow hbk hkp xK hfull
   go_wp2_with fail
   refine (uh Vy wr).mono ?_;rintro e w2 ⟨rfl,hb2⟩;have ZI:=ah (bQ (Kept.dS (S:=fun _=>False) hb2) fA (fun _ _=>id));have Vu:=ah (DR.below hb2);have RN:=ah (Bz.trans (Kept.dS hb2));clear hb2 fA DR Bz;obtain ⟨i0,hi0,hz0,hz1,hz2⟩:=qy Tryz.J4
   go_wp2_with (at_builtin;refine OD _ rfl _ _ _ rfl 0 38 i0 _ 64 64 Tryz.underlying28 hi0 hz0 hz1 hz2 (by simp [Value.cells,bg,aV]) om (.slice la L.length jq) L.length (aQ (List.replicate L.length (dR m))) rfl (ZI.alloc _) ⟨w2.heap.size,0,none⟩ 1 1 (cv (dR m)) rfl (by rw [bg,WU]) (pU (cs:=(cv (dR m)).toArray) (t:=38) (fr:=(0,0)) (aW w2 _)) (zJ _) om (by unfold maxLen;omega) om om (w2.heap.size+1) sm ?_;intro g3 cap3 w3 hown3 y8 hlt3)
   have aeN:=ah (ZI.alloc (.cells (cv (dR m)).toArray 38));have aeL:=ah hown3;have Hk3:=ah (CZ y8);have Hl3:=ah (Oi aeN hown3 y8);have aeu:=ah (Vu.below ((bG _ _).alloc (aP _) (.cells (cv (dR m)).toArray 38)));have HB3:=ah (aeu.kept Hk3 (fun x hx e=>uh uj x e hx));have HK3:=ah ((RN.alloc (.cells (cv (dR m)).toArray 38)).trans (Hk3.mono (T:=fun k=>S k∨(Value.slice la L.length jq).ownBlock=some k) (fun k hk=>ay hk)));have Hg3:Hid ((Value.slice la L.length jq= .slice (some ⟨g3,0,none⟩) L.length cap3)∨(w.heap.size≤g3)):=by
    rcases y8 with ⟨e1,_⟩ | ⟨e1,_⟩
    ·exact aA e1
    ·exact ay (by have:=RN.size;omega)
   clear hown3 y8 ZI Vu RN aeN aeu Hk3;refine (uh Vy w3).mono ?_;rintro e w4 ⟨rfl,hb4⟩
   go_wp2_with fail
   refine (uh Vy w4).mono ?_;rintro e w5 ⟨rfl,hb5⟩;have hb45:=hb4.trans (hb5.mono hb4.size);have Hl5:=ah (bQ (Kept.dS (S:=fun _=>False) hb45) Hl3 (fun _ _=>id));have alZ:=ah (bQ (Kept.dS (S:=fun _=>False) hb45) aeL (fun _ _=>id));have HB5:=ah (HB3.below hb45);have HK5:=ah (HK3.trans (Kept.dS hb45));clear hb4 hb5 hb45 Hl3 aeL HB3 HK3;obtain ⟨i1,hi1,hx0,hx1,hx2⟩:=qy Tryz.apF;obtain ⟨i2,hi2,hw0,hw1,hw2⟩:=qy Tryz.apI;have hfz: ∀ (w':World) (V':ou) (q:Nat) (i:Nat),w'.heap[b]? = some (.cells (yw V' q).toArray 77 (0,0))→w'.frozen? ⟨b,i,none⟩=false:=fun w' V' q i hh=>eG hh i;have Hfz:=ah hfz;clear hfz
   go_wp2_with (first
    | (
     at_builtin
     refine OD _ rfl _ _ _ rfl 0 38 i0 _ 64 64 Tryz.underlying28 hi0 hz0 hz1 hz2 (by simp [Value.cells,bg,aV]) om (.slice la L.length jq) L.length (aQ (List.replicate L.length (dR m))) rfl (Hl5.alloc _) ⟨w5.heap.size,0,none⟩ 2 2 (cv (dR m)++cv (dR m)) rfl (by rw [oO,bg,WU]) (pU (cs:=(cv (dR m)++cv (dR m)).toArray) (t:=38) (fr:=(0,0)) (aW w5 _)) (by intro u hu;rcases gq.1 hu with x | x <;> exact zJ _ u x) om (by unfold maxLen;omega) om om (w5.heap.size+1) sm ?_;intro g6 cap6 w6 hown6 Fj apj;have B6:=ah ((HB5.below ((bG _ _).alloc (aP _) (.cells (cv (dR m)++cv (dR m)).toArray 38))).kept (CZ Fj) (fun x hx e=>uh uj x e hx));have c2:w6.cell? ⟨b,2,none⟩=some V.f:=B6.cell 2)
    | (
     at_builtin
     refine xZ _ rfl _ _ _ rfl 0 28 i1 _ 1 24 Tryz.underlying72 hi1 hx0 hx1 hx2 rfl om V.f B.files.length (B.files.map (·.v)) rfl (B6.rF.alloc _) ⟨w6.heap.size,0,none⟩ 3 3 [.slice la L.length jq,.slice (some ⟨g3,0,none⟩) (L.length+1) cap3,.slice (some ⟨g6,0,none⟩) (L.length+2) cap6] rfl rfl (pU (cs:= #[.slice la L.length jq,.slice (some ⟨g3,0,none⟩) (L.length+1) cap3,.slice (some ⟨g6,0,none⟩) (L.length+2) cap6]) (t:=28) (fr:=(0,0)) (aW w6 _)) (by simp [Value.oneCell']) om (by unfold maxLen;omega) om om (w6.heap.size+1) sm ?_;intro g7 ji w7 Qa Fp P5 ahF;have b7:=ah (qH Fp (B6.below ((bG _ _).alloc (aP _) (.cells #[.slice la L.length jq,.slice (some ⟨g3,0,none⟩) (L.length+1) cap3,.slice (some ⟨g6,0,none⟩) (L.length+2) cap6] 28))).aF (iw B6.rF B6.aF dc));have c72:w7.cell? ⟨b,2,none⟩=some V.f:=(aG b7 2).trans rfl;have c73:w7.cell? ⟨b,3,none⟩=some V.fm:=(aG b7 3).trans rfl
     have z7: ∀ i,w7.frozen? ⟨b,i,none⟩=false:=fun i=>eG b7 i;have R9:=ah (bQ (Kept.only w7 b 2 (.slice (some ⟨g7,0,none⟩) (B.files.length+3) ji)) (zN Fp (B6.wY.alloc _) (xW B6.wY B6.rF dc)) (iw B6.wY B6.aF dc)))
    | (
     at_builtin
     refine xZ _ rfl _ _ _ rfl 0 5 i2 _ 1 1 Tryz.underlying73 hi2 hw0 hw1 hw2 rfl om V.fm B.files.length (B.files.map fun x=> .int .u8 (x.m.toNat:Int)) rfl (R9.alloc _) ⟨w7.heap.size,0,none⟩ 3 3 [.int .u8 (m.toNat:Int),.int .u8 (m.toNat:Int),.int .u8 (m.toNat:Int)] rfl rfl (pU (cs:= #[.int .u8 (m.toNat:Int),.int .u8 (m.toNat:Int),.int .u8 (m.toNat:Int)]) (t:=5) (fr:=(0,0)) (by have:=aW (w7.setCell ⟨b,2,none⟩ (.slice (some ⟨g7,0,none⟩) (B.files.length+3) ji)) (.cells #[.int .u8 (m.toNat:Int),.int .u8 (m.toNat:Int),.int .u8 (m.toNat:Int)] 5);rwa [size_setCell] at this)) (by simp [Value.oneCell']) om (by unfold maxLen;omega) om om (w7.heap.size+1) sm ?_;intro g8 kR w8 Ej Dk GR WS
     have b8:=ah (qH Dk (show _=some (.cells (yw { V with f:= .slice (some ⟨g7,0,none⟩) (B.files.length+3) ji } (B.next+1)).toArray 77 (0,0)) from (jE _ _ _ (by rw [size_setCell];exact aO b7)).trans (by rw [heap_setCell_same _ _ _ _ _ _ _ (uh b7)];rfl)) (fun g hg=>iw B6.wY B6.aF dc g hg));have c83:w8.cell? ⟨b,3,none⟩=some V.fm:=(aG b8 3).trans rfl;have z8: ∀ i,w8.frozen? ⟨b,i,none⟩=false:=fun i=>eG b8 i)
    | fail)
   have TM:aQ (List.replicate L.length (dR m))++(cv (dR m)++cv (dR m))=aQ (List.replicate (L.length+2) (dR m)):=by rw [← uG,Yb,Yb]
   have hl6:=Oi (Hl5.alloc (.cells (cv (dR m)++cv (dR m)).toArray 38)) hown6 Fj;have h26:w6.ownsRow 0 38 64 (.slice (some ⟨g6,0,none⟩) (L.length+2) cap6) (L.length+2) (aQ (List.replicate (L.length+2) (dR m))):=by rw [← TM];exact hown6
   have WW:=uh alZ;rw [Yb] at WW;have h16:w6.ownsRow 0 38 64 (.slice (some ⟨g3,0,none⟩) (L.length+1) cap3) (L.length+1) (aQ (List.replicate (L.length+1) (dR m))):=by
    have hlen1:(aQ (List.replicate (L.length+1) (dR m))).length=(L.length+1)*64:=by
     rw [yC _ (by intro c hc;rw [KT hc];exact WU),zy]
    rcases Fj with ⟨e6,hg6⟩ | ⟨_,hg6⟩
    ·rcases uh Hg3 with e3 | e3
     ·rw [e6] at e3;injection e3 with x1 _ x3;injection x1 with x1;injection x1 with x1 _ _;subst x1;subst x3;have h27:w6.ownsRow 0 38 64 (.slice (some ⟨g6,0,none⟩) (L.length+1+1) cap6) (L.length+1+1) (aQ (List.replicate (L.length+1) (dR m))++cv (dR m)):=by rw [Yb];exact h26
      exact Uu h27 hlen1
     ·refine zN hg6 (WW.alloc _) (fun g hg x=> ?_);simp only [Value.ownBlock,jv] at hg x
      have:=uh JB g6 (by rw [e6];rfl)
      omega
    ·exact zN hg6 (WW.alloc _) (fun g hg x=>by cases x)
   have o1: ∀ g,(Value.slice (some ⟨g3,0,none⟩) (L.length+1) cap3).ownBlock=some g→(Value.slice la L.length jq).ownBlock=some g∨w.heap.size≤g:=fun g hg=>by
    simp only [Value.ownBlock,jv] at hg;subst hg;rcases uh Hg3 with e3 | e3
    ·exact aA (by rw [e3];rfl)
    ·exact ay e3
   have o2: ∀ g,(Value.slice (some ⟨g6,0,none⟩) (L.length+2) cap6).ownBlock=some g→(Value.slice la L.length jq).ownBlock=some g∨w.heap.size≤g:=fun g hg=>by
    simp only [Value.ownBlock,jv] at hg;subst hg;rcases Fj with ⟨e6,_⟩ | ⟨e6,_⟩
    ·exact aA (by rw [e6];rfl)
    ·exact ay (by have:=HK5.size;omega)
   have hK6:=(HK5.alloc (.cells (cv (dR m)++cv (dR m)).toArray 38)).trans ((CZ Fj).mono (T:=fun k=>S k∨(Value.slice la L.length jq).ownBlock=some k) (fun k hk=>ay hk));have E:=ah (arz B6 hl6 h16 h26 o1 o2 hK6 Fp Qa P5 Dk Ej GR b8);clear TM hl6 h26 WW h16 o1 o2 hK6
   go_end0
   exact ⟨rfl,uh E⟩
end
section
theorem atm (D:List iU) (hD: ∀ x ∈ D,x.data.length=64) (k:Nat) (hk:k<D.length) (c:iU) (hc:c.data.length=64):lU (iY D).toArray (k*65) (bM c)=(iY (D.set k c)).toArray:=by
 have hl:=Nw D hD;have hD': ∀ x ∈ D.set k c,x.data.length=64:=by
  intro x hx;rcases MR hx with h | h
  ·exact hD x h
  ·rw [h];exact hc
 have hl':=Nw (D.set k c) hD';rw [rG] at hl';have hcl:=uF hc;apply Io;intro i;rw [DC (bM c) _ _ i (by rw [hcl];simp;omega),hcl,bW,bW]
 by_cases hi:i<D.length*65
 ·have e:i=(i / 65)*65+i%65:=om;have hq:i / 65<D.length:=om;rw [e,aa7 (D.set k c) hD' (i / 65) (by simpa using hq) (i%65) om,aa7 D hD (i / 65) hq (i%65) om];unfold CG;simp only [aK,uf]
  by_cases h2:k=i / 65
  ·rw [au h2,au om,au om];simp only [KR]
   congr 1
   omega
  ·rw [ak h2,ak om]
 ·rw [ak om,eu om,eu om]
theorem avh {w:World} {base g cap:Nat} {L:List iU} (h:w.ownsRow base 104 65 (.slice (some ⟨g,0,none⟩) L.length cap) L.length (iY L)) (hl: ∀ c ∈ L,c.data.length=64) (k:Nat) (hk:k<L.length) (c:iU) (hc:c.data.length=64):
  (w.setCells g (k*65) (bM c)).ownsRow base 104 65 (.slice (some ⟨g,0,none⟩) L.length cap) (L.set k c).length (iY (L.set k c)):=by
 have hl': ∀ x ∈ L.set k c,x.data.length=64:=by
  intro x hx;rcases MR hx with y | y
  ·exact hl x y
  ·rw [y];exact hc
 have hcl:=uF hc;refine ⟨Nw _ hl',?_⟩;rcases h.2 with ⟨e,_⟩ | ⟨g',cap',cur,e,hb,hh,hn,hm,hs,ht⟩
 ·cases e
 ·obtain ⟨rfl,rfl⟩:g'=g∧cap'=cap:=by injection e with x1 _ x3;injection x1 with x1;injection x1 with x1;exact ⟨x1.symm,x3.symm⟩
  refine ay ⟨g',cap',lU cur (k*65) (bM c),sm,hb,JY _ _ _ _ _ _ _ hh,by simpa using hn,hm,by rw [Yq];exact hs,?_⟩;have hfl:=Nw L hl;have e2:=atm L hl k hk c hc;refine uH fun i=> ?_;rw [rG]
  by_cases hi:i<L.length*65
  ·rw [Jp,au hi,Zc,DC _ _ _ _ (by rw [hcl,hs];have:=OJ 65 hn;omega)];have e3:(lU (iY L).toArray (k*65) (bM c))[i]? = (iY (L.set k c)).toArray[i]? := by rw [e2]
   rw [DC _ _ _ _ (by rw [hcl];simp;omega),bW,bW] at e3;rw [← e3];have e4:cur[i]? = (iY L)[i]? := by rw [← ht,Jp,au hi,Zc]
   rw [e4]
  ·have IK:=Nw _ hl';rw [rG] at IK;rw [eu (by rw [xu];omega),eu om]
theorem avi {w:World} {base g cap:Nat} {L:List iU} (h:w.ownsRow base 104 65 (.slice (some ⟨g,0,none⟩) L.length cap) L.length (iY L)) (k:Nat) (hk:k<L.length):w.there g (k*65) 65:=by
 rcases h.2 with ⟨e,_⟩ | ⟨g',cap',cur,e,hb,hh,hn,hm,hs,ht⟩
 ·cases e
 ·obtain ⟨rfl,rfl⟩:g'=g∧cap'=cap:=by injection e with x1 _ x3;injection x1 with x1;injection x1 with x1;exact ⟨x1.symm,x3.symm⟩
  exact iI hh _ _ (by rw [hs];have:=OJ 65 hn;omega)
theorem nI {w:World} {b o:Nat} {x:iU} (ht:w.there b o 65) (hc:x.data.length=64):(UG ⟨b,o,none⟩ (.agg (bM x).toArray)).run Tryz.prog w= .ok () (w.setCells b o (bM x)):=by
 have:=FX (P:=Tryz.prog) w b o 104 (bM x).toArray (by simpa [uF hc] using ht) (by simp only [iR,uF hc];kernel_rfl) (vg (OE x))
 simpa [UG] using this
def bWr (parts:Array (Nat × Value)):Sem Value:=Instr.build 104 parts
theorem lZ (parts:Array (Nat × Value)):Instr.build 104 parts=bWr parts:=rfl
theorem mD (n:Int) (w:World):(bWr #[(0,.int .i64 n)]).run Tryz.prog w= .ok (.agg (bM ⟨n,zc⟩).toArray) w:=by
 have hz:=(uI (P:=Tryz.prog) (t:=104) (v:= .agg (bM ⟨0,zc⟩).toArray) (n:=65) kr).1;have hf:Instr.fill (fun x=>(#[(0,1),(1,64)]:Array (Nat × Nat))[x]?) ([Value.int .i64 0]++cv zc).toArray [(0,Value.int .i64 n)]=some (bM ⟨n,zc⟩).toArray:=by
  rw [JR _ _ 0 0 1 (.int .i64 n) [] (by rfl) (by rfl) sm,Instr.fill,show (Value.int .i64 n).cells.toList=[Value.int .i64 n] from rfl,Oo [Value.int .i64 0] (cv zc) [Value.int .i64 n] rfl];rfl
 exact KF w 104 _ (.agg (bM ⟨0,zc⟩).toArray) #[(0,1),(1,64)] #[(0,.int .i64 n)] _ Tryz.underlying104 hz (fun w=>kr) hf
def afn (parts:Array (Nat × Value)):Sem Value:=Instr.buildSlice 58 1 parts
theorem ny (parts:Array (Nat × Value)):Instr.buildSlice 58 1 parts=afn parts:=rfl
theorem nH {w:World} {x:iU} (hc:x.data.length=64):(afn #[(0,.agg (bM x).toArray)]).run Tryz.prog w= .ok (.slice (some ⟨w.heap.size,0,none⟩) 1 1) (w.alloc (.cells (bM x).toArray 104)):=
 Ux w 58 104 65 (.agg (bM ⟨0,zc⟩).toArray) (.agg (bM x).toArray) Tryz.underlying58 kr om om (by simp [Value.cells,uF hc])
def afo (parts:Array (Nat × Value)):Sem Value:=Instr.buildSlice 58 2 parts
theorem am2 (parts:Array (Nat × Value)):Instr.buildSlice 58 2 parts=afo parts:=rfl
theorem asY {w:World} {x y:iU} (hc:x.data.length=64) (hd:y.data.length=64):(afo #[(0,.agg (bM x).toArray),(1,.agg (bM y).toArray)]).run Tryz.prog w= .ok (.slice (some ⟨w.heap.size,0,none⟩) 2 2) (w.alloc (.cells (bM x++bM y).toArray 104)):=
 acS w 58 104 65 (.agg (bM ⟨0,zc⟩).toArray) (.agg (bM x).toArray) (.agg (bM y).toArray) Tryz.underlying58 kr om om (by simp [Value.cells,uF hc]) (by simp [Value.cells,uF hd])
theorem Tryz.Qd:(Tryz.prog.info? 104).map (fun i=>(i.zero,i.size,i.bytes))=some (some (.agg (bM ⟨0,zc⟩).toArray),65,72):=kr
theorem Tryz.apH:(Tryz.prog.info? 58).map (fun i=>(i.zero,i.size,i.bytes))=some (some (.slice none 0 0),1,24):=kr
theorem Tryz.ahO:(Tryz.prog.info? 3).map (fun i=>(i.zero,i.size,i.bytes))=some (some (.int .i64 0),1,8):=kr
theorem aa8 (l:List iU) (x:iU):iY (l++[x])=iY l++bM x:=by simp [iY]
structure aB where
 C:List aj
 L:List iU
 loose:Bool
 short:Bool
def OB (Cv Lv:Value) (V:aB):List Value:=[Cv,Lv,.bool V.loose,.bool V.short]
structure aN (w:World) (v:Nat) (Cv Lv:Value) (V:aB):Prop where
 aF:w.heap[v]? = some (.cells (OB Cv Lv V).toArray 121 (0,0))
 jA:w.ownsRow 0 38 64 Cv V.C.length (aQ V.C)
 fF:w.ownsRow 0 104 65 Lv V.L.length (iY V.L)
 kE: ∀ c ∈ V.C,c.length=64
 zT: ∀ x ∈ V.L,x.data.length=64
 sh:V.short=true→0<V.C.length
def eX (v:Nat) (Cv Lv:Value) (k:Nat):Prop:=k=v∨Cv.ownBlock=some k∨Lv.ownBlock=some k
section
variable {w w':World} {v:Nat} {Cv Lv:Value} {V:aB}
theorem aN.c0 (h:aN w v Cv Lv V):w.cell? ⟨v,0,none⟩=some Cv:=by rw [aG h.aF];rfl
theorem aN.c1 (h:aN w v Cv Lv V):w.cell? ⟨v,1,none⟩=some Lv:=by rw [aG h.aF];rfl
theorem aN.c2 (h:aN w v Cv Lv V):w.cell? ⟨v,2,none⟩=some (.bool V.loose):=by rw [aG h.aF];rfl
theorem aN.c3 (h:aN w v Cv Lv V):w.cell? ⟨v,3,none⟩=some (.bool V.short):=by rw [aG h.aF];rfl
theorem aN.fz (h:aN w v Cv Lv V) (i:Nat):w.frozen? ⟨v,i,none⟩=false:=eG h.aF i
theorem aN.lt (h:aN w v Cv Lv V):v<w.heap.size:=aO h.aF
theorem aN.Ql (h:aN w v Cv Lv V): ∀ g,Cv.ownBlock=some g→g≠v:=iw h.jA h.aF dc
theorem aN.FH (h:aN w v Cv Lv V): ∀ g,Lv.ownBlock=some g→g≠v:=iw h.fF h.aF dc
theorem aN.ab8 (h:aN w v Cv Lv V): ∀ g,Lv.ownBlock=some g→Cv.ownBlock≠some g:=by
 intro g hg hl;rcases h.jA.2 with ⟨rfl,_⟩ | ⟨g',cap,cur,rfl,_,hh,_⟩
 ·cases hl
 ·simp only [Value.ownBlock,jv] at hl;subst hl;exact iw h.fF hh dc _ hg rfl
theorem aN.qG (h:aN w v Cv Lv V): ∀ k,eX v Cv Lv k→k<w.heap.size:=by
 rintro k (rfl | hk | hk)
 ·exact h.lt
 ·exact (h.jA.lt k hk).2
 ·exact (h.fF.lt k hk).2
theorem aN.kept {S:Nat→Prop} (h:aN w v Cv Lv V) (hk:Kept S w w') (hs: ∀ k,eX v Cv Lv k→ ¬ S k):aN w' v Cv Lv V:=
 ⟨hk.aF (hs v (aA rfl)) h.aF,bQ hk h.jA (fun g hg=>hs g (ay (aA hg))),bQ hk h.fF (fun g hg=>hs g (ay (ay hg))),h.kE,h.zT,h.sh⟩
theorem aN.below (h:aN w v Cv Lv V) (hb:aC w w'):aN w' v Cv Lv V:=h.kept (S:=fun _=>False) (Kept.dS hb) (fun _ _=>id)
theorem aN.drew (h:aN w v Cv Lv V):aN w.drew v Cv Lv V:=h.kept (S:=fun _=>False) ((Kept.refl _ _).drew) (fun _ _=>id)
theorem aN.drewN (h:aN w v Cv Lv V) (n:Nat):aN (w.drewN n) v Cv Lv V:=h.kept (S:=fun _=>False) ((Kept.refl _ _).drewN n) (fun _ _=>id)
theorem aN.alloc (h:aN w v Cv Lv V) (o:Obj):aN (w.alloc o) v Cv Lv V:=h.below (fC)
end
structure bZ (w w':World) (v:Nat) (Cv Lv qB qC:Value) (V':aB):Prop where
 at':aN w' v qB qC V'
 kept:Kept (eX v Cv Lv) w w'
 new: ∀ k,eX v qB qC k→eX v Cv Lv k∨w.heap.size≤k
section
variable {w w1 w2:World} {v:Nat} {Cv Lv C1 L1 C2 L2:Value} {V V1 V2:aB}
theorem bZ.refl (h:aN w v Cv Lv V):bZ w w v Cv Lv Cv Lv V:=⟨h,Kept.refl _ _,fun _ hk=>aA hk⟩
theorem bZ.trans (h:bZ w w1 v Cv Lv C1 L1 V1) (k:bZ w1 w2 v C1 L1 C2 L2 V2):bZ w w2 v Cv Lv C2 L2 V2:=
 ⟨k.at',⟨k.kept.os.trans h.kept.os,k.kept.tape.trans h.kept.tape,k.kept.output.trans h.kept.output,jZ h.kept.size k.kept.size,fun i hi hs=>by
  rw [k.kept.block i (iZ hi h.kept.size) (fun hf=>(h.new i hf).elim hs om)];exact h.kept.block i hi hs⟩,fun i hi=>(k.new i hi).elim (h.new i) (fun hle=>ay (jZ h.kept.size hle))⟩
theorem bZ.later (h:bZ w w1 v Cv Lv C1 L1 V1) (hb:aC w1 w2):bZ w w2 v Cv Lv C1 L1 V1:=
 ⟨h.at'.below hb,h.kept.trans (Kept.dS hb),h.new⟩
theorem bZ.drew (h:bZ w w1 v Cv Lv C1 L1 V1):bZ w w1.drew v Cv Lv C1 L1 V1:=⟨h.at'.drew,h.kept.drew,h.new⟩
theorem bZ.drewN (h:bZ w w1 v Cv Lv C1 L1 V1) (n:Nat):bZ w (w1.drewN n) v Cv Lv C1 L1 V1:=⟨h.at'.drewN n,h.kept.drewN n,h.new⟩
theorem bZ.alloc (h:bZ w w1 v Cv Lv C1 L1 V1) (o:Obj):bZ w (w1.alloc o) v Cv Lv C1 L1 V1:=h.later (fC)
theorem bZ.own (h:bZ w w1 v Cv Lv C1 L1 V1) {S:Nat→Prop} (hk:Kept S w1 w2) (hs: ∀ k,S k→w.heap.size≤k∧ ¬ eX v C1 L1 k):bZ w w2 v Cv Lv C1 L1 V1:=
 ⟨h.at'.kept hk (fun k hf hS=>(hs k hS).2 hf),⟨hk.os.trans h.kept.os,hk.tape.trans h.kept.tape,hk.output.trans h.kept.output,jZ h.kept.size hk.size,fun i hi hf=>by
  rw [hk.block i (iZ hi h.kept.size) (fun hS=>by have:=(hs i hS).1;omega)];exact h.kept.block i hi hf⟩,h.new⟩
end
structure Env (w w':World) (v:Nat) (Cv Lv qB qC:Value) (V':aB) (bs:List (Nat × Obj)):Prop where
 step:bZ w w' v Cv Lv qB qC V'
 qg: ∀ x ∈ bs,w'.heap[x.1]? = some x.2∧w.heap.size≤x.1∧ ¬ eX v qB qC x.1
section
variable {w w1 w2:World} {v:Nat} {Cv Lv C1 L1 C2 L2:Value} {V V1 V2:aB} {bs:List (Nat × Obj)}
theorem Env.start (h:aN w v Cv Lv V):Env w w v Cv Lv Cv Lv V []:=⟨bZ.refl h,fun _ hx=>by simp at hx⟩
theorem Env.fQ (h:Env w w1 v Cv Lv C1 L1 V1 bs) (k:bZ w1 w2 v C1 L1 C2 L2 V2):Env w w2 v Cv Lv C2 L2 V2 bs:=
 ⟨h.step.trans k,fun x hx=>by
  obtain ⟨h1,h2,h3⟩:=h.qg x hx;exact ⟨(k.kept.block x.1 (aO h1) h3).trans h1,h2,fun hf=>(k.new x.1 hf).elim h3 (by have:=aO h1;omega)⟩⟩
theorem Env.later (h:Env w w1 v Cv Lv C1 L1 V1 bs) (hb:aC w1 w2):Env w w2 v Cv Lv C1 L1 V1 bs:=
 ⟨h.step.later hb,fun x hx=>by obtain ⟨h1,h2,h3⟩:=h.qg x hx;exact ⟨(hb.block _ (aO h1)).trans h1,h2,h3⟩⟩
theorem Env.drew (h:Env w w1 v Cv Lv C1 L1 V1 bs):Env w w1.drew v Cv Lv C1 L1 V1 bs:=⟨h.step.drew,h.qg⟩
theorem Env.drewN (h:Env w w1 v Cv Lv C1 L1 V1 bs) (n:Nat):Env w (w1.drewN n) v Cv Lv C1 L1 V1 bs:=⟨h.step.drewN n,h.qg⟩
theorem Env.lay (h:Env w w1 v Cv Lv C1 L1 V1 bs) (o:Obj):Env w (w1.alloc o) v Cv Lv C1 L1 V1 ((w1.heap.size,o) :: bs):=
 ⟨h.step.alloc o,fun x hx=>by
  rcases dD.1 hx with rfl | hx
  ·exact ⟨aW w1 o,h.step.kept.size,fun hf=>by have:=h.step.at'.qG _ hf;omega⟩
  ·obtain ⟨h1,h2,h3⟩:=h.qg x hx;exact ⟨(jE _ _ _ (aO h1)).trans h1,h2,h3⟩⟩
theorem Env.alloc (h:Env w w1 v Cv Lv C1 L1 V1 bs) (o:Obj):Env w (w1.alloc o) v Cv Lv C1 L1 V1 bs:=h.later (fC)
theorem Env.sub {cs:List (Nat × Obj)} (h:Env w w1 v Cv Lv C1 L1 V1 bs) (hs: ∀ x ∈ cs,x ∈ bs):Env w w1 v Cv Lv C1 L1 V1 cs:=⟨h.step,fun x hx=>h.qg x (hs x hx)⟩
theorem Env.put {b:Nat} {o o':Obj} (h:Env w w1 v Cv Lv C1 L1 V1 ((b,o) :: bs)) (hne: ∀ x ∈ bs,x.1≠b) (hk:Kept (fun x=>x=b) w1 w2) (ho:w2.heap[b]? = some o'):Env w w2 v Cv Lv C1 L1 V1 ((b,o') :: bs):=by
 obtain ⟨h1,h2,h3⟩:=h.qg (b,o) sm;refine ⟨h.step.own hk (by rintro k rfl;exact ⟨h2,h3⟩),fun x hx=> ?_⟩;rcases dD.1 hx with rfl | hx
 ·exact ⟨ho,h2,h3⟩
 ·obtain ⟨y1,y2,y3⟩:=h.qg x (by simp [hx]);exact ⟨hk.aF (hne x hx) y1,y2,y3⟩
theorem Env.at' (h:Env w w1 v Cv Lv C1 L1 V1 bs):aN w1 v C1 L1 V1:=h.step.at'
theorem Env.o0 {b:Nat} {o:Obj} (h:Env w w1 v Cv Lv C1 L1 V1 ((b,o) :: bs)):w1.heap[b]? = some o:=(h.qg (b,o) sm).1
theorem Env.o1 {a b:Nat} {p o:Obj} (h:Env w w1 v Cv Lv C1 L1 V1 ((a,p) :: (b,o) :: bs)):w1.heap[b]? = some o:=(h.qg (b,o) sm).1
theorem Env.o2 {a b c:Nat} {p q o:Obj} (h:Env w w1 v Cv Lv C1 L1 V1 ((a,p) :: (c,q) :: (b,o) :: bs)):w1.heap[b]? = some o:=(h.qg (b,o) sm).1
end
end
end Go.Proofs.YtknjjjenklfeoaaGreatDoor
