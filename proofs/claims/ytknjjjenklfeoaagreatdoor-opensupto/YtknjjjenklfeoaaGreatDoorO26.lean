import Derived.Test.YtknjjjenklfeoaaGreatDoorO09
set_option maxHeartbeats 8000000
set_option maxRecDepth 100000
set_option linter.all false
namespace Go.Proofs.YtknjjjenklfeoaaGreatDoor
open Go.RowKit
attribute [local go_sem ↓] kT mQ mW lZ ny am2
attribute [local go_sem] kY nI mO lT mD nH asY aV
def Fz (L:List iU) (m:Int) (k:Nat):List iU:=List.replicate k ⟨m,zc⟩++L.drop k
theorem aiy (L:List iU) (m:Int) (k:Nat) (h:k≤L.length):(Fz L m k).length=L.length:=by simp [Fz];omega
theorem aqk {L:List iU} (hl: ∀ c ∈ L,c.data.length=64) (m:Int) (k:Nat): ∀ c ∈ Fz L m k,c.data.length=64:=by
 intro c hc;rcases gq.1 hc with h | h
 ·rw [KT h];exact aV
 ·exact hl c (List.mem_of_mem_drop h)
theorem aql (L:List iU) (m:Int) (k:Nat) (h:k<L.length):(Fz L m k).set k ⟨m,zc⟩=Fz L m (k+1):=by
 unfold Fz;rw [Jv _ _ sm,zy,Bf,KO h,nK,KP,uG];rfl
theorem Ya (N:Nat) (c:iU):iY (List.replicate N c)++bM c=iY (List.replicate (N+1) c):=by rw [KP,aa8]
theorem IU {w W:World} {b:Nat} {V:ou} {B:lX} {S:Nat→Prop} (h:iK w b V B S) (hk:Kept (fun k=>k=b∨V.w.ownBlock=some k∨V.wm.ownBlock=some k) w W) {base:Nat} {e:TypeId} {size:Nat} {v:Value} {n:Nat} {xs:List Value}
  (hr:w.ownsRow base e size v n xs) (h1:e≠77) (h2:e≠58) (h3:e≠3):W.ownsRow base e size v n xs:=
 bQ hk hr fun g hg x=>by
  rcases x with x | x | x
  ·exact iw hr h.aF h1 g hg x
  ·exact xW hr h.rW h2 g hg x
  ·exact xW hr h.wZ h3 g hg x
theorem arB {w w6 w7 w8:World} {b:Nat} {V:ou} {B:lX} {S:Nat→Prop} {lv one two:Value} {N g7 ji g8 kR:Nat} {m:Int} {X7 X8:Obj}
  (h:iK w6 b V B S) (hl:w6.ownsRow 0 104 65 lv N (iY (List.replicate N ⟨m,zc⟩))) (h1:w6.ownsRow 0 104 65 one (N+1) (iY (List.replicate (N+1) ⟨m,zc⟩))) (h2:w6.ownsRow 0 104 65 two (N+2) (iY (List.replicate (N+2) ⟨m,zc⟩)))
  (o1: ∀ g,one.ownBlock=some g→lv.ownBlock=some g∨w.heap.size≤g) (o2: ∀ g,two.ownBlock=some g→lv.ownBlock=some g∨w.heap.size≤g)
  (hK:Kept (fun k=>S k∨lv.ownBlock=some k) w w6)
  (hg7:(w6.alloc X7).grownBy w7 V.w.ownBlock) (r7:w7.ownsRow 0 58 1 (.slice (some ⟨g7,0,none⟩) (B.writes.length+3) ji) (B.writes.length+3) (B.writes.map (·.v)++[lv,one,two])) (a7:V.w.ownBlock=some g7∨g7=w6.heap.size+1)
  (hg8:((w7.setCell ⟨b,4,none⟩ (.slice (some ⟨g7,0,none⟩) (B.writes.length+3) ji)).alloc X8).grownBy w8 V.wm.ownBlock)
  (r8:w8.ownsRow 0 3 1 (.slice (some ⟨g8,0,none⟩) (B.writes.length+3) kR) (B.writes.length+3) ((B.writes.map fun x=> .int .i64 x.m)++[.int .i64 m,.int .i64 m,.int .i64 m])) (a8:V.wm.ownBlock=some g8∨g8=w7.heap.size+1)
  (b8:w8.heap[b]? = some (.cells (yw { V with w:= .slice (some ⟨g7,0,none⟩) (B.writes.length+3) ji } B.next).toArray 77 (0,0))):
  ∃ V' B' S',iK (w8.setCell ⟨b,5,none⟩ (.slice (some ⟨g8,0,none⟩) (B.writes.length+3) kR)) b V' B' S'∧B'.next=B.next∧B'.writes.length=B.writes.length+3∧B'.files=B.files∧B'.names=B.names∧(∀ x ∈ B'.writes,x ∈ B.writes∨x.n≤N+2)∧
   Kept (fun k=>S k∨lv.ownBlock=some k) w (w8.setCell ⟨b,5,none⟩ (.slice (some ⟨g8,0,none⟩) (B.writes.length+3) kR))∧(∀ k,S' k→S k∨lv.ownBlock=some k∨w.heap.size≤k):=by
 have KA:Kept (fun k=>k=b∨V.w.ownBlock=some k∨V.wm.ownBlock=some k) w6 (w7.setCell ⟨b,4,none⟩ (.slice (some ⟨g7,0,none⟩) (B.writes.length+3) ji)):=
  Kept.setCell (S:=fun k=>k=b∨V.w.ownBlock=some k∨V.wm.ownBlock=some k) (((Kept.refl _ _).alloc X7).grown hg7 (fun g hg=>aA (ay (aA hg)))) (p:=⟨b,4,none⟩) (aA (aA rfl)) _
 have KB:Kept (fun k=>k=b∨V.w.ownBlock=some k∨V.wm.ownBlock=some k) (w7.setCell ⟨b,4,none⟩ (.slice (some ⟨g7,0,none⟩) (B.writes.length+3) ji)) (w8.setCell ⟨b,5,none⟩ (.slice (some ⟨g8,0,none⟩) (B.writes.length+3) kR)):=
  Kept.setCell (S:=fun k=>k=b∨V.w.ownBlock=some k∨V.wm.ownBlock=some k) (((Kept.refl _ _).alloc X8).grown hg8 (fun g hg=>aA (ay (ay hg)))) (p:=⟨b,5,none⟩) (aA (aA rfl)) _
 have oL:=KA.trans KB;have hb7:w7.heap[b]? = some (.cells (yw V B.next).toArray 77 (0,0)):=qH hg7 ((jE _ _ _ h.lt').trans h.aF) (iw h.rW h.aF dc);have s1:=hK.size;have s2:=KA.size;have s3:=KB.size;have s7:=size_setCell w7 ⟨b,4,none⟩ (.slice (some ⟨g7,0,none⟩) (B.writes.length+3) ji);have TB:(w7.setCell ⟨b,4,none⟩ (.slice (some ⟨g7,0,none⟩) (B.writes.length+3) ji)).ownsRow 0 3 1 V.wm B.writes.length (B.writes.map fun x=> .int .i64 x.m):=
  bQ (Kept.only w7 b 4 _) (zN hg7 (h.wZ.alloc X7) (xW h.wZ h.rW dc)) (iw h.wZ h.aF dc)
 have r7':(w7.setCell ⟨b,4,none⟩ (.slice (some ⟨g7,0,none⟩) (B.writes.length+3) ji)).ownsRow 0 58 1 (.slice (some ⟨g7,0,none⟩) (B.writes.length+3) ji) (B.writes.length+3) (B.writes.map (·.v)++[lv,one,two]):=
  bQ (Kept.only w7 b 4 _) r7 (iw r7 hb7 dc)
 have Ib:w8.ownsRow 0 58 1 (.slice (some ⟨g7,0,none⟩) (B.writes.length+3) ji) (B.writes.length+3) (B.writes.map (·.v)++[lv,one,two]):=
  zN hg8 (r7'.alloc X8) (xW r7' TB dc)
 refine ⟨{ V with w:= .slice (some ⟨g7,0,none⟩) (B.writes.length+3) ji,wm:= .slice (some ⟨g8,0,none⟩) (B.writes.length+3) kR },{ B with writes:=B.writes++[⟨lv,N,m⟩,⟨one,N+1,m⟩,⟨two,N+2,m⟩] },
  fun k=>S k∨lv.ownBlock=some k∨(w.heap.size≤k∧k<(w8.setCell ⟨b,5,none⟩ (.slice (some ⟨g8,0,none⟩) (B.writes.length+3) kR)).heap.size),?_,rfl,sm,rfl,rfl,fun x hx=>aiN (f:=VG.n) hx sm sm sm,?_,fun k hk=>by rcases hk with x | x | x;exact aA x;exact ay (aA x);exact ay (ay x.1)⟩
 ·exact {
   aF:=by rw [heap_setCell_same _ _ _ _ _ _ _ b8];rfl
   rN:=IU h oL h.rN dc dc dc
   uw:=IU h oL h.uw dc dc dc
   rW:=by
    have:=bQ (Kept.only w8 b 5 (.slice (some ⟨g8,0,none⟩) (B.writes.length+3) kR)) Ib (iw Ib b8 dc)
    simpa using this
   wZ:=by
    have:=bQ (Kept.only w8 b 5 (.slice (some ⟨g8,0,none⟩) (B.writes.length+3) kR)) r8 (iw r8 b8 dc)
    simpa using this
   rF:=IU h oL h.rF dc dc dc
   wY:=IU h oL h.wY dc dc dc
   eN:=fun x hx=>IU h oL (h.eN x hx) dc dc dc
   eW:=fun x hx=>by
    rcases gq.1 hx with y | y
    ·exact IU h oL (h.eW x y) dc dc dc
    ·simp only [dD,jM,jO] at y;rcases y with rfl | rfl | rfl
     ·exact IU h oL hl dc dc dc
     ·exact IU h oL h1 dc dc dc
     ·exact IU h oL h2 dc dc dc
   eF:=fun x hx=>IU h oL (h.eF x hx) dc dc dc
   apart:=h.apart
   zO:=aA h.zO
   iC:=fun g hg=>by
    have q8:=(r8.lt g8 rfl).2;have q7:=(Ib.lt g7 rfl).2;rcases hg with x | x | x | x | x | x
    ·exact aA (h.iC g (aA x))
    ·exact aA (h.iC g (ay (aA x)))
    ·exact aA (h.iC g (ay (ay (aA x))))
    ·exact aA (h.iC g (ay (ay (ay (aA x)))))
    ·simp only [Value.ownBlock,jv] at x;subst x;rcases a7 with y | y
     ·exact aA (h.iC _ (ay (ay (ay (ay (aA y))))))
     ·exact ay (ay ⟨om,by rw [size_setCell];exact q7⟩)
    ·simp only [Value.ownBlock,jv] at x;subst x;rcases a8 with y | y
     ·exact aA (h.iC _ (ay (ay (ay (ay (ay y))))))
     ·exact ay (ay ⟨om,by rw [size_setCell];exact q8⟩)
   GX:=fun x hx g hg=>aA (h.GX x hx g hg)
   GY:=fun x hx g hg=>by
    rcases gq.1 hx with y | y
    ·exact aA (h.GY x y g hg)
    ·simp only [dD,jM,jO] at y;rcases y with rfl | rfl | rfl
     ·exact ay (aA hg)
     ·rcases o1 g hg with z | z
      ·exact ay (aA z)
      ·exact ay (ay ⟨z,by have:=(h1.lt g hg).2;omega⟩)
     ·rcases o2 g hg with z | z
      ·exact ay (aA z)
      ·exact ay (ay ⟨z,by have:=(h2.lt g hg).2;omega⟩)
   GV:=fun x hx g hg=>aA (h.GV x hx g hg)
   lt:=fun k hk=>by
    rcases hk with x | x | x
    ·have:=h.lt k x;omega
    ·have:=(hl.lt k x).2;omega
    ·exact x.2 }
 ·refine hK.trans (oL.mono fun k hk=> ?_);rcases hk with rfl | x | x
  ·exact aA h.zO
  ·exact aA (h.iC k (ay (ay (ay (ay (aA x))))))
  ·exact aA (h.iC k (ay (ay (ay (ay (ay x))))))
theorem arA (w:World) (b:Nat) (V:ou) (B:lX) (S:Nat→Prop) (lv:Value) (L:List iU) (h:iK w b V B S) (hl:w.ownsRow 0 104 65 lv L.length (iY L)) (hls: ∀ c ∈ L,c.data.length=64)
  (hne: ∀ g,lv.ownBlock=some g→ ¬ S g) (hnx:B.next≤1000000000) (hfl:B.writes.length≤10000000000) (hL:L.length≤1000000000):
  Calls Tryz.prog 131 #[.pointer (some ⟨b,0,none⟩),lv] w fun e w'=>e= .returned (.tuple #[])∧
   ∃ V' B' S',iK w' b V' B' S'∧B'.next=B.next+1∧B'.writes.length=B.writes.length+3∧B'.files=B.files∧B'.names=B.names∧(∀ x ∈ B'.writes,x ∈ B.writes∨x.n≤L.length+2)∧
    Kept (fun k=>S k∨lv.ownBlock=some k) w w'∧(∀ k,S' k→S k∨lv.ownBlock=some k∨w.heap.size≤k):=by
 have c6:=h.cell 6;rw [show (yw V B.next)[6]? = some (.int .i64 (B.next:Int)) from rfl] at c6;have z6:=eG h.aF 6;have h1:=h.ac0 (B.next+1);have hni:(B.next:Int)≤1000000000:=om;rw [show ((B.next+1:Nat):Int)=(B.next:Int)+1 by omega] at h1;have d6:(w.setCell ⟨b,6,none⟩ (.int .i64 ((B.next:Int)+1))).cell? ⟨b,6,none⟩=some (.int .i64 ((B.next:Int)+1)):=by
  rw [h1.cell 6];show some (Value.int .i64 ((B.next+1:Nat):Int))=_;rw [show ((B.next+1:Nat):Int)=(B.next:Int)+1 by omega]
 have hss:=size_setCell w ⟨b,6,none⟩ (.int .i64 ((B.next:Int)+1));have hst: ∀ (x z:iU),x.data.length=64→z.data.length=64→(UG ⟨w.heap.size,0,none⟩ (.agg (bM x).toArray)).run Tryz.prog ((w.setCell ⟨b,6,none⟩ (.int .i64 ((B.next:Int)+1))).alloc (.cells (bM z).toArray 104))= .ok () ((w.setCell ⟨b,6,none⟩ (.int .i64 ((B.next:Int)+1))).alloc (.cells (bM x).toArray 104)):=fun x z hx hz=>by
  have:=lT (w:=w.setCell ⟨b,6,none⟩ (.int .i64 ((B.next:Int)+1))) hz hx
  rwa [hss] at this
 have VD:=ah hss;clear hss
 go_enter Tryz.func131,Tryz.ntmps131
 go_wp2;have hm: ∃ m:Int,-((B.next:Int)+1)=m:=⟨_,rfl⟩;obtain ⟨m,hm⟩:=hm;rw [hm];have Hm:=ah hm;have hbx0:((w.setCell ⟨b,6,none⟩ (.int .i64 ((B.next:Int)+1))).alloc (.cells (bM ⟨m,zc⟩).toArray 104)).heap[w.heap.size]? = some (.cells (bM ⟨m,zc⟩).toArray 104 (0,0)):=by
  have:=aW (w.setCell ⟨b,6,none⟩ (.int .i64 ((B.next:Int)+1))) (.cells (bM ⟨m,zc⟩).toArray 104)
  rwa [uh VD] at this
 have HK0:=ah (((Kept.only w b 6 (.int .i64 ((B.next:Int)+1))).mono (T:=fun k=>S k∨lv.ownBlock=some k) (fun k hk=>aA (by rw [hk];exact h.zO))).alloc (.cells (bM ⟨m,zc⟩).toArray 104));have Hl0:=ah ((bQ (Kept.only w b 6 (.int .i64 ((B.next:Int)+1))) hl (iw hl h.aF dc)).alloc (.cells (bM ⟨m,zc⟩).toArray 104));have HB0:=ah (h1.below ((bG _ _).alloc (aP _) (.cells (bM ⟨m,zc⟩).toArray 104)));have aev:=ah hbx0;have hlt0: ∀ g,lv.ownBlock=some g→g<w.heap.size:=fun g hg=>(hl.lt g hg).2;have JB:=ah hlt0;have uj:=ah hne;have HS:=ah h.lt;obtain ⟨la,jq,hlv⟩:=iq hl;subst hlv;clear c6 z6 d6 hm h1 h hl hlt0 hne hst hbx0 VD;generalize (w.setCell ⟨b,6,none⟩ (.int .i64 ((B.next:Int)+1))).alloc (.cells (bM ⟨m,zc⟩).toArray 104)=W at*;have hxl:(iU.mk m zc).data.length=64:=aV;have Qc:=uF hxl
 go_loopw [5] (fun i w'=> ∃ k:Nat,k≤L.length∧i= .int .i64 k∧w'.ownsRow 0 104 65 (.slice la L.length jq) L.length (iY (Fz L m k))∧iK w' b V { B with next:=B.next+1 } S∧Kept (fun k=>S k∨(Value.slice la L.length jq).ownBlock=some k) w w'∧w'.heap[w.heap.size]? = some (.cells (bM ⟨m,zc⟩).toArray 104 (0,0))) (fun i _=>L.length - (intOf i).toNat)
 case atStart=>exact ⟨0,om,rfl,uh Hl0,uh HB0,uh HK0,uh aev⟩
 case round=>
  obtain ⟨k,hk,rfl,hrow,hbk,hkp,hbx⟩:=hrel;clear Hl0 HB0 HK0 aev;have l1:=sV (n:=65) (Me hbx) Qc;have l2:=qX (n:=65) (Me hbx) Qc
  by_cases hlt:k<L.length
  ·obtain ⟨g,cap2,e2,_⟩:=gB hrow om;obtain ⟨rfl,rfl⟩:la=some ⟨g,0,none⟩∧jq=cap2:=by injection e2 with x1 x2 x3;exact ⟨x1,x3⟩
   have hki:(k:Int)<(L.length:Int):=om;have hml:=aiy L m k om;have hr2':wr.ownsRow 0 104 65 (.slice (some ⟨g,0,none⟩) (Fz L m k).length jq) (Fz L m k).length (iY (Fz L m k)):=by rw [hml];exact hrow
   have th:=avi hr2' k (by rw [hml];exact hlt);have hset:=avh hr2' (aqk hls m k) k (by rw [hml];exact hlt) ⟨m,zc⟩ hxl;rw [aql L m k hlt,aiy L m (k+1) om,hml] at hset;have hgw:=uh JB g rfl;have Iw:=ah hset;have DR:=ah hbk;have Bz:=ah hkp;have pz:=ah hbx;clear hrow hbk hkp hbx e2 hr2' hset hml;go_wp2;go_roundw
   case rel=>
    refine ⟨k+1,om,gn,uh Iw,?_,Bz.setCells (b:=g) (aA (ay rfl)) _ _,by rw [TA _ _ _ _ _ om];exact uh pz⟩;exact DR.kept (T:=fun x=>x=g) ((Kept.refl (fun x=>x=g) wr).setCells (b:=g) (aA rfl) _ _) (fun x hx e=>uh uj g rfl (by rw [← e];exact hx))
   case measure=>exact cO
  ·have xK:k=L.length:=om;have hfull:Fz L m k=List.replicate L.length ⟨m,zc⟩:=by rw [xK];unfold Fz;rw [Zd,rU]
   rw [hfull] at hrow;have fA:=ah hrow;have DR:=ah hbk;have Bz:=ah hkp;have pz:=ah hbx;have hbl:=aO hbx;clear hrow hbk hkp xK hfull hbx;obtain ⟨i0,hi0,hz0,hz1,hz2⟩:=qy Tryz.Qd;obtain ⟨i1,hi1,hx0,hx1,hx2⟩:=qy Tryz.apH;obtain ⟨i2,hi2,hw0,hw1,hw2⟩:=qy Tryz.ahO;have hzs:(Value.agg (bM ⟨0,zc⟩).toArray).cells.size=65:=by simp [Value.cells,uF (x:=⟨0,zc⟩) aV]
   have Hzs:=ah hzs;clear hzs
   go_wp2_with (first
    | (
     at_builtin
     refine OD _ rfl _ _ _ rfl 0 104 i0 _ 65 72 Tryz.underlying58 hi0 hz0 hz1 hz2 Hzs om (.slice la L.length jq) L.length (iY (List.replicate L.length ⟨m,zc⟩)) rfl (fA.alloc _) ⟨wr.heap.size,0,none⟩ 1 1 (bM ⟨m,zc⟩) rfl (by rw [Qc]) (pU (cs:=(bM ⟨m,zc⟩).toArray) (t:=104) (fr:=(0,0)) (aW wr _)) (OE _) om (by unfold maxLen;omega) om om (wr.heap.size+1) sm ?_;intro g3 cap3 w3 hown3 y8 hlt3;have bx3:=ah ((CZ y8).aF (fun e=>by have:=uh JB _ e;omega) ((jE wr (.cells (bM ⟨m,zc⟩).toArray 104) _ hbl).trans pz));have l3:=sV (n:=65) (Me bx3) Qc;have l4:=qX (n:=65) (Me bx3) Qc;have Hl3:=ah (Oi (fA.alloc (.cells (bM ⟨m,zc⟩).toArray 104)) hown3 y8);have HB3:=ah ((DR.below ((bG _ _).alloc (aP _) (.cells (bM ⟨m,zc⟩).toArray 104))).kept (CZ y8) (fun x hx e=>uh uj x e hx)))
    | (
     at_builtin
     refine OD _ rfl _ _ _ rfl 0 104 i0 _ 65 72 Tryz.underlying58 hi0 hz0 hz1 hz2 Hzs om (.slice la L.length jq) L.length (iY (List.replicate L.length ⟨m,zc⟩)) rfl (Hl3.alloc _) ⟨w3.heap.size,0,none⟩ 2 2 (bM ⟨m,zc⟩++bM ⟨m,zc⟩) rfl (by rw [oO,Qc]) (pU (cs:=(bM ⟨m,zc⟩++bM ⟨m,zc⟩).toArray) (t:=104) (fr:=(0,0)) (aW w3 _)) (by intro u hu;rcases gq.1 hu with x | x <;> exact OE _ u x) om (by unfold maxLen;omega) om om (w3.heap.size+1) sm ?_;intro g6 cap6 w6 hown6 Fj apj;have B6:=ah ((HB3.below ((bG _ _).alloc (aP _) (.cells (bM ⟨m,zc⟩++bM ⟨m,zc⟩).toArray 104))).kept (CZ Fj) (fun x hx e=>uh uj x e hx));have c2:w6.cell? ⟨b,4,none⟩=some V.w:=B6.cell 4)
    | (
     at_builtin
     refine xZ _ rfl _ _ _ rfl 0 58 i1 _ 1 24 Tryz.underlying74 hi1 hx0 hx1 hx2 rfl om V.w B.writes.length (B.writes.map (·.v)) rfl (B6.rW.alloc _) ⟨w6.heap.size,0,none⟩ 3 3 [.slice la L.length jq,.slice (some ⟨g3,0,none⟩) (L.length+1) cap3,.slice (some ⟨g6,0,none⟩) (L.length+2) cap6] rfl rfl (pU (cs:= #[.slice la L.length jq,.slice (some ⟨g3,0,none⟩) (L.length+1) cap3,.slice (some ⟨g6,0,none⟩) (L.length+2) cap6]) (t:=58) (fr:=(0,0)) (aW w6 _)) (by simp [Value.oneCell']) om (by unfold maxLen;omega) om om (w6.heap.size+1) sm ?_;intro g7 ji w7 Qa Fp P5 ahF;have b7:=ah (qH Fp (B6.below ((bG _ _).alloc (aP _) (.cells #[.slice la L.length jq,.slice (some ⟨g3,0,none⟩) (L.length+1) cap3,.slice (some ⟨g6,0,none⟩) (L.length+2) cap6] 58))).aF (iw B6.rW B6.aF dc));have c72:w7.cell? ⟨b,4,none⟩=some V.w:=(aG b7 4).trans rfl;have c73:w7.cell? ⟨b,5,none⟩=some V.wm:=(aG b7 5).trans rfl
     have z7: ∀ i,w7.frozen? ⟨b,i,none⟩=false:=fun i=>eG b7 i;have R9:=ah (bQ (Kept.only w7 b 4 (.slice (some ⟨g7,0,none⟩) (B.writes.length+3) ji)) (zN Fp (B6.wZ.alloc _) (xW B6.wZ B6.rW dc)) (iw B6.wZ B6.aF dc)))
    | fail)
   have TM:iY (List.replicate L.length ⟨m,zc⟩)++(bM ⟨m,zc⟩++bM ⟨m,zc⟩)=iY (List.replicate (L.length+2) ⟨m,zc⟩):=by rw [← uG,Ya,Ya]
   have hl6:=Oi (Hl3.alloc (.cells (bM ⟨m,zc⟩++bM ⟨m,zc⟩).toArray 104)) hown6 Fj;have h26:w6.ownsRow 0 104 65 (.slice (some ⟨g6,0,none⟩) (L.length+2) cap6) (L.length+2) (iY (List.replicate (L.length+2) ⟨m,zc⟩)):=by rw [← TM];exact hown6
   have WV:=hown3;rw [Ya] at WV;have hsz3:=Bz.size;have h16:w6.ownsRow 0 104 65 (.slice (some ⟨g3,0,none⟩) (L.length+1) cap3) (L.length+1) (iY (List.replicate (L.length+1) ⟨m,zc⟩)):=by
    have hlen1:(iY (List.replicate (L.length+1) (iU.mk m zc))).length=(L.length+1)*65:=by
     rw [Nw _ (by intro c hc;rw [KT hc];exact hxl),zy]
    rcases Fj with ⟨e6,hg6⟩ | ⟨_,hg6⟩
    ·rcases y8 with ⟨e3,_⟩ | ⟨e3,_⟩
     ·rw [e6] at e3;injection e3 with x1 _ x3;injection x1 with x1;injection x1 with x1 _ _;subst x1;subst x3;have h27:w6.ownsRow 0 104 65 (.slice (some ⟨g6,0,none⟩) (L.length+1+1) cap6) (L.length+1+1) (iY (List.replicate (L.length+1) ⟨m,zc⟩)++bM ⟨m,zc⟩):=by rw [Ya];exact h26
      exact Uu h27 hlen1
     ·refine zN hg6 (WV.alloc _) (fun g hg x=> ?_);simp only [Value.ownBlock,jv] at hg x
      have:=uh JB g6 (by rw [e6];rfl)
      omega
    ·exact zN hg6 (WV.alloc _) (fun g hg x=>by cases x)
   have o1: ∀ g,(Value.slice (some ⟨g3,0,none⟩) (L.length+1) cap3).ownBlock=some g→(Value.slice la L.length jq).ownBlock=some g∨w.heap.size≤g:=fun g hg=>by
    simp only [Value.ownBlock,jv] at hg;subst hg;rcases y8 with ⟨e3,_⟩ | ⟨e3,_⟩
    ·exact aA (by rw [e3];rfl)
    ·exact ay om
   have hK3:=(Bz.alloc (.cells (bM ⟨m,zc⟩).toArray 104)).trans ((CZ y8).mono (T:=fun k=>S k∨(Value.slice la L.length jq).ownBlock=some k) (fun k hk=>ay hk));have o2: ∀ g,(Value.slice (some ⟨g6,0,none⟩) (L.length+2) cap6).ownBlock=some g→(Value.slice la L.length jq).ownBlock=some g∨w.heap.size≤g:=fun g hg=>by
    simp only [Value.ownBlock,jv] at hg;subst hg;rcases Fj with ⟨e6,_⟩ | ⟨e6,_⟩
    ·exact aA (by rw [e6];rfl)
    ·exact ay (by have:=hK3.size;omega)
   have hK6:=(hK3.alloc (.cells (bM ⟨m,zc⟩++bM ⟨m,zc⟩).toArray 104)).trans ((CZ Fj).mono (T:=fun k=>S k∨(Value.slice la L.length jq).ownBlock=some k) (fun k hk=>ay hk));have hE: ∀ (w8:World) (g8 kR:Nat) (X8:Obj),((w7.setCell ⟨b,4,none⟩ (.slice (some ⟨g7,0,none⟩) (B.writes.length+3) ji)).alloc X8).drew.grownBy w8 V.wm.ownBlock→
     w8.ownsRow 0 3 1 (.slice (some ⟨g8,0,none⟩) (B.writes.length+3) kR) (B.writes.length+3) ((B.writes.map fun x=> .int .i64 x.m)++[.int .i64 m,.int .i64 m,.int .i64 m])→(V.wm.ownBlock=some g8∨g8=w7.heap.size+1)→
     w8.heap[b]? = some (.cells (yw { V with w:= .slice (some ⟨g7,0,none⟩) (B.writes.length+3) ji } (B.next+1)).toArray 77 (0,0))→_:=
    fun w8 g8 kR X8 p1 p2 p3 p4=>arB (X8:=X8) B6 hl6 h16 h26 o1 o2 hK6 Fp Qa P5 ⟨p1.os,p1.tape,p1.output,p1.size,p1.block⟩ p2 p3 p4
   have HE:=ah hE;clear TM hl6 h26 WV hsz3 h16 o1 o2 hK3 hK6 hE hown3 y8 hown6 Fj Qa Fp P5;have hss:=size_setCell w7 ⟨b,4,none⟩ (.slice (some ⟨g7,0,none⟩) (B.writes.length+3) ji);have hb7':(w7.setCell ⟨b,4,none⟩ (.slice (some ⟨g7,0,none⟩) (B.writes.length+3) ji)).heap[b]? = some (.cells (yw { V with w:= .slice (some ⟨g7,0,none⟩) (B.writes.length+3) ji } (B.next+1)).toArray 77 (0,0)):=by rw [heap_setCell_same _ _ _ _ _ _ _ (uh b7)];rfl
   have VD:=ah hss;have Hb7':=ah hb7';clear hss hb7' l1 l2 l3 l4 c2 c72 c73 z7;generalize hW7:w7.setCell ⟨b,4,none⟩ (.slice (some ⟨g7,0,none⟩) (B.writes.length+3) ji)=W7 at*;have HW7:=ah hW7;clear hW7;have c5:W7.cell? ⟨b,5,none⟩=some V.wm:=(aG Hb7' 5).trans rfl;have c6:W7.cell? ⟨b,6,none⟩=some (.int .i64 ((B.next:Int)+1)):=by
    rw [aG (uh Hb7') 6];show some (Value.int .i64 ((B.next+1:Nat):Int))=_;rw [show ((B.next+1:Nat):Int)=(B.next:Int)+1 by omega]
   have c5': ∀ o,(W7.alloc o).cell? ⟨b,5,none⟩=some V.wm:=fun o=>by rw [MO _ _ _ (aO (uh Hb7'))];exact c5
   have z7: ∀ i,W7.frozen? ⟨b,i,none⟩=false:=fun i=>eG Hb7' i;have hwr:IntKind.i64.wrap (-((B.next:Int)+1))=m:=by rw [Jo _ om];exact uh Hm
   go_region_law ((refine Jq _ (by rfl) _ _ _ (by rfl) 0 3 i2 _ 1 8 Tryz.underlying75 hi2 hw0 hw1 hw2 rfl om V.wm B.writes.length (B.writes.map fun x=> .int .i64 x.m) (by rfl) ((R9.alloc _).drew) ⟨W7.heap.size,0,none⟩ 3 3 [.int .i64 m,.int .i64 m,.int .i64 m] (by rfl) (by rfl) (pU (cs:= #[.int .i64 m,.int .i64 m,.int .i64 m]) (t:=3) (fr:=(0,0)) (aW W7 _)) (by simp [Value.oneCell']) om (by unfold maxLen;omega) om om (W7.heap.size+1) sm ?_;intro g8 kR w8 Ej Dk GR WS;have b8:=ah (qH Dk ((jE _ _ _ (aO Hb7')).trans Hb7') (fun g hg=>iw B6.wZ B6.aF dc g hg));have c83:w8.cell? ⟨b,5,none⟩=some V.wm:=(aG b8 5).trans rfl;have z8: ∀ i,w8.frozen? ⟨b,i,none⟩=false:=fun i=>eG b8 i))
   all_goals
    go_wp2
    go_end0
    exact ⟨rfl,uh HE w8 g8 kR _ Dk Ej (by rw [← uh VD];exact GR) b8⟩
end Go.Proofs.YtknjjjenklfeoaaGreatDoor
