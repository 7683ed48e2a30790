import Derived.Test.YtknjjjenklfeoaaGreatDoorO34
set_option maxHeartbeats 8000000
set_option maxRecDepth 100000
set_option linter.all false
namespace Go.Proofs.YtknjjjenklfeoaaGreatDoor
open Go.RowKit
section
attribute [local go_sem ↓] dw fP fZ kS mP mV jJ kJ jY jU lD lH kQ ku kT mQ mW lZ ny jG qc qP qQ qF xM EF EI ED DZ
attribute [local go_sem] dK fO fV gK gy aV kX mG mM mJ mF gI jK kH jX kZ kW iJ jW lq lC lu kF jc jd lY l7 kG kY mO nI lT mD nH qh qM qO qN qL xX Ey EC Ez Ew Dz
attribute [local go_sem] pW pV Oper.semAt_some
attribute [local go_sem ↓] IV Jl
attribute [local go_sem] I9 Jb Ja
attribute [local go_sem] Wu Wv
def I5 (c:aj) (o:Nat) (s:List UInt8):aj:=c.take o++s++c.drop (o+s.length)
theorem QB (c:aj) (o:Nat) (s:List UInt8) (h:o+s.length≤c.length):(I5 c o s).length=c.length:=by
 simp [I5];omega
theorem XT (c:aj) (o:Nat) (s:List UInt8) (h:o+s.length≤c.length):lU (cv c).toArray o (cv s)=(cv (I5 c o s)).toArray:=by
 have e:c=c.take o++(c.drop o).take s.length++c.drop (o+s.length):=by
  rw [uG,← List.drop_drop,KJ,KJ]
 have h2:=Yp (cv (c.take o)) (cv ((c.drop o).take s.length)) (cv s) (cv (c.drop (o+s.length))) (by simp [bg];omega);rw [← IB,← IB,← IB,← IB,← e,bg,xu,Rh om] at h2;exact h2
theorem am7 (c:aj) (o:Nat) (s:List UInt8) (h:o+s.length≤c.length) (i:Nat):aI (I5 c o s) i=if o≤i∧i<o+s.length then aI s (i - o) else aI c i:=by
 have hl:(c.take o).length=o:=by rw [xu];omega
 unfold aI I5;simp only [aK]
 by_cases h1:i<o
 ·rw [uG,oJ om,ak om,Jp,au h1]
 ·by_cases h2:i<o+s.length
  ·rw [uG,nP om,hl,oJ om,au ⟨om,h2⟩]
  ·rw [nP (by rw [oO];omega),ak om,OI,oO,hl]
   congr 3;omega
theorem am8 (c:aj) (k n m:Nat) (hk:k+1<c.length) (hn:n<65536):aI (uU c k n) m=if m=k then n / 256 else if m=k+1 then n%256 else aI c m:=by
 unfold uU;rw [Aj _ _ _ _ (by rw [rG];exact hk),Aj _ _ _ _ om,toNat_ofNat _ om,toNat_ofNat _ om]
 by_cases h1:m=k
 ·rw [ak om,au h1.symm,au h1]
 ·rw [ak h1]
  by_cases h2:m=k+1
  ·rw [au h2.symm,au h2]
  ·rw [ak (fun e=>h2 e.symm),ak (fun e=>h1 e.symm),ak h2]
def mg (L:List aX):Nat→aj
 | 0=>zc
 | k+1=>uU (I5 (mg L k) (16*k+2) (L.getD k ze).name) (16*k) (L.getD k ze).first
def DV (L:List aX):Prop:= ∀ k,(L.getD k ze).name.length≤12∧(L.getD k ze).first<65536
theorem G7 {L:List aX} (h:DV L): ∀ k,k≤4→(mg L k).length=64
 | 0,_=>aV
 | k+1,hk=>by
  have h1:=G7 h k om;have h2:=(h k).1;rw [mg,QC,QB _ _ _ om,h1]
theorem am9 (i:Nat):aI zc i=0:=by
 unfold aI zc;rw [aK,qU]
 split <;> rfl
theorem aap (e:aX) (he:e.first<65536) (j:Nat):aI (yZ e) j=if j=0 then e.first / 256 else if j=1 then e.first%256 else aI e.name (j - 2):=by
 match j with
 | 0=>simp only [wH];unfold aI yZ;simp only [DF];exact toNat_ofNat _ om
 | 1=>simp only [wH];rw [ak dc];unfold aI yZ;simp only [Jt,DF];exact toNat_ofNat _ om
 | k+2=>rw [ak om,ak om];unfold aI;rw [agm];rfl
theorem afy {L:List aX} (h:DV L): ∀ k,k≤4→ ∀ i j,j<16→aI (mg L k) (16*i+j)=if i<k then aI (yZ (L.getD i ze)) j else 0
 | 0,_,i,j,_=>by rw [ak om];exact am9 _
 | k+1,hk,i,j,hj=>by
  have h1:=G7 h k om;obtain ⟨h2,h3⟩:=h k;have ih:=afy h k om i j hj;have hz: ∀ m,12≤m→aI (L.getD k ze).name m=0:=fun m hm=>by
   unfold aI;rw [aK,eu om];rfl
  rw [mg,am8 _ _ _ _ (by rw [QB _ _ _ om,h1];omega) h3,am7 _ _ _ om,ih]
  by_cases e:i=k
  ·subst e;rw [au (show i<i+1 by omega),aap _ h3]
   by_cases j0:j=0
   ·rw [au om,au j0]
   ·by_cases j1:j=1
    ·rw [ak om,au om,ak j0,au j1]
    ·rw [ak om,ak om,ak j0,ak j1]
     by_cases jl:j<2+(L.getD i ze).name.length
     ·rw [au ⟨om,om⟩];congr 1;omega
     ·rw [ak om,ak om];unfold aI;rw [aK,eu om];rfl
  ·rw [ak om,ak om,ak om]
   by_cases hik:i<k
   ·rw [au hik,au om]
   ·rw [ak hik,ak om]
theorem aar {a b:aj} (hl:a.length=b.length) (h: ∀ i,i<a.length→aI a i=aI b i):a=b:=by
 apply UY hl;intro i h1 h2
 have:=h i h1
 unfold aI at this;rw [aK,aK,bI h1,bI h2] at this;exact OW.1 this
theorem iL.ac3 {E:List aX} (h:iL E):DV (jm E):=fun k=>by
 refine ⟨?_,h.lt k⟩;rcases h.at k with e | ⟨_,e⟩
 ·rw [e];decide
 ·exact e.le
theorem iL.VT {E:List aX} (h:iL E):mg (jm E) 4=nG E:=by
 refine aar (by rw [G7 h.ac3 4 om,h.length]) fun i hi=> ?_;rw [G7 h.ac3 4 om] at hi;have h1:=afy h.ac3 4 om (i / 16) (i%16) om;rw [show 16*(i / 16)+i%16=i by omega,au om] at h1;rw [h1];have h2:=h.get (i / 16) om (i%16) om;rw [show 16*(i / 16)+i%16=i by omega] at h2;unfold aI;rw [h2]
theorem Yf (w:World) (b o m:Nat) (t:TypeId) (c:aj) (hc:c.length=64) (hb:w.heap[b]? = some (.cells (cv c).toArray t (0,0))) (s:List UInt8) (hs:s.length≤12) (ho:o+12≤64):
  (Builtin.copy_ #[73,9] 3 #[.slice (some ⟨b,o,none⟩) 12 m,.string (bJ s)]).run Tryz.prog w= .ok (.int .i64 (s.length:Nat)) (w.setCells b o (cv s)):=by
 have hz:(bJ s).size=s.length:=by simp [bJ,ByteArray.size]
 have h:=run_copy_string (P:=Tryz.prog) w 73 9 3 5 b o 12 m (bJ s) Tryz.underlying73
  (run_sizeOf Tryz.ac5) (by rw [hz];exact hs) (fun j hj=>by rw [aG hb,bW,uO _ _ (by rw [hc];omega)];rfl) (fun j _=>eG hb _)
 rw [h,hz];rfl
theorem ah6 (w:World) (L:List aX) (hL:L.length=4) (hs:DV L):
  Calls Tryz.prog 148 #[.agg (lv L).toArray] w fun e w'=>e= .returned (.agg (cv (mg L 4)).toArray)∧aC w w':=by
 have L0:=ah (dU.three w (.cells (lv L).toArray 144) (.cells (cv zc).toArray 38) (.cells (cv zc).toArray 38));have l1:=fD L0.o0 (n:=8) (by rw [dW,hL]);have l2:=fG L0.o0 (n:=8) (by rw [dW,hL])
 go_enter Tryz.func148,Tryz.ntmps148
 go_wp2;clear l1 l2
 go_loopw [4,5,6,8] (fun _ _ _ i w'=> ∃ k:Nat,k≤4∧i= .int .i64 k∧dU w w' [.cells (lv L).toArray 144,.cells (cv zc).toArray 38,.cells (cv (mg L k)).toArray 38]) (fun _ _ _ i _=>4 - (intOf i).toNat)
 case atStart=>exact ⟨0,om,rfl,uh L0⟩
 case round=>
  obtain ⟨k,hk,rfl,hLo⟩:=hrel;clear L0
  by_cases hlt:k<4
  ·rcases (show k=0∨k=1∨k=2∨k=3 by omega) with rfl | rfl | rfl | rfl
   ·have hll:=G7 hs 0 om;obtain ⟨hn12,hf⟩:=hs 0;have hix:(Instr.index 144 (.agg (lv L).toArray) (.int .i64 0)).run Tryz.prog wr= .ok (.agg (ev (L.getD 0 ze)).toArray) wr:=QL wr L hL 0 om;have HE:Hid (mg L 1=uU (I5 (mg L 0) 2 (L.getD 0 ze).name) 0 (L.getD 0 ze).first):=rfl;generalize L.getD 0 ze=ent at*;have hset:=XT (mg L 0) 2 ent.name om;have hpl:=QB (mg L 0) 2 ent.name om;have La:=hLo.alloc (.cells (ev ent).toArray 142);have b1:(wr.alloc (.cells (ev ent).toArray 142)).drew.heap[wr.heap.size]? = some (.cells (ev ent).toArray 142 (0,0)):=aW _ _;have c1:(wr.alloc (.cells (ev ent).toArray 142)).drew.cell? ⟨wr.heap.size,0,none⟩=some (.string (bJ ent.name)):=(aG b1 0).trans rfl;have hcp:=Yf _ _ 2 62 _ _ hll La.drew.o2 ent.name hn12 om;have L1:=La.drew.setCells 2 rfl 2 (cv ent.name);rw [hset] at L1;simp only [wG,nK] at L1;have hne:wr.heap.size≠w.heap.size+1+1:=by have:=hLo.lt (i:=2) rfl;omega
    have b2:((wr.alloc (.cells (ev ent).toArray 142)).drew.setCells (w.heap.size+1+1) 2 (cv ent.name)).heap[wr.heap.size]? = some (.cells (ev ent).toArray 142 (0,0)):=(Kept.AP _ (w.heap.size+1+1) 2 (cv ent.name)).aF hne b1;have c2:((wr.alloc (.cells (ev ent).toArray 142)).drew.setCells (w.heap.size+1+1) 2 (cv ent.name)).cell? ⟨wr.heap.size,1,none⟩=some (.int .i64 (ent.first:Nat)):=(aG b2 1).trans rfl;have L1:=ah L1;clear La hLo b1 b2;generalize hW1:(wr.alloc (.cells (ev ent).toArray 142)).drew.setCells (w.heap.size+1+1) 2 (cv ent.name)=W1 at*;have Hp:=ah (Oe W1 _ _ _ L1.o2 (hpl.trans hll) 0 ent.first om hf);have ew:IntKind.u16.wrap (ent.first:Int)=ent.first:=wraps_u16 _ om om;have HE2:Hid (bJ ent.name=bJ ent.name):=rfl;go_wp2
    go_region
    go_wp2_with fail
    refine Hp.mono ?_;rintro e w2 ⟨rfl,hb2,hk2⟩;have L2:=L1.put 2 _ hk2 hb2;simp only [wG,nK] at L2;rw [← uh HE] at L2;have L2:=ah L2;clear L1 Hp hb2 hk2 hcp c1 c2 hix hW1;go_wp2;go_roundw
    case rel=>exact ⟨1,om,gn,uh L2⟩
    case measure=>simp [intOf]
   ·have hll:=G7 hs 1 om;obtain ⟨hn12,hf⟩:=hs 1;have hix:(Instr.index 144 (.agg (lv L).toArray) (.int .i64 1)).run Tryz.prog wr= .ok (.agg (ev (L.getD 1 ze)).toArray) wr:=QL wr L hL 1 om;have HE:Hid (mg L 2=uU (I5 (mg L 1) 18 (L.getD 1 ze).name) 16 (L.getD 1 ze).first):=rfl;generalize L.getD 1 ze=ent at*;have hset:=XT (mg L 1) 18 ent.name om;have hpl:=QB (mg L 1) 18 ent.name om;have La:=hLo.alloc (.cells (ev ent).toArray 142);have b1:(wr.alloc (.cells (ev ent).toArray 142)).drew.heap[wr.heap.size]? = some (.cells (ev ent).toArray 142 (0,0)):=aW _ _;have c1:(wr.alloc (.cells (ev ent).toArray 142)).drew.cell? ⟨wr.heap.size,0,none⟩=some (.string (bJ ent.name)):=(aG b1 0).trans rfl;have hcp:=Yf _ _ 18 46 _ _ hll La.drew.o2 ent.name hn12 om;have L1:=La.drew.setCells 2 rfl 18 (cv ent.name);rw [hset] at L1;simp only [wG,nK] at L1
    have hne:wr.heap.size≠w.heap.size+1+1:=by have:=hLo.lt (i:=2) rfl;omega
    have b2:((wr.alloc (.cells (ev ent).toArray 142)).drew.setCells (w.heap.size+1+1) 18 (cv ent.name)).heap[wr.heap.size]? = some (.cells (ev ent).toArray 142 (0,0)):=(Kept.AP _ (w.heap.size+1+1) 18 (cv ent.name)).aF hne b1;have c2:((wr.alloc (.cells (ev ent).toArray 142)).drew.setCells (w.heap.size+1+1) 18 (cv ent.name)).cell? ⟨wr.heap.size,1,none⟩=some (.int .i64 (ent.first:Nat)):=(aG b2 1).trans rfl;have L1:=ah L1;clear La hLo b1 b2;generalize hW1:(wr.alloc (.cells (ev ent).toArray 142)).drew.setCells (w.heap.size+1+1) 18 (cv ent.name)=W1 at*;have Hp:=ah (Oe W1 _ _ _ L1.o2 (hpl.trans hll) 16 ent.first om hf);have ew:IntKind.u16.wrap (ent.first:Int)=ent.first:=wraps_u16 _ om om;have HE2:Hid (bJ ent.name=bJ ent.name):=rfl;go_wp2
    go_region
    go_wp2_with fail
    refine Hp.mono ?_;rintro e w2 ⟨rfl,hb2,hk2⟩;have L2:=L1.put 2 _ hk2 hb2;simp only [wG,nK] at L2;rw [← uh HE] at L2;have L2:=ah L2;clear L1 Hp hb2 hk2 hcp c1 c2 hix hW1;go_wp2;go_roundw
    case rel=>exact ⟨2,om,gn,uh L2⟩
    case measure=>simp [intOf]
   ·have hll:=G7 hs 2 om;obtain ⟨hn12,hf⟩:=hs 2;have hix:(Instr.index 144 (.agg (lv L).toArray) (.int .i64 2)).run Tryz.prog wr= .ok (.agg (ev (L.getD 2 ze)).toArray) wr:=QL wr L hL 2 om;have HE:Hid (mg L 3=uU (I5 (mg L 2) 34 (L.getD 2 ze).name) 32 (L.getD 2 ze).first):=rfl;generalize L.getD 2 ze=ent at*;have hset:=XT (mg L 2) 34 ent.name om;have hpl:=QB (mg L 2) 34 ent.name om;have La:=hLo.alloc (.cells (ev ent).toArray 142);have b1:(wr.alloc (.cells (ev ent).toArray 142)).drew.heap[wr.heap.size]? = some (.cells (ev ent).toArray 142 (0,0)):=aW _ _;have c1:(wr.alloc (.cells (ev ent).toArray 142)).drew.cell? ⟨wr.heap.size,0,none⟩=some (.string (bJ ent.name)):=(aG b1 0).trans rfl;have hcp:=Yf _ _ 34 30 _ _ hll La.drew.o2 ent.name hn12 om;have L1:=La.drew.setCells 2 rfl 34 (cv ent.name);rw [hset] at L1;simp only [wG,nK] at L1
    have hne:wr.heap.size≠w.heap.size+1+1:=by have:=hLo.lt (i:=2) rfl;omega
    have b2:((wr.alloc (.cells (ev ent).toArray 142)).drew.setCells (w.heap.size+1+1) 34 (cv ent.name)).heap[wr.heap.size]? = some (.cells (ev ent).toArray 142 (0,0)):=(Kept.AP _ (w.heap.size+1+1) 34 (cv ent.name)).aF hne b1;have c2:((wr.alloc (.cells (ev ent).toArray 142)).drew.setCells (w.heap.size+1+1) 34 (cv ent.name)).cell? ⟨wr.heap.size,1,none⟩=some (.int .i64 (ent.first:Nat)):=(aG b2 1).trans rfl;have L1:=ah L1;clear La hLo b1 b2;generalize hW1:(wr.alloc (.cells (ev ent).toArray 142)).drew.setCells (w.heap.size+1+1) 34 (cv ent.name)=W1 at*;have Hp:=ah (Oe W1 _ _ _ L1.o2 (hpl.trans hll) 32 ent.first om hf);have ew:IntKind.u16.wrap (ent.first:Int)=ent.first:=wraps_u16 _ om om;have HE2:Hid (bJ ent.name=bJ ent.name):=rfl;go_wp2
    go_region
    go_wp2_with fail
    refine Hp.mono ?_;rintro e w2 ⟨rfl,hb2,hk2⟩;have L2:=L1.put 2 _ hk2 hb2;simp only [wG,nK] at L2;rw [← uh HE] at L2;have L2:=ah L2;clear L1 Hp hb2 hk2 hcp c1 c2 hix hW1;go_wp2;go_roundw
    case rel=>exact ⟨3,om,gn,uh L2⟩
    case measure=>simp [intOf]
   ·have hll:=G7 hs 3 om;obtain ⟨hn12,hf⟩:=hs 3;have hix:(Instr.index 144 (.agg (lv L).toArray) (.int .i64 3)).run Tryz.prog wr= .ok (.agg (ev (L.getD 3 ze)).toArray) wr:=QL wr L hL 3 om;have HE:Hid (mg L 4=uU (I5 (mg L 3) 50 (L.getD 3 ze).name) 48 (L.getD 3 ze).first):=rfl;generalize L.getD 3 ze=ent at*;have hset:=XT (mg L 3) 50 ent.name om;have hpl:=QB (mg L 3) 50 ent.name om;have La:=hLo.alloc (.cells (ev ent).toArray 142);have b1:(wr.alloc (.cells (ev ent).toArray 142)).drew.heap[wr.heap.size]? = some (.cells (ev ent).toArray 142 (0,0)):=aW _ _;have c1:(wr.alloc (.cells (ev ent).toArray 142)).drew.cell? ⟨wr.heap.size,0,none⟩=some (.string (bJ ent.name)):=(aG b1 0).trans rfl;have hcp:=Yf _ _ 50 14 _ _ hll La.drew.o2 ent.name hn12 om;have L1:=La.drew.setCells 2 rfl 50 (cv ent.name);rw [hset] at L1;simp only [wG,nK] at L1
    have hne:wr.heap.size≠w.heap.size+1+1:=by have:=hLo.lt (i:=2) rfl;omega
    have b2:((wr.alloc (.cells (ev ent).toArray 142)).drew.setCells (w.heap.size+1+1) 50 (cv ent.name)).heap[wr.heap.size]? = some (.cells (ev ent).toArray 142 (0,0)):=(Kept.AP _ (w.heap.size+1+1) 50 (cv ent.name)).aF hne b1;have c2:((wr.alloc (.cells (ev ent).toArray 142)).drew.setCells (w.heap.size+1+1) 50 (cv ent.name)).cell? ⟨wr.heap.size,1,none⟩=some (.int .i64 (ent.first:Nat)):=(aG b2 1).trans rfl;have L1:=ah L1;clear La hLo b1 b2;generalize hW1:(wr.alloc (.cells (ev ent).toArray 142)).drew.setCells (w.heap.size+1+1) 50 (cv ent.name)=W1 at*;have Hp:=ah (Oe W1 _ _ _ L1.o2 (hpl.trans hll) 48 ent.first om hf);have ew:IntKind.u16.wrap (ent.first:Int)=ent.first:=wraps_u16 _ om om;have HE2:Hid (bJ ent.name=bJ ent.name):=rfl;go_wp2
    go_region
    go_wp2_with fail
    refine Hp.mono ?_;rintro e w2 ⟨rfl,hb2,hk2⟩;have L2:=L1.put 2 _ hk2 hb2;simp only [wG,nK] at L2;rw [← uh HE] at L2;have L2:=ah L2;clear L1 Hp hb2 hk2 hcp c1 c2 hix hW1;go_wp2;go_roundw
    case rel=>exact ⟨4,om,gn,uh L2⟩
    case measure=>simp [intOf]
  ·have hk4:k=4:=om;subst hk4;have b1:=hLo.o1;have b2:=hLo.o2;have hbl:=G7 hs 4 om;have l1:=gZ b2 hbl;have l2:=gY b2 hbl;have th:=iI b1 0 64 (by simp [bg,aV]);have hset:=hLo.setCells 1 rfl 0 (cv (mg L 4));rw [qw _ _ (by simp [bg,aV,hbl])] at hset;have o1:=hset.o1;have l3:=gZ o1 hbl;have l4:=gY o1 hbl;have HB:=ah hset.below;clear hLo b1 b2 hset o1;go_wp2;refine gV (qK Tryz.results148 ⟨w.heap.size+1,0,none⟩ rfl ?_) rfl ⟨rfl,uh HB⟩;rw [dw,dK l3,l4]
end
section
attribute [local go_sem ↓] dw fP fZ kS mP mV jJ kJ jY jU lD lH kQ ku kT mQ mW lZ ny jG qc qP qQ qF xM EF EI ED DZ
attribute [local go_sem] dK fO fV gK gy aV kX mG mM mJ mF gI jK kH jX kZ kW iJ jW lq lC lu kF jc jd lY l7 kG kY mO nI lT mD nH qh qM qO qN qL xX Ey EC Ez Ew Dz
attribute [local go_sem] pW pV Oper.semAt_some
attribute [local go_sem ↓] IV Jl
attribute [local go_sem] I9 Jb Ja
theorem ajA (w:World) (v:Nat) (Cv Lv:Value) (V:aB) (h:aN w v Cv Lv V) (L:List aX) (hl4:L.length=4) (hs:DV L) (hC:V.C.length≤1000) (hL:V.L.length≤900000000):
  Calls Tryz.prog 88 #[.pointer (some ⟨v,0,none⟩),.agg (lv L).toArray] w fun e w'=>e= .returned (.tuple #[])∧ ∃ qB qC,bZ w w' v Cv Lv qB qC (bT V 5 (mg L 4)):=by
 have E0:=(Env.start h).lay (.cells (lv L).toArray 144);have l1:=fD E0.drew.o0 (n:=8) (by rw [dW,hl4]);have l2:=fG E0.drew.o0 (n:=8) (by rw [dW,hl4]);have hbl:=G7 hs 4 om;have Hp:=ah (ah6 (w.alloc (.cells (lv L).toArray 144)).drew L hl4 hs);have EU:Hid (∀ W C1 L1,aN W v C1 L1 V→_):=fun W C1 L1 hW=>FK W v C1 L1 V hW 5 om (mg L 4) hbl om om;have HE:=ah E0;clear E0 h;generalize mg L 4=c at*
 go_enter Tryz.func88,Tryz.ntmps88
 go_wp2
 go_region_law (first
  | (
   go_simp;go_at_call 148;refine Hp.mono ?_;rintro e w1 ⟨rfl,hb1⟩;have E1:=ah (HE.drew.later hb1))
  | (
   go_simp;go_at_call 70;refine (uh EU _ _ _ E1.at').mono ?_;rintro e w2 ⟨rfl,C2,L2,hS⟩;have E2:=ah (E1.fQ hS).step;clear hS))
 all_goals
  go_end0
  exact ⟨rfl,C2,L2,uh E2⟩
theorem Tryz.abC:(Tryz.prog.info? 9).map (fun i=>(i.zero,i.size,i.bytes))=some (some (.string ⟨#[]⟩),1,16):=kr
def sv (N:List (List UInt8)):List Value:=N.map fun s=> .string (bJ s)
theorem atX (N:List (List UInt8)):(sv N).length=N.length:=by simp [sv]
theorem akz (N:List (List UInt8)) (s:List UInt8):sv (N++[s])=sv N++[.string (bJ s)]:=by simp [sv]
def H7 (E:List aX) (k:Nat):List (List UInt8):=(E.take k).map (·.name)
theorem aqu (E:List aX) (k:Nat) (hk:k≤E.length):(H7 E k).length=k:=by simp [H7];omega
theorem aqv (E:List aX) (k:Nat) (hk:k<E.length):H7 E (k+1)=H7 E k++[(E.getD k ze).name]:=by
 unfold H7;rw [yU hk,rE,aK,bI hk];rfl
theorem atW {w:World} {b base n:Nat} {x:Value} {xs:List Value} {cs:Array Value} (hr:w.ownsRow base 9 1 x n xs) (hb:w.heap[b]? = some (.cells cs 144 (0,0))): ∀ g,x.ownBlock=some g→g≠b:=by
 obtain ⟨_,h2⟩:=hr;rcases h2 with ⟨rfl,_⟩ | ⟨g',cap',cur,rfl,_,h3,_⟩
 ·intro g hg;cases hg
 ·intro g hg e;simp only [Value.ownBlock,jv] at hg;rw [hg,e,hb] at h3;cases h3
theorem auR (w:World) (v:Nat) (Cv Lv:Value) (V:aB) (h:aN w v Cv Lv V) (h5:5<V.C.length):
  Calls Tryz.prog 51 #[.pointer (some ⟨v,0,none⟩)] w fun e w'=> ∃ x,e= .returned x∧w'.ownsRow w.heap.size 9 1 x (lenOf (aY (cl V.C 5))) (sv (H7 (aY (cl V.C 5)) (lenOf (aY (cl V.C 5)))))∧aC w w':=by
 obtain ⟨i0,hi0,hz0,hz1,hz2⟩:=qy Tryz.abC;have Hl:=ah (J6 w v Cv Lv V h h5);have hel:=Df (cl V.C 5);have hle:=zU (aY (cl V.C 5));have Lc:Hid (∀ W,_):=fun W=>NT W (aY (cl V.C 5)) hel;have QY:zl.length=4:=rfl;clear h;generalize aY (cl V.C 5)=E at*;generalize lenOf E=n0 at*;have Fv:(n0:Int)≤4:=om
 go_enter Tryz.func51,Tryz.ntmps51
 go_wp2_with fail
 refine Hl.mono ?_;rintro e w1 ⟨rfl,hb1⟩;have hw1:=hb1.size;have B1:=ah (hb1.alloc hb1.size (.cells (lv E).toArray 144));have b1:(w1.alloc (.cells (lv E).toArray 144)).heap[w1.heap.size]? = some (.cells (lv E).toArray 144 (0,0)):=aW _ _;have l1:=fD b1 (n:=8) (by rw [dW,hel]);have l2:=fG b1 (n:=8) (by rw [dW,hel]);have b1:=ah b1;clear hb1 Hl
 go_wp2_with fail
 refine (uh Lc _).mono ?_;rintro e w2 ⟨rfl,hb2⟩;have avE:w1.heap.size<w2.heap.size:=by have:=hb2.size;simp at this;omega
 have B2:=ah (B1.trans (hb2.mono B1.size));have b2:=ah ((hb2.block _ (aO b1)).trans b1);clear hb2 Lc B1 b1 l1 l2;go_wp2
 go_loopw [3,6,13] (fun f _ i w'=> ∃ k:Nat,k≤n0∧i= .int .i64 k∧w'.ownsRow w.heap.size 9 1 f k (sv (H7 E k))∧aC w w'∧w'.heap[w1.heap.size]? = some (.cells (lv E).toArray 144 (0,0))) (fun _ _ i _=>n0 - (intOf i).toNat)
 case atStart=>exact ⟨0,om,rfl,wF _ _ _ _,uh B2,uh b2⟩
 case round=>
  obtain ⟨k,hk,rfl,hrow,hb,hbx⟩:=hrel;obtain ⟨fa,yB,rfl⟩:=iq hrow
  by_cases hlt:k<n0
  ·have hki:(k:Int)<(n0:Int):=om;have yF:k<E.length:=om;have l1:=sV (n:=2) (Fe hbx k yF) rfl;have l2:=qX (n:=2) (Fe hbx k yF) rfl;have hs:=aqv E k yF;have hnl:=aqu E k om;generalize E.getD k ze=p at*;have c5:(wr.alloc (.cells (ev p).toArray 142)).cell? ⟨wr.heap.size,0,none⟩=some (.string (bJ p.name)):=(vX wr _ _ _ 0).trans rfl;have fA:=ah (hrow.alloc (.cells (ev p).toArray 142));have Hb:=ah (hb.alloc hb.size (.cells (ev p).toArray 142));have pz:Hid ((wr.alloc (.cells (ev p).toArray 142)).heap[w1.heap.size]? = some (.cells (lv E).toArray 144 (0,0))):=(Vd _ _ (aO hbx)).trans hbx;have hne: ∀ g,(Value.slice fa k yB).ownBlock=some g→g≠w1.heap.size:=atW hrow hbx;clear hrow hb hbx;generalize hwA:wr.alloc (.cells (ev p).toArray 142)=wA at*
   go_wp2_with (at_builtin;refine xZ _ rfl _ _ _ rfl w.heap.size 9 i0 _ 1 16 Tryz.underlying34 hi0 hz0 hz1 hz2 rfl om (.slice fa k yB) k (sv (H7 E k)) rfl (fA.alloc _) ⟨wA.heap.size,0,none⟩ 1 1 [.string (bJ p.name)] rfl rfl (pU (cs:= #[.string (bJ p.name)]) (t:=9) (fr:=(0,0)) (aW wA _)) (by simp [Value.oneCell']) om (by unfold maxLen;omega) om (by have:=Hb.size;simp;omega) (wA.heap.size+1) sm ?_;intro g5 cap5 w5 hown5 hgrow hat uP)
   have S5:=ah ((Hb.alloc Hb.size (.cells #[.string (bJ p.name)] 9)).grown hgrow (by have:=Hb.size;simp;omega) (fun k hk=>(fA.lt k hk).1));have ao4:w5.heap[w1.heap.size]? = some (.cells (lv E).toArray 144 (0,0)):=by
    rw [hgrow.block _ (by have:=aO (uh pz);simp;omega) (fun e=>hne _ e.symm rfl),Vd _ _ (aO (uh pz))];exact uh pz
   go_roundw
   case rel=>exact ⟨k+1,om,gn,by rw [hs,akz];exact hown5,uh S5,ao4⟩
   case measure=>exact cO
  ·have hk4:k=n0:=om;subst hk4;have fA:=ah hrow;have Hb:=ah hb;clear hrow hb;go_wp2;go_ret;exact ⟨_,rfl,uh fA,uh Hb⟩
theorem an6 (w:World) (d v:Nat) (Cv Lv:Value) (V:aB) (h:pq w d v Cv Lv V) (h5:5<V.C.length):
  Calls Tryz.prog 21 #[.pointer (some ⟨d,0,none⟩)] w fun e w'=> ∃ x,e= .returned x∧w'.ownsRow w.heap.size 9 1 x (lenOf (aY (cl V.C 5))) (sv (H7 (aY (cl V.C 5)) (lenOf (aY (cl V.C 5)))))∧aC w w':=by
 have Hm:=ah (G8 _ d v Cv Lv V h);have c0:=h.c0;have Hw:=ah (auR w v Cv Lv V h.bP h5);clear h
 go_enter Tryz.func21,Tryz.ntmps21
 go_wp2_with fail
 refine Hm.mono ?_;rintro e w1 ⟨rfl,rfl⟩
 go_wp2_with fail
 refine Hw.mono ?_;rintro e w2 ⟨x,rfl,hx,hb⟩;have Hx:=ah hx;have Hb:=ah hb;clear hx hb Hw Hm;go_wp2;go_ret;exact ⟨x,rfl,uh Hx,uh Hb⟩
end
section
attribute [local go_sem ↓] dw fP fZ kS mP mV jJ kJ jY jU lD lH kQ ku kT mQ mW lZ ny jG qc qP qQ qF xM EF EI ED DZ
attribute [local go_sem] dK fO fV gK gy aV kX mG mM mJ mF gI jK kH jX kZ kW iJ jW lq lC lu kF jc jd lY l7 kG kY mO nI lT mD nH qh qM qO qN qL xX Ey EC Ez Ew Dz
attribute [local go_sem] pW pV Oper.semAt_some
attribute [local go_sem ↓] IV Jl
attribute [local go_sem] I9 Jb Ja
attribute [local go_sem] Wu Wv
theorem adH (s:ByteArray):bJ s.data.toList=s:=by
 cases s;simp [bJ]
theorem akl (c:aj):DV (aY c):=fun k=>by
 unfold aY;rw [aK,jD]
 by_cases hk:k<4
 ·rw [x9 hk];refine ⟨?_,iD _ _⟩;show (Ea c k).name.length≤12;unfold Ea nameBytes;simp only [xu,List.length_drop];omega
 ·rw [eu (by simpa using hk)];exact ⟨by simp [ze],by simp [ze]⟩
theorem DV.set {L:List aX} (h:DV L) (i:Nat) (e:aX) (h1:e.name.length≤12) (h2:e.first<65536):DV (L.set i e):=fun k=>by
 rw [aK,uf];split
 ·split
  ·exact ⟨h1,h2⟩
  ·decide
 ·have:=h k
  rw [aK] at this;exact this
theorem DV.less {L:List aX} (h:DV L) (i:Nat):DV (jr L i):=fun k=>by
 unfold jr;have hall: ∀ e ∈ L.eraseIdx i++[ze],e.name.length≤12∧e.first<65536:=by
  intro e he;rcases gq.1 he with x | x
  ·obtain ⟨j,hj,rfl⟩:=Rn (Zm x)
   have:=h j
   rw [aK,bI hj] at this;exact this
  ·rw [jw.1 x];decide
 rw [aK]
 by_cases hk:k<(L.eraseIdx i++[ze]).length
 ·rw [bI hk];exact hall _ (oP hk)
 ·rw [eu om]
  decide
theorem anX (V:aB) (f n:Nat) (hC:V.C.length≤256) (h5:5<V.C.length) (hF:gJ V f) (hn:n<256):(copyV V f n).C.length≤256∧5<(copyV V f n).C.length∧(copyV V f n).L.length≤V.L.length+100:=by
 have IL:=TQ V [n] om;have Aw:=Xd V [n];have hF1:gJ (dQ V [n]) f:=hF.same IL (fun t ht=>afG V [n] t ht om);have H1:Hid (jF V f n=fJ (qY uy (dQ V [n]) (sN (dQ V [n]) f))):=rfl;have H2:Hid (copyV V f n=fJ (bT (kU (jF V f n) (rY V.C f n) 4) n (cl (kU (jF V f n) (rY V.C f n) 4).C f))):=rfl;generalize dQ V [n]=V1 at*;have hrC:=(QI ac2 (sN V1 f) V1 (YJ hF1)).len;have hrL:=Uo uy (sN V1 f) V1;have hrT:=adl V1 f;generalize qY uy V1 (sN V1 f)=V2 at*;have hf2:=yD V2;have NP:(fJ V2).C.length=V2.C.length:=by rw [zK]
 rw [← uh H1] at hf2 NP;generalize jF V f n=V3 at*;generalize rY V.C f n=kk at*;have TK:=XU V3 kk om;have hpL:=Oc V3 kk 4;generalize kU V3 kk 4=V4 at*;have hqL:=tZ V4 n (cl V4.C f);have hqC:=yN V4 n (cl V4.C f);generalize bT V4 n (cl V4.C f)=V5 at*;have hf5:=yD V5;have apc:(fJ V5).C.length=V5.C.length:=by rw [zK]
 rw [← uh H2] at hf5 apc;omega
theorem af2 (V:aB) (f:Nat) (hC:V.C.length≤256) (h5:5<V.C.length) (hF:gJ V f):(iy V f).1.C.length≤256∧5<(iy V f).1.C.length∧(iy V f).1.L.length≤V.L.length+100∧(iy V f).2.1<256:=by
 by_cases hg:0<(dG (aJ V.C) 1).length∧oz (aJ V.C) (jf V.C f)=true
 ·obtain ⟨n,hn,hlt,_⟩:=NW hg.1;have e:iy V f=(copyV V f n,n,0):=by
   unfold iy;rw [au hg,hn,DF]
  rw [e]
  have:=anX V f n hC h5 hF hlt
  exact ⟨this.1,this.2.1,this.2.2,hlt⟩
 ·have e:iy V f=(V,0,5):=by
   unfold iy;rw [ak hg]
  rw [e];exact ⟨hC,h5,by simp only;omega,by simp only;omega⟩
def xg (V:aB) (s:ByteArray):aB × Nat:=
 if oC s.data.toList=false then (V,2)
 else if 0≤rZ (aY (cl V.C 5)) s then (V,3)
 else if lenOf (aY (cl V.C 5))=4 then (V,5)
 else if (iy V (num (cl V.C 0) 6)).2.2=0 then (fJ (bT (iy V (num (cl V.C 0) 6)).1 5 (mg ((aY (cl V.C 5)).set (lenOf (aY (cl V.C 5))) ⟨s.data.toList,(iy V (num (cl V.C 0) 6)).2.1⟩) 4)),0)
 else ((iy V (num (cl V.C 0) 6)).1,(iy V (num (cl V.C 0) 6)).2.2)
theorem au2 (w:World) (v:Nat) (Cv Lv:Value) (V:aB) (h:aN w v Cv Lv V) (h5:5<V.C.length) (hC:V.C.length≤256) (hL:V.L.length≤400000000) (hF:gJ V (num (cl V.C 0) 6)) (s:ByteArray) (hs:s.size≤maxLen):
  Calls Tryz.prog 47 #[.pointer (some ⟨v,0,none⟩),.string s] w fun e w'=>e= .returned (.int .i64 ((xg V s).2:Nat))∧ ∃ C1 L1,bZ w w' v Cv Lv C1 L1 (xg V s).1:=by
 have Hi:=ah (acr s w hs);have H:=ah h;clear h
 by_cases hnm:oC s.data.toList=false
 ·have hR:xg V s=(V,2):=by unfold xg;rw [au hnm]
  rw [hR];dsimp only;rw [hnm] at Hi
  go_enter Tryz.func47,Tryz.ntmps47
  go_wp2_with fail
  refine Hi.mono ?_;rintro e w1 ⟨rfl,hb1⟩;have B1:=ah ((bZ.refl H).later hb1);clear hb1 Hi;go_wp2;go_ret;exact ⟨rfl,_,_,uh B1⟩
 have hnt:oC s.data.toList=true:=by cases e:oC s.data.toList;exact absurd e hnm;rfl
 have hsl:=(ab6 hnt).2;rw [hnt] at Hi;have Hl:Hid (∀ W,aN W v Cv Lv V→_):=fun W hW=>J6 W v Cv Lv V hW h5;have hel:=Df (cl V.C 5);have hle:=zU (aY (cl V.C 5));have ET:Hid (∀ W,_):=fun W=>aa1 W (aY (cl V.C 5)) hel s;have Lc:Hid (∀ W,_):=fun W=>NT W (aY (cl V.C 5)) hel;have Hh:Hid (∀ W,aN W v Cv Lv V→_):=fun W hW=>IJ W v Cv Lv V hW om;have KX:Hid (∀ W,aN W v Cv Lv V→_):=fun W hW=>af0 W v Cv Lv V hW h5 hC hL (num (cl V.C 0) 6) hF;obtain ⟨q1,q2,q3,q4⟩:=af2 V (num (cl V.C 0) 6) hC h5 hF;have hsh:=akl (cl V.C 5);have HR:Hid (xg V s=if 0≤rZ (aY (cl V.C 5)) s then (V,3) else if lenOf (aY (cl V.C 5))=4 then (V,5) else if (iy V (num (cl V.C 0) 6)).2.2=0 then (fJ (bT (iy V (num (cl V.C 0) 6)).1 5 (mg ((aY (cl V.C 5)).set (lenOf (aY (cl V.C 5))) ⟨s.data.toList,(iy V (num (cl V.C 0) 6)).2.1⟩) 4)),0) else ((iy V (num (cl V.C 0) 6)).1,(iy V (num (cl V.C 0) 6)).2.2)):=by
  show _=_;unfold xg;rw [ak hnm]
 generalize iy V (num (cl V.C 0) 6)=R at*;generalize aY (cl V.C 5)=E at*;generalize num (cl V.C 0) 6=n0 at*;generalize num (cl V.C 0) 4=cc at*;obtain ⟨V1,n,er⟩:=R;dsimp only at q1 q2 q3 q4 HR KX
 go_enter Tryz.func47,Tryz.ntmps47
 go_wp2_with fail
 refine Hi.mono ?_;rintro e w1 ⟨rfl,hb1⟩;have E1:=ah ((Env.start H).later hb1);clear hb1 Hi
 go_wp2_with fail
 refine (uh Hl _ E1.at').mono ?_;rintro e w2 ⟨rfl,hb2⟩;have E2:=(E1.later hb2).lay (.cells (lv E).toArray 144);have l1:=fD E2.o0 (n:=8) (by rw [dW,hel]);have l2:=fG E2.o0 (n:=8) (by rw [dW,hel]);have E2:=ah E2;have QY:zl.length=4:=rfl;clear hb2 Hl E1
 go_wp2_with fail
 refine (uh ET _).mono ?_;rintro e w3 ⟨rfl,hb3⟩;have E3:=ah (E2.later hb3);clear hb3 ET E2 l1 l2;generalize rZ E s=fi at*
 by_cases hfi:0≤fi
 ·have hR:Hid (xg V s=(V,3)):=by show _=_;rw [uh HR,au hfi]
  have df:decide (fi≥0)=true:=eH hfi;have ES:=ah E3.step;clear E3;go_wp2;go_ret;rw [uh hR];exact ⟨rfl,_,_,uh ES⟩
 rw [ak hfi] at HR;have df:decide (fi≥0)=false:=gU hfi;have l3:=fD E3.o0 (n:=8) (by rw [dW,hel]);have l4:=fG E3.o0 (n:=8) (by rw [dW,hel])
 go_wp2_with fail
 refine (uh Lc _).mono ?_;rintro e w4 ⟨rfl,hb4⟩;have E4:=ah (E3.later hb4);clear hb4 Lc E3 l3 l4
 by_cases hl4:lenOf E=4
 ·have hR:Hid (xg V s=(V,5)):=by show _=_;rw [uh HR,au hl4]
  have dl:(((lenOf E:Nat):Int) == 4)=true:=by rw [Rx];omega
  have ES:=ah E4.step;clear E4;go_wp2;go_ret;rw [uh hR];exact ⟨rfl,_,_,uh ES⟩
 rw [ak hl4] at HR;have dl:(((lenOf E:Nat):Int) == 4)=false:=by rw [lI];omega
 have Hw:Hid (∀ W p,_):=fun W p=>au5 W E hel p om;have hsE:=hsh.set (lenOf E) ⟨s.data.toList,n⟩ (by exact hsl) (by simp only;omega);have WR:(E.set (lenOf E) ⟨s.data.toList,n⟩).length=4:=by rw [rG,hel]
 have xA:Hid (∀ W C1 L1,aN W v C1 L1 V1→_):=fun W C1 L1 hW=>ajA W v C1 L1 V1 hW (E.set (lenOf E) ⟨s.data.toList,n⟩) WR hsE om om;have hpL:=tZ V1 5 (mg (E.set (lenOf E) ⟨s.data.toList,n⟩) 4);have Hw2:Hid (∀ W,_):=fun W=>uh Hw W ⟨s.data.toList,n⟩;generalize lenOf E=le at*;generalize E.set le ⟨s.data.toList,n⟩=E' at*;generalize mg E' 4=lb at*;have Ir:Hid (∀ W C1 L1,aN W v C1 L1 (bT V1 5 lb)→_):=fun W C1 L1 hW=>zL W v C1 L1 (bT V1 5 lb) hW om;generalize bT V1 5 lb=V2 at*;clear Hw
 go_wp2_with fail
 refine (uh Hh _ E4.at').mono ?_;rintro e w5 ⟨rfl,hb5⟩;have E5:=ah (E4.later hb5);clear hb5 Hh E4
 go_wp2_with fail
 refine (uh KX _ E5.at').mono ?_;rintro e w6 ⟨rfl,C6,L6,hS6⟩;have E6:=ah (E5.fQ hS6);clear hS6 KX E5
 by_cases her:er=0
 ·subst her;have hR:Hid (xg V s=(fJ V2,0)):=by show _=_;rw [uh HR,au rfl]
  have l5:=fD E6.o0 (n:=8) (by rw [dW,hel]);have l6:=fG E6.o0 (n:=8) (by rw [dW,hel]);have hbe:=Dz s.data.toList n w6;rw [adH] at hbe;clear HR
  go_wp2_with fail
  refine (uh Hw2 _).mono ?_;rintro e w7 ⟨rfl,hb7⟩;have E7:=ah (E6.later hb7);clear hb7 Hw2 E6 l5 l6 hbe
  go_wp2_with fail
  refine (uh xA _ _ _ E7.at').mono ?_;rintro e w8 ⟨rfl,C8,L8,hS8⟩;have E8:=ah (E7.fQ hS8);clear hS8 xA E7
  go_wp2_with fail
  refine (uh Ir _ _ _ E8.at').mono ?_;rintro e w9 ⟨rfl,C9,L9,hS9⟩;have ES:=ah (E8.fQ hS9).step;clear hS9 Ir E8;go_wp2;go_ret;rw [uh hR];exact ⟨rfl,_,_,uh ES⟩
 ·have hR:Hid (xg V s=(V1,er)):=by show _=_;rw [uh HR,ak her]
  have de:(((er:Nat):Int) != 0)=true:=by rw [nR];omega
  have ES:=ah E6.step;clear E6 HR;go_wp2;go_ret;rw [uh hR];exact ⟨rfl,_,_,uh ES⟩
end
end Go.Proofs.YtknjjjenklfeoaaGreatDoor
