import Derived.Test.YtknjjjenklfeoaaGreatDoorO04
import Derived.Test.YtknjjjenklfeoaaGreatDoorO05
import Derived.Lib.LazyBuf
import Derived.Lib.ConvBytes
set_option maxHeartbeats 8000000
set_option maxRecDepth 100000
set_option linter.all false
namespace Go.Proofs.YtknjjjenklfeoaaGreatDoor
open Go.RowKit
section
attribute [local go_sem ↓] dw fP fZ kS mP mV jJ kJ jY jU lD lH kQ
attribute [local go_sem] dK fO fV gK gy aV kX mG mM mJ mF gI jK kH jX kZ kW iJ jW lq lC lu kF jc jd lY l7
def fE (a b:Nat):aj:=uU (uU (yR++List.replicate 60 0) 4 a) 6 b
theorem II (a b:Nat):(fE a b).length=64:=by rw [fE,QC,QC];rfl
theorem IB (a b:List UInt8):cv (a++b)=cv a++cv b:=rE
theorem auM:lU (cv zc).toArray 0 (cv yR)=(cv (yR++List.replicate 60 0)).toArray:=by
 have h:zc=List.replicate 4 0++List.replicate 60 0:=by rw [zc,Y9]
 rw [h,IB,IB];exact Oo _ _ _ (by simp [bg,yR])
theorem ao7 (a b:Nat):fE a b=uU (uU (yR++List.replicate 60 0) 4 a) 6 b:=rfl
theorem as1 (w:World) (b:Nat) (t:TypeId) (hb:w.heap[b]? = some (.cells (cv zc).toArray t (0,0))):
  (Builtin.copy_ #[73,9] 3 #[.slice (some ⟨b,0,none⟩) 64 64,.string ⟨#[86,69,76,77]⟩]).run Tryz.prog w= .ok (.int .i64 4) (w.setCells b 0 (cv yR)):=by
 have h:=run_copy_string (P:=Tryz.prog) w 73 9 3 5 b 0 64 64 ⟨#[86,69,76,77]⟩ Tryz.underlying73
  (run_sizeOf Tryz.ac5) dc (fun j hj=>by rw [qR,aG hb,bW,uO _ _ (by rw [aV];have:j<4:=hj;omega)];rfl) (fun j _=>eG hb _)
 rw [h];rfl
theorem P7 (w:World) (a b:Nat) (ha:a<65536) (hb:b<65536):
  Calls Tryz.prog 134 #[.agg (hv a b).toArray] w fun e w'=>e= .returned (.agg (cv (fE a b)).toArray)∧aC w w':=by
 have L0:=ah (dU.three w (.cells (hv a b).toArray 128) (.cells (cv zc).toArray 38) (.cells (cv zc).toArray 38));have hcp:=as1 _ _ _ L0.o2;have L1:=L0.setCells 2 rfl 0 (cv yR);rw [auM] at L1;generalize World.setCells _ _ _ (cv yR)=W1 at hcp L1;simp only [wG,nK] at L1;have x1:W1.cell? ⟨w.heap.size,0,none⟩=some (.int .i64 (a:Nat)):=(aG L1.o0 0).trans rfl;have ea:IntKind.u16.wrap (a:Int)=a:=wraps_u16 _ om om;have eb:IntKind.u16.wrap (b:Int)=b:=wraps_u16 _ om om;have Hp1:=ah (Oe W1 _ _ _ L1.o2 (by simp [yR]) 4 a om ha);have L1:=ah L1;clear L0
 go_enter Tryz.func134,Tryz.ntmps134
 go_wp2_with fail
 refine Hp1.mono ?_;rintro e W2 ⟨rfl,hb2,hk2⟩;have L2:=L1.put 2 _ hk2 hb2;simp only [wG,nK] at L2;have x2:W2.cell? ⟨w.heap.size,1,none⟩=some (.int .i64 (b:Nat)):=(aG L2.o0 1).trans rfl;have Hp2:=ah (Oe W2 _ _ _ L2.o2 (by rw [QC];simp [yR]) 6 b om hb);have L2:=ah L2;clear L1 Hp1 hb2 hk2 x1 hcp
 go_wp2_with fail
 refine Hp2.mono ?_;rintro e W3 ⟨rfl,hb3,hk3⟩;have L3:=L2.put 2 _ hk3 hb3;simp only [wG,nK] at L3;rw [← ao7] at L3;have hbl:=II a b;have l1:=gZ L3.o2 hbl;have l2:=gY L3.o2 hbl;have th:=iI L3.o1 0 64 (by simp [bg,aV]);have hset:=L3.setCells 1 rfl 0 (cv (fE a b));rw [qw _ _ (by simp [bg,aV,hbl])] at hset;have o1:=hset.o1;have l3:=gZ o1 hbl;have l4:=gY o1 hbl;have HB:=ah hset.below;clear L2 L3 Hp2 hb3 hk3 x2 hset o1;generalize hcc:fE a b=c at*;go_wp2;refine gV (qK Tryz.results134 ⟨w.heap.size+1,0,none⟩ rfl ?_) rfl ⟨rfl,uh HB⟩;rw [dw,dK l3,l4,hcc]
def Oq (k:List UInt8) (p:Nat) (c:aj):List UInt8:=k.take (64*p)++c++k.drop (64*p+64)
theorem atq (k:List UInt8) (p:Nat) (c:aj) (hk:k.length=256) (hc:c.length=64) (hp:p<4):(Oq k p c).length=256:=by
 simp [Oq,hk,hc];omega
theorem Yp (a b vs d:List Value) (h:b.length=vs.length):lU (a++b++d).toArray a.length vs=(a++vs++d).toArray:=by
 refine Io fun i=> ?_;rw [DC vs a.length _ i (by simp;omega)];simp only [bW]
 by_cases h1:i<a.length
 ·rw [ak om,uG,uG,oJ h1,oJ h1]
 ·by_cases h2:i<a.length+vs.length
  ·rw [au om,oJ (by simp;omega),nP om]
  ·rw [ak om,nP (by simp;omega),nP (by simp;omega)];simp [h]
theorem ato (k:List UInt8) (p:Nat) (c:aj) (hk:k.length=256) (hc:c.length=64) (hp:p<4):lU (cv k).toArray (64*p) (cv c)=(cv (Oq k p c)).toArray:=by
 have h:k=k.take (64*p)++(k.drop (64*p)).take 64++k.drop (64*p+64):=by
  rw [uG,← List.drop_drop,KJ,KJ]
 have h2:=Yp (cv (k.take (64*p))) (cv ((k.drop (64*p)).take 64)) (cv c) (cv (k.drop (64*p+64))) (by simp [bg,hk,hc];omega);rw [← IB,← IB,← IB,← IB,← h,bg,xu,hk,Rh om] at h2;exact h2
theorem asZ (w:World) (b x p:Nat) (t u:TypeId) (k:List UInt8) (c:aj) (hk:k.length=256) (hc:c.length=64) (hp:p<4) (hb:w.heap[b]? = some (.cells (cv k).toArray t (0,0))) (hx:w.heap[x]? = some (.cells (cv c).toArray u (0,0))) (n:Nat) (hn:n=256 - 64*p):
  (Builtin.copy_ #[73,73] 3 #[.slice (some ⟨b,64*p,none⟩) n n,.slice (some ⟨x,0,none⟩) 64 64]).run Tryz.prog w= .ok (.int .i64 64) (w.setCells b (64*p) (cv c)):=by
 have h:=run_copy_cells (P:=Tryz.prog) w 73 73 3 5 b (64*p) n n ⟨x,0,none⟩ 64 64 (cv c) Tryz.underlying73 Tryz.ac5
  (by rw [bg,hc];exact (Rh om).symm)
  (fun j v hv=>by rw [show (⟨x,0,none⟩:Addr).add j=⟨x,j,none⟩ by simp [Addr.add];omega];rw [aG hx,bW];exact hv)
  (fun j hj=>by rw [bg,hc] at hj;rw [aG hb,bW,uO _ _ om];rfl) (fun j _=>eG hb _) (zJ c)
 rw [h,bg,hc];rfl
theorem atn (w:World) (b:Nat) (k:List UInt8) (hk:k.length=256) (hb:w.heap[b]? = some (.cells (cv k).toArray 123 (0,0))) (p:Nat) (hp:p<4) (c:aj) (hc:c.length=64):
  Calls Tryz.prog 158 #[.pointer (some ⟨b,0,none⟩),.int .i64 (p:Nat),.agg (cv c).toArray] w fun e w'=>e= .returned (.tuple #[])∧w'.heap[b]? = some (.cells (cv (Oq k p c)).toArray 123 (0,0))∧Kept (fun x=>x=b) w w':=by
 have hbl:=aO hb;have hk1:=((Kept.refl (fun x=>x=b) w).alloc (.cells (cv c).toArray 38)).drew;have hb1:(w.alloc (.cells (cv c).toArray 38)).drew.heap[b]? = some (.cells (cv k).toArray 123 (0,0)):=(jE _ _ _ hbl).trans hb;have hx1:(w.alloc (.cells (cv c).toArray 38)).drew.heap[w.heap.size]? = some (.cells (cv c).toArray 38 (0,0)):=aW w _;have hcp:=fun n hn=>asZ _ b _ p _ _ k c hk hc hp hb1 hx1 n hn;have hk2:=hk1.setCells (b:=b) (aA rfl) (64*p) (cv c);have hb2:=JY (cv c) (64*p) _ _ _ _ _ hb1;rw [ato k p c hk hc hp] at hb2;have HK:=ah hk2;have HB:=ah hb2;clear hb1 hx1 hk1 hk2 hb2;rcases (show p=0∨p=1∨p=2∨p=3 by omega) with rfl | rfl | rfl | rfl
 ·have hcp1:=hcp 256 rfl;simp only [Nat.reduceMul] at hcp1;clear hcp
  go_enter Tryz.func158,Tryz.ntmps158
  go_wp2
  go_region
  go_end0
  exact ⟨rfl,uh HB,uh HK⟩
 ·have hcp1:=hcp 192 rfl;simp only [Nat.reduceMul] at hcp1;clear hcp
  go_enter Tryz.func158,Tryz.ntmps158
  go_wp2
  go_region
  go_end0
  exact ⟨rfl,uh HB,uh HK⟩
 ·have hcp1:=hcp 128 rfl;simp only [Nat.reduceMul] at hcp1;clear hcp
  go_enter Tryz.func158,Tryz.ntmps158
  go_wp2
  go_region
  go_end0
  exact ⟨rfl,uh HB,uh HK⟩
 ·have hcp1:=hcp 64 rfl;simp only [Nat.reduceMul] at hcp1;clear hcp
  go_enter Tryz.func158,Tryz.ntmps158
  go_wp2
  go_region
  go_end0
  exact ⟨rfl,uh HB,uh HK⟩
def partOf (k:List UInt8) (p:Nat):aj:=(k.drop (64*p)).take 64
theorem acv (k:List UInt8) (p:Nat) (hk:k.length=256) (hp:p<4):(partOf k p).length=64:=by simp [partOf,hk];omega
theorem ajl {w:World} {b:Nat} {k:List UInt8} {t:TypeId} {fr:Nat × Nat} (hb:w.heap[b]? = some (.cells (cv k).toArray t fr)) (p:Nat):w.rangeAt b (64*p) (cv (partOf k p)):=fun j v hv=>by
 rw [aG hb,bW];simp only [cv,jD,partOf] at hv ⊢;rw [Jp] at hv
 split at hv
 ·rw [OI] at hv;exact hv
 ·cases hv
theorem run_arrayAt (w:World) (a:Addr) (cap:Nat):(Instr.arrayAt 38 (.slice (some a) 64 cap)).run Tryz.prog w= .ok (.pointer (some a)) w:=by
 unfold Instr.arrayAt;simp [xw Tryz.underlying38,go_sem]
attribute [local go_sem] run_arrayAt
theorem arJ (w:World) (k:List UInt8) (hk:k.length=256) (p:Nat) (hp:p<4):
  Calls Tryz.prog 132 #[.agg (cv k).toArray,.int .i64 (p:Nat)] w fun e w'=>e= .returned (.agg (cv (partOf k p)).toArray)∧aC w w':=by
 have L0:=dU.two w (.cells (cv k).toArray 123) (.cells (cv zc).toArray 38);have hpl:=acv k p hk hp;have l1:=sV (n:=64) (ajl L0.o0 p) (by rw [bg,hpl]);have l2:=qX (n:=64) (ajl L0.o0 p) (by rw [bg,hpl]);have th:=iI L0.o1 0 64 (by simp [bg,aV]);have hset:=L0.setCells 1 rfl 0 (cv (partOf k p));rw [qw _ _ (by simp [bg,aV,hpl])] at hset;have l3:=gZ hset.o1 hpl;have l4:=gY hset.o1 hpl;have HB:=ah hset.below;clear L0 hset;rcases (show p=0∨p=1∨p=2∨p=3 by omega) with rfl | rfl | rfl | rfl
 all_goals
  generalize hcc:partOf k _=c at*;simp only [Nat.reduceMul] at l1 l2
  go_enter Tryz.func132,Tryz.ntmps132
  go_wp2;refine gV (qK Tryz.results132 ⟨w.heap.size+1,0,none⟩ rfl ?_) rfl ⟨rfl,uh HB⟩;rw [dw,dK l3,l4]
end
def letter (b:UInt8):Bool:=decide (97≤b.toNat) && decide (b.toNat≤122)
def oC (l:List UInt8):Bool:=l.all letter && (decide (1≤l.length) && decide (l.length≤12))
theorem abD (s:ByteArray) (w:World) (hs:s.size≤maxLen):
  Calls Tryz.prog 168 #[.string s] w fun e w'=>e= .returned (.bool (oC s.data.toList))∧w'=w:=by
 unfold maxLen at hs;have hlen:s.data.toList.length=s.size:=by rw [UR];rfl
 have Hr:Hid (oC s.data.toList=(s.data.toList.all letter && (decide (1≤s.data.toList.length) && decide (s.data.toList.length≤12)))):=rfl;rw [hlen] at Hr;have Hlen:=ah hlen;clear hlen
 go_enter Tryz.func168,Tryz.ntmps168
 go_wp2
 go_loop [3] (fun i=> ∃ k:Nat,k≤s.size∧i= .int .i64 k∧(s.data.toList.take k).all letter=true) (fun i=>s.size - (intOf i).toNat)
 case atStart=>exact ⟨0,nN _,rfl,sm⟩
 case round=>
  obtain ⟨k,hk,rfl,ha⟩:=hrel;have Ha:=ah ha;clear ha
  by_cases hlt:k<s.size
  ·have hts:s.data.toList.take (k+1)=s.data.toList.take k++[s[k]]:=by
    rw [yU (by simpa using hlt)];rfl
   have hb:=s[k].toNat_lt;have hl:letter s[k]=(decide (97≤s[k].toNat) && decide (s[k].toNat≤122)):=rfl;have hall:letter s[k]=false→oC s.data.toList=false:=fun hf=>by
    have:s.data.toList.all letter=false:=by
     rw [List.all_eq_false];exact ⟨s[k],by rw [← KJ (k+1) s.data.toList,hts];simp,by rw [hf];simp⟩
    rw [uh Hr,this];rfl
   have hnext:letter s[k]=true→(s.data.toList.take (k+1)).all letter=true:=fun ht=>by rw [hts,List.all_append,uh Ha];simp [ht]
   have HA:=ah hall;have HN:=ah hnext;have HL:=ah hl;clear hall hnext hl hts
   by_cases h97:s[k].toNat<97
   ·have d1:decide ((s[k].toNat:Int)<97)=true:=by simp;omega
    have e:=ah (uh HA (by rw [uh HL,show decide (97≤s[k].toNat)=false by simp;omega];rfl));go_wp2;go_ret;exact ⟨by rw [uh e];rfl,rfl⟩
   ·have d1:decide ((s[k].toNat:Int)<97)=false:=by simp;omega
    by_cases h122:122<s[k].toNat
    ·have d2:decide ((122:Int)<(s[k].toNat:Int))=true:=by simp;omega
     have e:=ah (uh HA (by rw [uh HL,show decide (s[k].toNat≤122)=false by simp;omega];simp));go_wp2;go_ret;exact ⟨by rw [uh e];rfl,rfl⟩
    ·have d2:decide ((122:Int)<(s[k].toNat:Int))=false:=by simp;omega
     have e:=ah (uh HN (by rw [uh HL,show decide (97≤s[k].toNat)=true by simp;omega,show decide (s[k].toNat≤122)=true by simp;omega];rfl));go_wp2
     go_round
     case rel=>exact ⟨k+1,om,gn,uh e⟩
     case measure=>exact cO
  ·have hks:k=s.size:=om;have hall:s.data.toList.all letter=true:=by
    have:=uh Ha
    rwa [hks,← uh Hlen,Ij] at this
   rw [hall,tC] at Hr;clear hall
   by_cases h1:1≤s.size
   ·have d1:decide ((1:Int)≤(s.size:Int))=true:=by simp;omega
    rw [show decide (1≤s.size)=true by simp;omega,tC] at Hr
    by_cases h12:s.size≤12
    ·have d2:decide ((s.size:Int)≤12)=true:=by simp;omega
     rw [show decide (s.size≤12)=true by simp;omega] at Hr;go_wp2;go_ret;exact ⟨by rw [uh Hr];rfl,rfl⟩
    ·have d2:decide ((s.size:Int)≤12)=false:=by simp;omega
     rw [show decide (s.size≤12)=false by simp;omega] at Hr;go_wp2;go_ret;exact ⟨by rw [uh Hr];rfl,rfl⟩
   ·have d1:decide ((1:Int)≤(s.size:Int))=false:=by simp;omega
    rw [gU h1,Jr] at Hr;go_wp2;go_ret;exact ⟨by rw [uh Hr];rfl,rfl⟩
def y9 (c:aj) (at':Nat):Nat→Nat→Bool→List UInt8→Option (List UInt8)
 | 0,_,_,acc=>some acc
 | m+1,i,over,acc=>
  if aI c (at'+i)=0 then y9 c at' m (i+1) true acc
  else if over then none
  else y9 c at' m (i+1) false (acc++[c.getD (at'+i) 0])
def nameOf (c:aj) (at':Nat):List UInt8 × Bool:=
 match y9 c at' 12 0 false [] with
 | none=>([],false)
 | some l=>(l,oC l)
theorem aqt (c:List UInt8) (a:Nat) (w:World) (hc:c.length=64) (ha:a≤52):
  Calls Tryz.prog 137 #[.agg (cv c).toArray,.int .i64 a] w fun e w'=>
   e= .returned (.tuple #[.string (bJ (nameOf c a).1),.bool (nameOf c a).2])∧aC w w':=by
 have hbx:(w.alloc (.cells (cv c).toArray 38)).heap[w.heap.size]? = some (.cells (cv c).toArray 38 (0,0)):=aW _ _;have hB:aC w (w.alloc (.cells (cv c).toArray 38)):=fC;have BA:Hid (nameOf c a=match y9 c a 12 0 false [] with | none=>([],false) | some l=>(l,oC l)):=rfl;generalize hT:y9 c a 12 0 false []=T at BA;have HT:=ah hT;have HB:=ah hB;have pz:=ah hbx;clear hT hB hbx
 go_enter Tryz.func137,Tryz.ntmps137
 go_wp2;generalize w.alloc (.cells (cv c).toArray 38)=W at*
 go_loopw [6,7,8] (fun t ov i w'=> ∃ (k:Nat) (over:Bool) (acc:List UInt8),k≤12∧acc.length≤k∧i= .int .i64 k∧ov= .bool over∧t= .string (bJ acc)∧aC W w'∧y9 c a (12 - k) k over acc=T) (fun _ _ i _=>12 - (intOf i).toNat)
 case atStart=>exact ⟨0,false,[],om,sm,rfl,rfl,rfl,bG _ _,uh HT⟩
 case round=>
  obtain ⟨k,over,acc,hk,hacc,rfl,rfl,rfl,hb,he⟩:=hrel;have hbx:wr.heap[w.heap.size]? = some (.cells (cv c).toArray 38 (0,0)):=(hb.block _ (aO pz)).trans pz;have He:=ah he;have Hb:=ah hb;clear he hb HT
  by_cases hlt:k<12
  ·have cb:=Lp hbx (a+k) om;have bl:=tV c (a+k);have hst:(if aI c (a+k)=0 then y9 c a (12 - (k+1)) (k+1) true acc else if over then none else y9 c a (12 - (k+1)) (k+1) false (acc++[c.getD (a+k) 0]))=T:=by
    rw [← uh He,show 12 - k=(12 - (k+1))+1 by omega,y9]
   have hget:c.getD (a+k) 0=UInt8.ofNat (aI c (a+k)):=by unfold aI;simp
   rw [hget] at hst;have fK:=ah hst;have Fv:(a:Int)+(k:Int)<64:=om;clear hst He hget hbx;generalize aI c (a+k)=q at*
   by_cases hq:q=0
   ·subst hq;rw [au rfl] at fK;go_wp2;go_roundw
    case rel=>exact ⟨k+1,true,acc,om,om,gn,rfl,rfl,uh Hb,uh fK⟩
    case measure=>exact cO
   ·have dq:((q:Int) == 0)=false:=by rw [lI];omega
    rw [ak hq] at fK;cases over with
    | true=>
     rw [au rfl] at fK;go_wp2;go_ret2;refine ⟨?_,HB.trans (Hb.mono HB.size)⟩;rw [uh BA,← uh fK];rfl
    | false=>
     rw [ak dc] at fK;have hcv:(convert 73 9 (.slice (some ⟨wr.heap.size,0,none⟩) 1 1)).run Tryz.prog (wr.alloc (.cells #[.int .u8 (q:Int)] 5))= .ok (.string (bJ [UInt8.ofNat q])) (wr.alloc (.cells #[.int .u8 (q:Int)] 5)):=by
      have e:(cv [UInt8.ofNat q]).toArray= #[.int .u8 (q:Int)]:=by
       have:(UInt8.ofNat q).toNat=q:=by simp;omega
       simp only [cv,jC,KN,this]
      have h1:(wr.alloc (.cells #[.int .u8 (q:Int)] 5)).heap[wr.heap.size]? = some (.cells (cv [UInt8.ofNat q]).toArray 5 (0,0)):=by rw [e];exact aW _ _
      exact afY h1 1 1 sm
     have hs1:(bJ acc).size≤12:=by show acc.toArray.size≤12;simp;omega
     have hs2:(bJ [UInt8.ofNat q]).size=1:=rfl;have happ:bJ acc++bJ [UInt8.ofNat q]=bJ (acc++[UInt8.ofNat q]):=by
      apply adO;simp [bJ,ByteArray.data_append]
     have alJ:=ah happ;clear happ;generalize bJ [UInt8.ofNat q]=t1 at*;go_wp2;refine ⟨⟨k+1,false,acc++[UInt8.ofNat q],om,by simp;omega,gn,rfl,by rw [uh alJ],Hb.alloc Hb.size _,uh fK⟩,by simp [intOf];omega⟩
  ·have hk12:k=12:=om;subst hk12;have hT:T=some acc:=He.symm;have Hn:=ah (abD (bJ acc) wr (by unfold maxLen;show acc.toArray.size≤_;simp;omega));rw [show (bJ acc).data.toList=acc from rfl] at Hn;rw [hT] at BA;clear hbx He hT
   go_wp2_with fail
   refine Hn.mono ?_;rintro e w2 ⟨rfl,rfl⟩;go_wp2;go_ret2;refine ⟨?_,HB.trans (Hb.mono HB.size)⟩;rw [uh BA];rfl
theorem acr (s:ByteArray) (w:World) (hs:s.size≤maxLen):
  Calls Tryz.prog 82 #[.string s] w fun e w'=>e= .returned (.bool (oC s.data.toList))∧aC w w':=by
 unfold maxLen at hs;have hlen:s.data.toList.length=s.size:=by rw [UR];rfl
 have Hr:Hid (oC s.data.toList=(s.data.toList.all letter && (decide (1≤s.data.toList.length) && decide (s.data.toList.length≤12)))):=rfl;rw [hlen] at Hr;have Hlen:=ah hlen;clear hlen
 by_cases h1:s.size<1
 ·have d1:decide ((s.size:Int)<1)=true:=eH om;rw [show decide (1≤s.size)=false from gU om,Jr,QZ] at Hr
  go_enter Tryz.func82,Tryz.ntmps82
  go_wp2;go_ret;exact ⟨by rw [uh Hr];rfl,bG _ _⟩
 have d1:decide ((s.size:Int)<1)=false:=gU om;rw [show decide (1≤s.size)=true from eH om,tC] at Hr
 by_cases h12:12<s.size
 ·have d2:decide ((12:Int)<(s.size:Int))=true:=eH om;rw [show decide (s.size≤12)=false from gU om,QZ] at Hr
  go_enter Tryz.func82,Tryz.ntmps82
  go_wp2;go_ret;exact ⟨by rw [uh Hr];rfl,bG _ _⟩
 have d2:decide ((12:Int)<(s.size:Int))=false:=gU om;rw [show decide (s.size≤12)=true from eH om,Y6] at Hr;have hconv:=Lib.run_convert_string_bytes (P:=Tryz.prog) w 9 73 5 s Tryz.underlying9 Tryz.underlying73 Tryz.underlying5;have hB:Hid (aC w (Lib.bytesWorld w 5 s)):=⟨rfl,rfl,rfl,by rw [Lib.bytesWorld_size];omega,fun k hk=>Lib.bytesWorld_at_old w _ s k hk⟩;have hC:Hid (∀ j,j<s.size→(Lib.bytesWorld w 5 s).cell? ⟨w.heap.size,j,none⟩=some (.int .u8 (s.data.toList.getD j 0).toNat)):=fun j hj=>Lib.bytesWorld_cell w _ s j hj;generalize Lib.bytesWorld w 5 s=w1 at hconv hB hC;generalize grownCap w s.size 0 5=cap at hconv
 go_enter Tryz.func82,Tryz.ntmps82
 go_wp2
 go_loop [16] (fun i=> ∃ k:Nat,k≤s.size∧i= .int .i64 k∧(s.data.toList.take k).all letter=true) (fun i=>s.size - (intOf i).toNat)
 case atStart=>exact ⟨0,nN _,rfl,sm⟩
 case round=>
  obtain ⟨k,hk,rfl,ha⟩:=hrel;have Ha:=ah ha;clear ha
  by_cases hlt:k<s.size
  ·have hget:s.data.toList.getD k 0=s[k]:=by
    rw [aK,bI (by rw [uh Hlen];exact hlt)];rfl
   have hcell:=uh hC k hlt;rw [hget] at hcell;have hts:s.data.toList.take (k+1)=s.data.toList.take k++[s[k]]:=by
    rw [yU (by rw [uh Hlen];exact hlt)];rfl
   have hb:=s[k].toNat_lt;have hl:letter s[k]=(decide (97≤s[k].toNat) && decide (s[k].toNat≤122)):=rfl;have hall:letter s[k]=false→oC s.data.toList=false:=fun hf=>by
    have:s.data.toList.all letter=false:=by
     rw [List.all_eq_false];exact ⟨s[k],by rw [← KJ (k+1) s.data.toList,hts];simp,by rw [hf];simp⟩
    rw [uh Hr,this]
   have hnext:letter s[k]=true→(s.data.toList.take (k+1)).all letter=true:=fun ht=>by rw [hts,List.all_append,uh Ha];simp [ht]
   have HA:=ah hall;have HN:=ah hnext;have HL:=ah hl;clear hall hnext hl hts hget
   by_cases h97:s[k].toNat<97
   ·have d3:decide ((s[k].toNat:Int)<97)=true:=eH om;have e:=ah (uh HA (by rw [uh HL,show decide (97≤s[k].toNat)=false from gU om];rfl));go_wp2;go_ret;exact ⟨by rw [uh e];rfl,uh hB⟩
   ·have d3:decide ((s[k].toNat:Int)<97)=false:=gU om
    by_cases h122:122<s[k].toNat
    ·have d4:decide ((122:Int)<(s[k].toNat:Int))=true:=eH om;have e:=ah (uh HA (by rw [uh HL,show decide (s[k].toNat≤122)=false from gU om];simp));go_wp2;go_ret;exact ⟨by rw [uh e];rfl,uh hB⟩
    ·have d4:decide ((122:Int)<(s[k].toNat:Int))=false:=gU om;have e:=ah (uh HN (by rw [uh HL,show decide (97≤s[k].toNat)=true from eH om,show decide (s[k].toNat≤122)=true from eH om];rfl));go_wp2
     go_round
     case rel=>exact ⟨k+1,om,gn,uh e⟩
     case measure=>exact cO
  ·have hks:k=s.size:=om;have hall:s.data.toList.all letter=true:=by
    have:=uh Ha
    rwa [hks,← uh Hlen,Ij] at this
   rw [hall] at Hr;clear hall;go_wp2;go_ret;exact ⟨by rw [uh Hr];rfl,uh hB⟩
section
attribute [local go_sem ↓] dw fP fZ
attribute [local go_sem] dK fO fV gK gy aV
theorem MH (l:List UInt8):(bJ l).toList=l:=by rw [ByteArray.toList_eq];rfl
def Cb (Q:List bC) (s:List UInt8):Nat→Nat→Bool
 | 0,_=>false
 | m+1,k=>if (Q.getD k ⟨0,0,[]⟩).name=s then true else Cb Q s m (k+1)
def LD (c:aj) (i:Nat) (over:Bool):Bool:=over || (!(nameOf c (16*i+2)).2 || (aI c (16*i+14) != 0 || aI c (16*i+15) != 0))
def qJ (c:aj):Nat→Nat→Bool→List bC→Bool × List bC
 | 0,_,_,Q=>(true,Q)
 | m+1,i,over,Q=>
  if num c (16*i)=0 then (if uX c 16 (16*i) then qJ c m (i+1) true Q else (false,Q))
  else if LD c i over then (false,Q)
  else if Cb Q (nameOf c (16*i+2)).1 (Q.length - 1) 1 then (false,Q)
  else qJ c m (i+1) over (Q++[⟨num c (16*i),5,(nameOf c (16*i+2)).1⟩])
def iO (R:aU):Bool × List bC:=qJ (cl R.L 5) 4 0 false R.roots
structure Nj (w0 w':World) (f:Nat) (Lv Rv vJ:Value) (R:aU) (Q:List bC) (c:aj) (bx:Nat):Prop where
 at':bV w' f Lv vJ { R with roots:=Q }
 kept:Kept (fun k=>k=f∨Rv.ownBlock=some k) w0 w'
 box:w'.heap[bx]? = some (.cells (cv c).toArray 38 (0,0))
 own: ∀ g,vJ.ownBlock=some g→Rv.ownBlock=some g∨bx<g
theorem Nj.later {w0 w' w2:World} {f:Nat} {Lv Rv vJ:Value} {R:aU} {Q:List bC} {c:aj} {bx:Nat} (h:Nj w0 w' f Lv Rv vJ R Q c bx) (hb:Below w'.heap.size w' w2):Nj w0 w2 f Lv Rv vJ R Q c bx:=
 ⟨h.at'.below hb,h.kept.trans (Kept.dS hb),(hb.block _ (aO h.box)).trans h.box,h.own⟩
theorem ap2 {w wr w5:World} {f g5 cap5:Nat} {Lv Rv vJ:Value} {R:aU} {Q:List bC} {r:bC} {c:aj} {X:Obj} (hg:Nj w wr f Lv Rv vJ R Q c w.heap.size) (hlt: ∀ g,Rv.ownBlock=some g→g<w.heap.size) (hfb:f<w.heap.size)
  (hown5:w5.ownsRow 0 132 3 (.slice (some ⟨g5,0,none⟩) (Q.length+1) cap5) (Q.length+1) (Q.flatMap ig++ig r)) (hgrow:(wr.alloc X).grownBy w5 vJ.ownBlock) (hat:vJ.ownBlock=some g5∨g5=wr.heap.size+1):
  Nj w (w5.setCell ⟨f,1,none⟩ (.slice (some ⟨g5,0,none⟩) (Q.length+1) cap5)) f Lv Rv (.slice (some ⟨g5,0,none⟩) (Q.length+1) cap5) R (Q++[r]) c w.heap.size:=by
 have hX:bV (wr.alloc X) f Lv vJ { R with roots:=Q }:=hg.at'.below (fC);have hs:=hg.kept.size;have hbl:=aO hg.box;refine ⟨hX.ag2 hgrow (Q:=Q++[r]) (by simpa using hown5),?_,?_,?_⟩
 ·refine ((hg.kept.alloc X).grown hgrow (fun g hg'=> ?_)).setCell (p:=⟨f,1,none⟩) (aA (aA rfl)) _;rcases hg.own g hg' with x | x
  ·exact aA (ay x)
  ·exact ay om
 ·rw [Ry _ _ _ _ (by show w.heap.size≠f;omega)];refine qH hgrow ((jE _ _ _ hbl).trans hg.box) (fun k hk e=> ?_);rcases hg.own k hk with x | x
  ·have:=hlt k x;omega
  ·omega
 ·intro g hg';simp only [Value.ownBlock,jv] at hg';subst hg';rcases hat with h | h
  ·exact hg.own _ h
  ·exact ay om
theorem ap1 (w:World) (f:Nat) (Lv Rv:Value) (R:aU) (h:bV w f Lv Rv R) (hL6:6≤R.L.length) (hr1:R.roots.length=1):
  Calls Tryz.prog 75 #[.pointer (some ⟨f,0,none⟩)] w fun e w'=>
   e= .returned (.bool (iO R).1)∧ ∃ vJ,bV w' f Lv vJ { R with roots:=(iO R).2 }∧Kept (fun k=>k=f∨Rv.ownBlock=some k) w w'∧(∀ g,vJ.ownBlock=some g→Rv.ownBlock=some g∨w.heap.size≤g):=by
 obtain ⟨g,cap,rfl,hc⟩:=gB h.fF om;have l1:=oI h.fF h.lens 5 om;have l2:=oH h.fF h.lens 5 om;have hcl:=iM h.lens (k:=5) om;have c0:=h.uN;have hLi:(5:Int)<(R.L.length:Int):=om;have hfb:f<w.heap.size:=h.lt;have g0:Nj w (w.alloc (.cells (cv (cl R.L 5)).toArray 38)) f (.slice (some ⟨g,0,none⟩) R.L.length cap) Rv Rv R R.roots (cl R.L 5) w.heap.size:=
  ⟨h.below (fC),(Kept.refl _ _).alloc _,aW _ _,fun g hg=>aA hg⟩
 have hT:iO R=qJ (cl R.L 5) 4 0 false R.roots:=rfl;have HT:=ah hT;have G0:=ah g0;clear hT g0;have aha: ∀ g,Rv.ownBlock=some g→g<w.heap.size:=fun g hg=>(h.o8.lt g hg).2;have alG:=ah aha;clear aha;generalize cl R.L 5=c at*;have hx5:5*64=320:=rfl;rw [hx5] at l1 l2;clear hx5
 go_enter Tryz.func75,Tryz.ntmps75
 go_wp2;generalize w.alloc (.cells (cv c).toArray 38)=W at*;obtain ⟨i1,hi1,hy0,hy1,hy2⟩:=qy Tryz.ahQ;clear c0 l1 l2
 go_loopw [4,5] (fun ov i w'=> ∃ (k:Nat) (over:Bool) (Q:List bC) (vJ:Value),k≤4∧1≤Q.length∧Q.length≤1+k∧i= .int .i64 k∧ov= .bool over∧Nj w w' f (.slice (some ⟨g,0,none⟩) R.L.length cap) Rv vJ R Q c w.heap.size∧iO R=qJ c (4 - k) k over Q) (fun _ i _=>4 - (intOf i).toNat)
 case atStart=>exact ⟨0,false,R.roots,Rv,om,om,om,rfl,rfl,uh G0,uh HT⟩
 case round=>
  obtain ⟨k,over,Q,vJ,hk,hQ1,hQ,rfl,rfl,hg,he⟩:=hrel;have He:=ah he;clear he HT G0
  by_cases hlt:k<4
  ·have l1:=gZ hg.box hcl;have l2:=gY hg.box hcl;have Hn:=ah (Em c (16*(k:Int)) wr hcl om om);rw [show (16*(k:Int)).toNat=16*k by omega] at Hn;have hnl:=iD c (16*k);have hst:iO R=if num c (16*k)=0 then (if uX c 16 (16*k) then qJ c (4 - (k+1)) (k+1) true Q else (false,Q))
     else if LD c k over then (false,Q)
     else if Cb Q (nameOf c (16*k+2)).1 (Q.length - 1) 1 then (false,Q)
     else qJ c (4 - (k+1)) (k+1) over (Q++[⟨num c (16*k),5,(nameOf c (16*k+2)).1⟩]):=by
    rw [uh He,show 4 - k=(4 - (k+1))+1 by omega,qJ]
   have fK:=ah hst;have Hg:=ah hg;clear hst He hg;generalize num c (16*k)=n at*
   go_wp2_with fail
   refine Hn.mono ?_;rintro e w1 ⟨rfl,hb1⟩;have Hg1:=ah (Hg.later hb1);clear Hn hb1 Hg l1 l2
   by_cases hn0:n=0
   ·subst hn0;rw [au rfl] at fK;generalize hrz:uX c 16 (16*k)=rz at fK;have Hrz:=ah hrz;clear hrz;go_wp2
    go_loopw [8] (fun i w'=> ∃ m:Nat,m≤16∧i= .int .i64 m∧w'=w1∧uX c (16 - m) (16*k+m)=rz) (fun i _=>16 - (intOf i).toNat)
    case atStart=>exact ⟨0,om,rfl,rfl,uh Hrz⟩
    case round=>
     obtain ⟨m,hm,rfl,rfl,hz⟩:=hrel;have Hz:=ah hz;clear hz Hrz
     by_cases hlt2:m<16
     ·have cb:=Lp Hg1.box (16*k+m) om;have bl:=tV c (16*k+m);have hz2:(if aI c (16*k+m)=0 then uX c (16 - (m+1)) (16*k+m+1) else false)=rz:=by
       rw [← uh Hz,show 16 - m=(16 - (m+1))+1 by omega,uX]
      have Hz2:=ah hz2;clear hz2 Hz;have hki:(16:Int)*(k:Int)+(m:Int)<64:=om;generalize aI c (16*k+m)=q at*
      by_cases hq:q=0
      ·subst hq;rw [au rfl] at Hz2;go_wp2;go_roundw
       case rel=>exact ⟨m+1,om,gn,by trivial,uh Hz2⟩
       case measure=>exact cO
      ·have dq:((q:Int) != 0)=true:=by rw [nR];omega
       rw [ak hq] at Hz2;rw [← uh Hz2] at fK;go_wp2;go_ret;have e:iO R=(false,Q):=by rw [uh fK];rfl
       rw [e];exact ⟨rfl,vJ,Hg1.at',Hg1.kept,fun g hg=>by rcases Hg1.own g hg with x | x;exact aA x;exact ay om⟩
     ·have hm16:m=16:=om;subst hm16;rw [← uh Hz] at fK;go_wp2;go_roundw
      case rel=>exact ⟨k+1,true,Q,vJ,om,hQ1,om,gn,rfl,uh Hg1,by rw [uh fK];rfl⟩
      case measure=>exact cO
   ·have dn:((n:Int) == 0)=false:=by rw [lI];omega
    rw [ak hn0] at fK;have l1:=gZ Hg1.box hcl;have l2:=gY Hg1.box hcl;have DT:=ah (aqt c (16*k+2) w1 hcl om);rw [show ((16*k+2:Nat):Int)=16*(k:Int)+2 by omega] at DT
    go_wp2_with fail
    refine DT.mono ?_;rintro e w2 ⟨rfl,hb2⟩;have Hg2:=ah (Hg1.later hb2);clear DT hb2 Hg1 l1 l2;have cb14:=Lp Hg2.box (16*k+14) om;have cb15:=Lp Hg2.box (16*k+15) om;have bl14:=tV c (16*k+14);have bl15:=tV c (16*k+15);have HE:Hid (LD c k over=(over || (!(nameOf c (16*k+2)).2 || (aI c (16*k+14) != 0 || aI c (16*k+15) != 0)))):=rfl;have hki:(16:Int)*(k:Int)+15<64:=om;generalize aI c (16*k+14)=q14 at*;generalize aI c (16*k+15)=q15 at*;generalize (nameOf c (16*k+2)).2=ok at*;generalize (nameOf c (16*k+2)).1=nm at*;cases over with
    | true=>
     have e:iO R=(false,Q):=by
      have hx:=uh fK;rw [uh HE] at hx;exact hx
     have E:=ah e;clear e fK HE;go_wp2;go_ret;rw [uh E];exact ⟨rfl,vJ,Hg2.at',Hg2.kept,fun g hg=>by rcases Hg2.own g hg with x | x;exact aA x;exact ay om⟩
    | false=>
    cases ok with
    | false=>
     have e:iO R=(false,Q):=by
      have hx:=uh fK;rw [uh HE] at hx;exact hx
     have E:=ah e;clear e fK HE;go_wp2;go_ret;rw [uh E];exact ⟨rfl,vJ,Hg2.at',Hg2.kept,fun g hg=>by rcases Hg2.own g hg with x | x;exact aA x;exact ay om⟩
    | true=>
    by_cases h14:q14=0
    case neg=>
     have d14:((q14:Int) != 0)=true:=by rw [nR];omega
     have e14:(q14 != 0)=true:=by rw [nR];exact h14
     rw [e14] at HE;clear e14;have e:iO R=(false,Q):=by
      have hx:=uh fK;rw [uh HE] at hx;exact hx
     have E:=ah e;clear e fK HE;go_wp2;go_ret;rw [uh E];exact ⟨rfl,vJ,Hg2.at',Hg2.kept,fun g hg=>by rcases Hg2.own g hg with x | x;exact aA x;exact ay om⟩
    case pos=>
    subst h14
    by_cases h15:q15=0
    case neg=>
     have d15:((q15:Int) != 0)=true:=by rw [nR];omega
     have e15:(q15 != 0)=true:=by rw [nR];exact h15
     rw [e15] at HE;clear e15;have e:iO R=(false,Q):=by
      have hx:=uh fK;rw [uh HE] at hx;exact hx
     have E:=ah e;clear e fK HE;go_wp2;go_ret;rw [uh E];exact ⟨rfl,vJ,Hg2.at',Hg2.kept,fun g hg=>by rcases Hg2.own g hg with x | x;exact aA x;exact ay om⟩
    case pos=>
    subst h15;have hst:iO R=if Cb Q nm (Q.length - 1) 1 then (false,Q) else qJ c (4 - (k+1)) (k+1) false (Q++[⟨n,5,nm⟩]):=by
     have hx:=uh fK;rw [uh HE] at hx;exact hx
    clear fK HE;generalize hni:Cb Q nm (Q.length - 1) 1=ni at hst;have Hni:=ah hni;have fK:=ah hst;clear hst hni;have c1:=Hg2.at'.BG;obtain ⟨a2,cap2,PY⟩:=iq Hg2.at'.o8;rw [show ({ R with roots:=Q }:aU).roots=Q from rfl] at PY;subst PY;go_wp2
    go_loopw [11] (fun i w'=> ∃ m:Nat,1≤m∧m≤Q.length∧i= .int .i64 m∧w'=w2∧Cb Q nm (Q.length - m) m=ni) (fun i _=>Q.length - (intOf i).toNat)
    case atStart=>exact ⟨1,om,om,rfl,rfl,uh Hni⟩
    case round=>
     obtain ⟨m,hm1,hm,rfl,rfl,hz⟩:=hrel;have Hz:=ah hz;clear hz Hni
     by_cases hlt2:m<Q.length
     ·have hrow:=Hg2.at'.o8;rw [show ({ R with roots:=Q }:aU).roots=Q from rfl] at hrow;obtain ⟨g2,cap3,e2,_⟩:=gB hrow om;obtain ⟨rfl,rfl⟩:a2=some ⟨g2,0,none⟩∧cap2=cap3:=by injection e2 with x1 x2 x3;exact ⟨x1,x3⟩
      have r2:=xU hrow m hlt2 2 om;simp only [ig,Ju,EN] at r2;have TJ:(m:Int)<(Q.length:Int):=om;have hz2:(if (Q.getD m ⟨0,0,[]⟩).name=nm then true else Cb Q nm (Q.length - (m+1)) (m+1))=ni:=by
       rw [← uh Hz,show Q.length - m=(Q.length - (m+1))+1 by omega,Cb]
      have Hz2:=ah hz2;clear hz2 Hz hrow e2;generalize (Q.getD m ⟨0,0,[]⟩).name=nn at*
      by_cases heq:nn=nm
      ·have Heq:=ah heq;rw [au heq] at Hz2;rw [← uh Hz2] at fK;subst heq;have db:(nn == (bJ nn).toList)=true:=by rw [MH];simp
       go_wp2;go_ret;have e:iO R=(false,Q):=uh fK;rw [e];exact ⟨rfl,_,Hg2.at',Hg2.kept,fun g hg=>by rcases Hg2.own g hg with x | x;exact aA x;exact ay om⟩
      ·rw [ak heq] at Hz2;have db:(nn == (bJ nm).toList)=false:=by rw [MH,lI];exact heq
       clear heq;go_wp2;go_roundw
       case rel=>exact ⟨m+1,om,om,gn,by trivial,uh Hz2⟩
       case measure=>exact cO
     ·have hmQ:m=Q.length:=om;have hni:ni=false:=by rw [← uh Hz,hmQ,Bf];rfl
      rw [hni] at fK;have hst:iO R=qJ c (4 - (k+1)) (k+1) false (Q++[⟨n,5,nm⟩]):=uh fK;have HST:=ah hst;clear hst fK hni Hz hmQ;have hrow:=Hg2.at'.o8;rw [show ({ R with roots:=Q }:aU).roots=Q from rfl] at hrow;have fA:=ah hrow;clear hrow;have hsz:=Hg2.at'.lt;have HX:Hid (bV (wr.alloc (.cells (ig ⟨n,5,nm⟩).toArray 132)) f (.slice (some ⟨g,0,none⟩) R.L.length cap) (.slice a2 Q.length cap2) { R with roots:=Q }):=Hg2.at'.below (fC)
      go_wp2_with (at_builtin;refine xZ _ rfl _ _ _ rfl 0 132 i1 _ 3 32 Tryz.underlying90 hi1 hy0 hy1 hy2 rfl om (.slice a2 Q.length cap2) Q.length (Q.flatMap ig) rfl (fA.alloc _) ⟨wr.heap.size,0,none⟩ 1 1 (ig ⟨n,5,nm⟩) rfl rfl (pU (cs:=(ig ⟨n,5,nm⟩).toArray) (t:=132) (fr:=(0,0)) (aW wr _)) (by simp [ig,Value.oneCell']) om (by unfold maxLen;omega) om om (wr.heap.size+1) sm ?_;intro g5 cap5 w5 hown5 hgrow hat uP;have b5:=qH hgrow HX.aF HX.Uh;have c5:w5.cell? ⟨f,1,none⟩=some (.slice a2 Q.length cap2):=(aG b5 1).trans rfl;have z5:w5.frozen? ⟨f,1,none⟩=false:=eG b5 1)
      have S5:=ah (ap2 Hg2 alG hfb hown5 hgrow hat);go_roundw
      case rel=>exact ⟨k+1,false,Q++[⟨n,5,nm⟩],.slice (some ⟨g5,0,none⟩) (Q.length+1) cap5,om,sm,by simp;omega,gn,rfl,uh S5,uh HST⟩
      case measure=>exact cO
  ·have hk4:k=4:=om;subst hk4;have e:iO R=(true,Q):=uh He;have Hg:=ah hg;have E:=ah e;clear hg e He;go_wp2;go_ret;rw [uh E];exact ⟨rfl,vJ,Hg.at',Hg.kept,fun g hg=>by rcases Hg.own g hg with x | x;exact aA x;exact ay om⟩
end
theorem UN (t:Nat): ∀ m k R,(oN t m k R).2.L=R.L
 | 0,_,_=>rfl
 | m+1,k,R=>by
  rw [oN];split
  ·exact UN t m _ R
  ·split
   ·rw [UN t m,zn]
   ·exact zn _ _ _ _
theorem YQ (t:Nat): ∀ m k R,(oN t m k R).2.roots=R.roots
 | 0,_,_=>rfl
 | m+1,k,R=>by
  rw [oN];split
  ·exact YQ t m _ R
  ·split
   ·rw [YQ t m,MG]
   ·exact MG _ _ _ _
theorem ady (t:Nat): ∀ m k R,(oN t m k R).1=true→ ∀ j,k≤j→j<k+m→num (cl R.L t) (2*j)≠0→num (cl R.L t) (2*j)%32768<R.L.length
 | 0,_,_,_,j,h1,h2,_=>om
 | m+1,k,R,h,j,h1,h2,hj=>by
  rw [oN] at h
  split at h
  ·rename_i h0
   by_cases e:j=k
   ·subst e;exact absurd h0 hj
   ·exact ady t m (k+1) R h j om om hj
  ·split at h
   ·rename_i h0 ht
    by_cases e:j=k
    ·subst e;exact (Ji ht).2
    ·have:=ady t m (k+1) _ h j om om (by rw [zn];exact hj)
     rw [zn] at this;exact this
   ·cases h
theorem adC (t:Nat): ∀ m i R,(xk t m i R).1=true→ ∀ j,i≤j→j<i+m→num (cl R.L t) (2*j)≠0→
  num (cl R.L t) (2*j)%32768<R.L.length∧ ∀ k,k<32→num (cl R.L (num (cl R.L t) (2*j)%32768)) (2*k)≠0→num (cl R.L (num (cl R.L t) (2*j)%32768)) (2*k)%32768<R.L.length
 | 0,_,_,_,j,h1,h2,_=>om
 | m+1,i,R,h,j,h1,h2,hj=>by
  rw [xk] at h
  split at h
  ·rename_i h0
   by_cases e:j=i
   ·subst e;exact absurd h0 hj
   ·exact adC t m (i+1) R h j om om hj
  ·split at h
   ·cases h
   ·split at h
    ·split at h
     ·rename_i h0 hi ht hin
      by_cases e:j=i
      ·subst e;refine ⟨(Ji ht).2,fun k hk hy=> ?_⟩
       have:=ady _ 32 0 _ hin k om om (by rw [zn];exact hy)
       rw [zn] at this;exact this
      ·have:=adC t m (i+1) _ h j om om (by rw [UN,zn];exact hj)
       rw [UN,zn] at this;exact this
     ·cases h
    ·cases h
theorem auz {R:aU} {r:bC} (h:(tree R r).1=true):rH R.L r.N:=by
 unfold tree at h
 split at h
 ·rename_i ht;have hN:=Ji ht;have hx:=adC r.N 32 0 _ h;simp only [zn] at hx;refine ⟨hN.2,fun i hi h0=>(hx i om om h0).1,fun i hi h0 k hk=> ?_⟩
  by_cases hy:num (cl R.L (num (cl R.L r.N) (2*i)%32768)) (2*k)=0
  ·rw [hy];omega
  ·exact (hx i om om h0).2 k hk hy
 ·cases h
def AZ:Nat→Nat→aU→Bool × aU
 | 0,_,R=>(true,R)
 | m+1,i,R=>if (tree R (rootOf R i)).1 then AZ m (i+1) (tree R (rootOf R i)).2 else (false,(tree R (rootOf R i)).2)
def wX (R:aU):Nat→Nat→Int→Int
 | 0,_,b=>b
 | m+1,i,b=>if b<0 then wX R m (i+1) (marked R (rootOf R i)).1 else b
def EJ:List Nat:=List.replicate 256 0
def UQ:List Nat:=[1,1,1,1,1,1]++List.replicate 250 0
def R0:aU:=⟨[],[],EJ,EJ,-1⟩
def gu (file:List aj):aU:={ R0 with L:=aZ file (num (cl file 0) 4),roots:=[⟨num (cl file 0) 6,0,[]⟩] }
def qE (file:List aj):aU:={ gu file with roots:=(iO (gu file)).2,used:=UQ }
def iG (file:List aj):Bool × aU:=AZ (qE file).roots.length 0 (qE file)
def look (file:List aj):aU:=
 if lQ file=false then { R0 with bad:=0 }
 else if (iO (gu file)).1=false then { gu file with roots:=(iO (gu file)).2,bad:=5 }
 else if (iG file).1=false then (iG file).2
 else { (iG file).2 with bad:=wX (iG file).2 (iG file).2.roots.length 0 (qm (iG file).2 256 0) }
end Go.Proofs.YtknjjjenklfeoaaGreatDoor
