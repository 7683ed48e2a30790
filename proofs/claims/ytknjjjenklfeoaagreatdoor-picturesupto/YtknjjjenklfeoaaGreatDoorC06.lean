import Derived.Test.YtknjjjenklfeoaaGreatDoorC04
import Derived.Test.YtknjjjenklfeoaaGreatDoorC05
import Derived.Lib.LazyBuf
import Derived.Lib.ConvBytes
set_option maxHeartbeats 8000000
set_option maxRecDepth 100000
namespace Go.Proofs.YtknjjjenklfeoaaGreatDoor
open Go.RowKit
attribute [local go_sem ↓] loadVar_clus storeVar_clus zeroValue_clus loadVar_tab storeVar_tab zeroValue_tab loadVar_cnt storeVar_cnt zeroValue_cnt loadVar_head storeVar_head zeroValue_head build_head
attribute [local go_sem] run_loadClus run_storeClus run_zeroClus run_storeClus_new run_loadClus_new zc_length run_loadTab run_storeTab run_zeroTab run_storeTab_new run_loadTab_new zt_length run_loadCnt run_storeCnt run_zeroCnt run_storeCnt_new run_loadCnt_new zk_length run_loadHead run_storeHead run_zeroHead run_storeHead_new run_bHead HasAt_drew cellsAt_drew HasAt_drewN cellsAt_drewN
def headBytes (a b:Nat):Clus:=putNum (putNum (velm++List.replicate 60 0) 4 a) 6 b
theorem headBytes_length (a b:Nat):(headBytes a b).length=64:=by rw [headBytes,putNum_length,putNum_length];rfl
theorem cv_append (a b:List UInt8):cv (a++b)=cv a++cv b:=List.map_append
theorem velm_front:setList (cv zc).toArray 0 (cv velm)=(cv (velm++List.replicate 60 0)).toArray:=by
 have h:zc=List.replicate 4 0++List.replicate 60 0:=by rw [zc,List.replicate_append_replicate]
 rw [h,cv_append,cv_append]
 exact setList_front _ _ _ (by simp [cv_length,velm])
theorem headBytes_eq (a b:Nat):headBytes a b=putNum (putNum (velm++List.replicate 60 0) 4 a) 6 b:=rfl
theorem run_copy_velm (w:World) (b:Nat) (t:TypeId) (hb:w.heap[b]? = some (.cells (cv zc).toArray t (0,0))):
   (Builtin.copy_ #[73,9] 3 #[.slice (some ⟨b,0,none⟩) 64 64,.string ⟨#[86,69,76,77]⟩]).run Tryz.prog w= .ok (.int .i64 4) (w.setCells b 0 (cv velm)):=by
 have h:=run_copy_string (P:=Tryz.prog) w 73 9 3 5 b 0 64 64 ⟨#[86,69,76,77]⟩ Tryz.underlying73
   (run_sizeOf Tryz.sizeByte) (by decide) (fun j hj=>by rw [Nat.zero_add,cell_blk hb,List.getElem?_toArray,cv_get _ _ (by rw [zc_length];have:j<4:=hj;omega)];rfl) (fun j _=>frozen_blk hb _)
 rw [h];rfl
theorem headCluster_any (w:World) (a b:Nat) (ha:a<65536) (hb:b<65536):
   Calls Tryz.prog 134 #[.agg (hv a b).toArray] w fun e w'=>e= .returned (.agg (cv (headBytes a b)).toArray)∧Below w.heap.size w w':=by
 have L0:=hide (Locs.three w (.cells (hv a b).toArray 128) (.cells (cv zc).toArray 38) (.cells (cv zc).toArray 38))
 have hcp:=run_copy_velm _ _ _ (uh L0).o2
 have L1:=(uh L0).setCells 2 rfl 0 (cv velm)
 rw [velm_front] at L1
 generalize World.setCells _ _ _ (cv velm)=W1 at hcp L1
 simp only [List.set_cons_succ,List.set_cons_zero] at L1
 have x1:W1.cell? ⟨w.heap.size,0,none⟩=some (.int .i64 (a:Nat)):=(cell_blk L1.o0 0).trans rfl
 have ea:IntKind.u16.wrap (a:Int)=a:=wraps_u16 _ (by omega) (by omega)
 have eb:IntKind.u16.wrap (b:Int)=b:=wraps_u16 _ (by omega) (by omega)
 have Hp1:=hide (putNumber_any W1 _ _ _ L1.o2 (by simp [velm]) 4 a (by omega) ha)
 have L1:=hide L1
 clear L0
 go_enter Tryz.func134,Tryz.ntmps134
 go_wp2_with fail
 refine (uh Hp1).mono ?_
 rintro e W2 ⟨rfl,hb2,hk2⟩
 have L2:=(uh L1).put 2 _ hk2 hb2
 simp only [List.set_cons_succ,List.set_cons_zero] at L2
 have x2:W2.cell? ⟨w.heap.size,1,none⟩=some (.int .i64 (b:Nat)):=(cell_blk L2.o0 1).trans rfl
 have Hp2:=hide (putNumber_any W2 _ _ _ L2.o2 (by rw [putNum_length];simp [velm]) 6 b (by omega) hb)
 have L2:=hide L2
 clear L1 Hp1 hb2 hk2 x1 hcp
 go_wp2_with fail
 refine (uh Hp2).mono ?_
 rintro e W3 ⟨rfl,hb3,hk3⟩
 have L3:=(uh L2).put 2 _ hk3 hb3
 simp only [List.set_cons_succ,List.set_cons_zero] at L3
 rw [← headBytes_eq] at L3
 have hbl:=headBytes_length a b
 have l1:=box_has L3.o2 hbl
 have l2:=box_cells L3.o2 hbl
 have th:=there_blk L3.o1 0 64 (by simp [cv_length,zc_length])
 have hset:=L3.setCells 1 rfl 0 (cv (headBytes a b))
 rw [setList_all _ _ (by simp [cv_length,zc_length,hbl])] at hset
 have o1:=hset.o1
 have l3:=box_has o1 hbl
 have l4:=box_cells o1 hbl
 have HB:=hide hset.below
 clear L2 L3 Hp2 hb3 hk3 x2 hset o1
 generalize hcc:headBytes a b=c at*
 go_wp2
 refine bodyPost_ret (results_cell Tryz.results134 ⟨w.heap.size+1,0,none⟩ rfl ?_) rfl ⟨rfl,uh HB⟩
 rw [loadVar_clus,run_loadClus l3,l4,hcc]
def setPart (k:List UInt8) (p:Nat) (c:Clus):List UInt8:=k.take (64*p)++c++k.drop (64*p+64)
theorem setPart_length (k:List UInt8) (p:Nat) (c:Clus) (hk:k.length=256) (hc:c.length=64) (hp:p<4):(setPart k p c).length=256:=by
 simp [setPart,hk,hc];omega
theorem setList_mid (a b vs d:List Value) (h:b.length=vs.length):setList (a++b++d).toArray a.length vs=(a++vs++d).toArray:=by
 refine Array.ext_getElem? fun i=> ?_
 rw [setList_get vs a.length _ i (by simp;omega)]
 simp only [List.getElem?_toArray]
 by_cases h1:i<a.length
 · rw [if_neg (by omega),List.append_assoc,List.append_assoc,List.getElem?_append_left h1,List.getElem?_append_left h1]
 · by_cases h2:i<a.length+vs.length
   · rw [if_pos (by omega),List.getElem?_append_left (by simp;omega),List.getElem?_append_right (by omega)]
   · rw [if_neg (by omega),List.getElem?_append_right (by simp;omega),List.getElem?_append_right (by simp;omega)]
     simp [h]
theorem setPart_cells (k:List UInt8) (p:Nat) (c:Clus) (hk:k.length=256) (hc:c.length=64) (hp:p<4):setList (cv k).toArray (64*p) (cv c)=(cv (setPart k p c)).toArray:=by
 have h:k=k.take (64*p)++(k.drop (64*p)).take 64++k.drop (64*p+64):=by
   rw [List.append_assoc,← List.drop_drop,List.take_append_drop,List.take_append_drop]
 have h2:=setList_mid (cv (k.take (64*p))) (cv ((k.drop (64*p)).take 64)) (cv c) (cv (k.drop (64*p+64))) (by simp [cv_length,hk,hc];omega)
 rw [← cv_append,← cv_append,← cv_append,← cv_append,← h,cv_length,List.length_take,hk,Nat.min_eq_left (by omega)] at h2
 exact h2
theorem run_copy_part (w:World) (b x p:Nat) (t u:TypeId) (k:List UInt8) (c:Clus) (hk:k.length=256) (hc:c.length=64) (hp:p<4) (hb:w.heap[b]? = some (.cells (cv k).toArray t (0,0))) (hx:w.heap[x]? = some (.cells (cv c).toArray u (0,0))) (n:Nat) (hn:n=256 - 64*p):
   (Builtin.copy_ #[73,73] 3 #[.slice (some ⟨b,64*p,none⟩) n n,.slice (some ⟨x,0,none⟩) 64 64]).run Tryz.prog w= .ok (.int .i64 64) (w.setCells b (64*p) (cv c)):=by
 have h:=run_copy_cells (P:=Tryz.prog) w 73 73 3 5 b (64*p) n n ⟨x,0,none⟩ 64 64 (cv c) Tryz.underlying73 Tryz.sizeByte
   (by rw [cv_length,hc];exact (Nat.min_eq_left (by omega)).symm)
   (fun j v hv=>by rw [show (⟨x,0,none⟩:Addr).add j=⟨x,j,none⟩ by simp [Addr.add];omega];rw [cell_blk hx,List.getElem?_toArray];exact hv)
   (fun j hj=>by rw [cv_length,hc] at hj;rw [cell_blk hb,List.getElem?_toArray,cv_get _ _ (by omega)];rfl) (fun j _=>frozen_blk hb _) (cv_one c)
 rw [h,cv_length,hc];rfl
theorem setPart_any (w:World) (b:Nat) (k:List UInt8) (hk:k.length=256) (hb:w.heap[b]? = some (.cells (cv k).toArray 123 (0,0))) (p:Nat) (hp:p<4) (c:Clus) (hc:c.length=64):
   Calls Tryz.prog 158 #[.pointer (some ⟨b,0,none⟩),.int .i64 (p:Nat),.agg (cv c).toArray] w fun e w'=>e= .returned (.tuple #[])∧w'.heap[b]? = some (.cells (cv (setPart k p c)).toArray 123 (0,0))∧Kept (fun x=>x=b) w w':=by
 have hbl:=blk_lt hb
 have hk1:=((Kept.refl (fun x=>x=b) w).alloc (.cells (cv c).toArray 38)).drew
 have hb1:(w.alloc (.cells (cv c).toArray 38)).drew.heap[b]? = some (.cells (cv k).toArray 123 (0,0)):=(Below.heap_alloc _ _ _ hbl).trans hb
 have hx1:(w.alloc (.cells (cv c).toArray 38)).drew.heap[w.heap.size]? = some (.cells (cv c).toArray 38 (0,0)):=heap_alloc_new w _
 have hcp:=fun n hn=>run_copy_part _ b _ p _ _ k c hk hc hp hb1 hx1 n hn
 have hk2:=hk1.setCells (b:=b) (Or.inl rfl) (64*p) (cv c)
 have hb2:=heap_setCells_same (cv c) (64*p) _ _ _ _ _ hb1
 rw [setPart_cells k p c hk hc hp] at hb2
 have HK:=hide hk2
 have HB:=hide hb2
 clear hb1 hx1 hk1 hk2 hb2
 rcases (show p=0∨p=1∨p=2∨p=3 by omega) with rfl | rfl | rfl | rfl
 · have hcp1:=hcp 256 rfl
   simp only [Nat.reduceMul] at hcp1
   clear hcp
   go_enter Tryz.func158,Tryz.ntmps158
   go_wp2
   go_region
   go_end0
   exact ⟨rfl,uh HB,uh HK⟩
 · have hcp1:=hcp 192 rfl
   simp only [Nat.reduceMul] at hcp1
   clear hcp
   go_enter Tryz.func158,Tryz.ntmps158
   go_wp2
   go_region
   go_end0
   exact ⟨rfl,uh HB,uh HK⟩
 · have hcp1:=hcp 128 rfl
   simp only [Nat.reduceMul] at hcp1
   clear hcp
   go_enter Tryz.func158,Tryz.ntmps158
   go_wp2
   go_region
   go_end0
   exact ⟨rfl,uh HB,uh HK⟩
 · have hcp1:=hcp 64 rfl
   simp only [Nat.reduceMul] at hcp1
   clear hcp
   go_enter Tryz.func158,Tryz.ntmps158
   go_wp2
   go_region
   go_end0
   exact ⟨rfl,uh HB,uh HK⟩
def partOf (k:List UInt8) (p:Nat):Clus:=(k.drop (64*p)).take 64
theorem partOf_length (k:List UInt8) (p:Nat) (hk:k.length=256) (hp:p<4):(partOf k p).length=64:=by simp [partOf,hk];omega
theorem part_range {w:World} {b:Nat} {k:List UInt8} {t:TypeId} {fr:Nat × Nat} (hb:w.heap[b]? = some (.cells (cv k).toArray t fr)) (p:Nat):w.rangeAt b (64*p) (cv (partOf k p)):=fun j v hv=>by
 rw [cell_blk hb,List.getElem?_toArray]
 simp only [cv,List.getElem?_map,partOf] at hv ⊢
 rw [List.getElem?_take] at hv
 split at hv
 · rw [List.getElem?_drop] at hv;exact hv
 · cases hv
theorem run_arrayAt (w:World) (a:Addr) (cap:Nat):(Instr.arrayAt 38 (.slice (some a) 64 cap)).run Tryz.prog w= .ok (.pointer (some a)) w:=by
 unfold Instr.arrayAt
 simp [run_underlying Tryz.underlying38,go_sem]
attribute [local go_sem] run_arrayAt
theorem part_any (w:World) (k:List UInt8) (hk:k.length=256) (p:Nat) (hp:p<4):
   Calls Tryz.prog 132 #[.agg (cv k).toArray,.int .i64 (p:Nat)] w fun e w'=>e= .returned (.agg (cv (partOf k p)).toArray)∧Below w.heap.size w w':=by
 have L0:=Locs.two w (.cells (cv k).toArray 123) (.cells (cv zc).toArray 38)
 have hpl:=partOf_length k p hk hp
 have l1:=hasAt_of_range (n:=64) (part_range L0.o0 p) (by rw [cv_length,hpl])
 have l2:=cellsAt_of_range (n:=64) (part_range L0.o0 p) (by rw [cv_length,hpl])
 have th:=there_blk L0.o1 0 64 (by simp [cv_length,zc_length])
 have hset:=L0.setCells 1 rfl 0 (cv (partOf k p))
 rw [setList_all _ _ (by simp [cv_length,zc_length,hpl])] at hset
 have l3:=box_has hset.o1 hpl
 have l4:=box_cells hset.o1 hpl
 have HB:=hide hset.below
 clear L0 hset
 rcases (show p=0∨p=1∨p=2∨p=3 by omega) with rfl | rfl | rfl | rfl
 all_goals
   generalize hcc:partOf k _=c at*
   simp only [Nat.reduceMul] at l1 l2
   go_enter Tryz.func132,Tryz.ntmps132
   go_wp2
   refine bodyPost_ret (results_cell Tryz.results132 ⟨w.heap.size+1,0,none⟩ rfl ?_) rfl ⟨rfl,uh HB⟩
   rw [loadVar_clus,run_loadClus l3,l4]
end Go.Proofs.YtknjjjenklfeoaaGreatDoor
namespace Go.Proofs.YtknjjjenklfeoaaGreatDoor
open Go.RowKit
def letter (b:UInt8):Bool:=decide (97≤b.toNat) && decide (b.toNat≤122)
def isNameB (l:List UInt8):Bool:=l.all letter && (decide (1≤l.length) && decide (l.length≤12))
theorem isName_any (s:ByteArray) (w:World) (hs:s.size≤maxLen):
   Calls Tryz.prog 168 #[.string s] w fun e w'=>e= .returned (.bool (isNameB s.data.toList))∧w'=w:=by
 unfold maxLen at hs
 have hlen:s.data.toList.length=s.size:=by rw [Array.length_toList];rfl
 have Hr:Hid (isNameB s.data.toList=(s.data.toList.all letter && (decide (1≤s.data.toList.length) && decide (s.data.toList.length≤12)))):=rfl
 rw [hlen] at Hr
 have Hlen:=hide hlen
 clear hlen
 go_enter Tryz.func168,Tryz.ntmps168
 go_wp2
 go_loop [3] (fun i=> ∃ k:Nat,k≤s.size∧i= .int .i64 k∧(s.data.toList.take k).all letter=true) (fun i=>s.size - (intOf i).toNat)
 case atStart=>exact ⟨0,Nat.zero_le _,rfl,by simp⟩
 case round=>
   obtain ⟨k,hk,rfl,ha⟩:=hrel
   have Ha:=hide ha
   clear ha
   by_cases hlt:k<s.size
   · have hts:s.data.toList.take (k+1)=s.data.toList.take k++[s[k]]:=by
       rw [List.take_succ_eq_append_getElem (by simpa using hlt)];rfl
     have hb:=s[k].toNat_lt
     have hl:letter s[k]=(decide (97≤s[k].toNat) && decide (s[k].toNat≤122)):=rfl
     have hall:letter s[k]=false→isNameB s.data.toList=false:=fun hf=>by
       have:s.data.toList.all letter=false:=by
         rw [List.all_eq_false]
         exact ⟨s[k],by rw [← List.take_append_drop (k+1) s.data.toList,hts];simp,by rw [hf];simp⟩
       rw [uh Hr,this];rfl
     have hnext:letter s[k]=true→(s.data.toList.take (k+1)).all letter=true:=fun ht=>by rw [hts,List.all_append,uh Ha];simp [ht]
     have HA:=hide hall
     have HN:=hide hnext
     have HL:=hide hl
     clear hall hnext hl hts
     by_cases h97:s[k].toNat<97
     · have d1:decide ((s[k].toNat:Int)<97)=true:=by simp;omega
       have e:=hide (uh HA (by rw [uh HL,show decide (97≤s[k].toNat)=false by simp;omega];rfl))
       go_wp2
       go_ret
       exact ⟨by rw [uh e];rfl,rfl⟩
     · have d1:decide ((s[k].toNat:Int)<97)=false:=by simp;omega
       by_cases h122:122<s[k].toNat
       · have d2:decide ((122:Int)<(s[k].toNat:Int))=true:=by simp;omega
         have e:=hide (uh HA (by rw [uh HL,show decide (s[k].toNat≤122)=false by simp;omega];simp))
         go_wp2
         go_ret
         exact ⟨by rw [uh e];rfl,rfl⟩
       · have d2:decide ((122:Int)<(s[k].toNat:Int))=false:=by simp;omega
         have e:=hide (uh HN (by rw [uh HL,show decide (97≤s[k].toNat)=true by simp;omega,show decide (s[k].toNat≤122)=true by simp;omega];rfl))
         go_wp2
         go_round
         case rel=>exact ⟨k+1,by omega,by go_num,uh e⟩
         case measure=>simp [intOf];omega
   · have hks:k=s.size:=by omega
     have hall:s.data.toList.all letter=true:=by
       have:=uh Ha
       rwa [hks,← uh Hlen,List.take_length] at this
     rw [hall,Bool.true_and] at Hr
     clear hall
     by_cases h1:1≤s.size
     · have d1:decide ((1:Int)≤(s.size:Int))=true:=by simp;omega
       rw [show decide (1≤s.size)=true by simp;omega,Bool.true_and] at Hr
       by_cases h12:s.size≤12
       · have d2:decide ((s.size:Int)≤12)=true:=by simp;omega
         rw [show decide (s.size≤12)=true by simp;omega] at Hr
         go_wp2
         go_ret
         exact ⟨by rw [uh Hr];rfl,rfl⟩
       · have d2:decide ((s.size:Int)≤12)=false:=by simp;omega
         rw [show decide (s.size≤12)=false by simp;omega] at Hr
         go_wp2
         go_ret
         exact ⟨by rw [uh Hr];rfl,rfl⟩
     · have d1:decide ((1:Int)≤(s.size:Int))=false:=by simp;omega
       rw [decide_eq_false h1,Bool.false_and] at Hr
       go_wp2
       go_ret
       exact ⟨by rw [uh Hr];rfl,rfl⟩
def nameFrom (c:Clus) (at':Nat):Nat→Nat→Bool→List UInt8→Option (List UInt8)
 | 0,_,_,acc=>some acc
 | m+1,i,over,acc=>
   if byteAt c (at'+i)=0 then nameFrom c at' m (i+1) true acc
   else if over then none
   else nameFrom c at' m (i+1) false (acc++[c.getD (at'+i) 0])
def nameOf (c:Clus) (at':Nat):List UInt8 × Bool:=
 match nameFrom c at' 12 0 false [] with
 | none=>([],false)
 | some l=>(l,isNameB l)
theorem name_any (c:List UInt8) (a:Nat) (w:World) (hc:c.length=64) (ha:a≤52):
   Calls Tryz.prog 137 #[.agg (cv c).toArray,.int .i64 a] w fun e w'=>
     e= .returned (.tuple #[.string (txt (nameOf c a).1),.bool (nameOf c a).2])∧Below w.heap.size w w':=by
 have hbx:(w.alloc (.cells (cv c).toArray 38)).heap[w.heap.size]? = some (.cells (cv c).toArray 38 (0,0)):=heap_alloc_new _ _
 have hB:Below w.heap.size w (w.alloc (.cells (cv c).toArray 38)):=(Below.refl _ _).alloc (Nat.le_refl _) _
 have Hres:Hid (nameOf c a=match nameFrom c a 12 0 false [] with | none=>([],false) | some l=>(l,isNameB l)):=rfl
 generalize hT:nameFrom c a 12 0 false []=T at Hres
 have HT:=hide hT
 have HB:=hide hB
 have Hbx:=hide hbx
 clear hT hB hbx
 go_enter Tryz.func137,Tryz.ntmps137
 go_wp2
 generalize w.alloc (.cells (cv c).toArray 38)=W at*
 go_loopw [6,7,8] (fun t ov i w'=> ∃ (k:Nat) (over:Bool) (acc:List UInt8),k≤12∧acc.length≤k∧i= .int .i64 k∧ov= .bool over∧t= .string (txt acc)∧Below W.heap.size W w'∧nameFrom c a (12 - k) k over acc=T) (fun _ _ i _=>12 - (intOf i).toNat)
 case atStart=>exact ⟨0,false,[],by omega,by simp,rfl,rfl,rfl,Below.refl _ _,uh HT⟩
 case round=>
   obtain ⟨k,over,acc,hk,hacc,rfl,rfl,rfl,hb,he⟩:=hrel
   have hbx:wr.heap[w.heap.size]? = some (.cells (cv c).toArray 38 (0,0)):=(hb.block _ (blk_lt (uh Hbx))).trans (uh Hbx)
   have He:=hide he
   have Hb:=hide hb
   clear he hb HT
   by_cases hlt:k<12
   · have cb:=box_byte hbx (a+k) (by omega)
     have bl:=byteAt_lt c (a+k)
     have hst:(if byteAt c (a+k)=0 then nameFrom c a (12 - (k+1)) (k+1) true acc else if over then none else nameFrom c a (12 - (k+1)) (k+1) false (acc++[c.getD (a+k) 0]))=T:=by
       rw [← uh He,show 12 - k=(12 - (k+1))+1 by omega,nameFrom]
     have hget:c.getD (a+k) 0=UInt8.ofNat (byteAt c (a+k)):=by unfold byteAt;simp
     rw [hget] at hst
     have Hst:=hide hst
     have hli:(a:Int)+(k:Int)<64:=by omega
     clear hst He hget hbx
     generalize byteAt c (a+k)=q at*
     by_cases hq:q=0
     · subst hq
       rw [if_pos rfl] at Hst
       go_wp2
       go_roundw
       case rel=>exact ⟨k+1,true,acc,by omega,by omega,by go_num,rfl,rfl,uh Hb,uh Hst⟩
       case measure=>simp [intOf];omega
     · have dq:((q:Int) == 0)=false:=by rw [beq_eq_false_iff_ne];omega
       rw [if_neg hq] at Hst
       cases over with
       | true=>
         rw [if_pos rfl] at Hst
         go_wp2
         go_ret2
         refine ⟨?_,(uh HB).trans ((uh Hb).mono (uh HB).size)⟩
         rw [uh Hres,← uh Hst];rfl
       | false=>
         rw [if_neg (by decide)] at Hst
         have hcv:(convert 73 9 (.slice (some ⟨wr.heap.size,0,none⟩) 1 1)).run Tryz.prog (wr.alloc (.cells #[.int .u8 (q:Int)] 5))= .ok (.string (txt [UInt8.ofNat q])) (wr.alloc (.cells #[.int .u8 (q:Int)] 5)):=by
           have e:(cv [UInt8.ofNat q]).toArray= #[.int .u8 (q:Int)]:=by
             have:(UInt8.ofNat q).toNat=q:=by simp;omega
             simp only [cv,List.map_cons,List.map_nil,this]
           have h1:(wr.alloc (.cells #[.int .u8 (q:Int)] 5)).heap[wr.heap.size]? = some (.cells (cv [UInt8.ofNat q]).toArray 5 (0,0)):=by rw [e];exact heap_alloc_new _ _
           exact conv_bytes h1 1 1 (by simp)
         have hs1:(txt acc).size≤12:=by show acc.toArray.size≤12;simp;omega
         have hs2:(txt [UInt8.ofNat q]).size=1:=rfl
         have happ:txt acc++txt [UInt8.ofNat q]=txt (acc++[UInt8.ofNat q]):=by
           apply Go.WideShapes.bytes_inj
           simp [txt,ByteArray.data_append]
         have Happ:=hide happ
         clear happ
         generalize txt [UInt8.ofNat q]=t1 at*
         go_wp2
         refine ⟨⟨k+1,false,acc++[UInt8.ofNat q],by omega,by simp;omega,by go_num,rfl,by rw [uh Happ],(uh Hb).alloc (uh Hb).size _,uh Hst⟩,by simp [intOf];omega⟩
   · have hk12:k=12:=by omega
     subst hk12
     have hT:T=some acc:=(uh He).symm
     have Hn:=hide (isName_any (txt acc) wr (by unfold maxLen;show acc.toArray.size≤_;simp;omega))
     rw [show (txt acc).data.toList=acc from rfl] at Hn
     rw [hT] at Hres
     clear hbx He hT
     go_wp2_with fail
     refine (uh Hn).mono ?_
     rintro e w2 ⟨rfl,rfl⟩
     go_wp2
     go_ret2
     refine ⟨?_,(uh HB).trans ((uh Hb).mono (uh HB).size)⟩
     rw [uh Hres];rfl
theorem pIsName_any (s:ByteArray) (w:World) (hs:s.size≤maxLen):
   Calls Tryz.prog 82 #[.string s] w fun e w'=>e= .returned (.bool (isNameB s.data.toList))∧Below w.heap.size w w':=by
 unfold maxLen at hs
 have hlen:s.data.toList.length=s.size:=by rw [Array.length_toList];rfl
 have Hr:Hid (isNameB s.data.toList=(s.data.toList.all letter && (decide (1≤s.data.toList.length) && decide (s.data.toList.length≤12)))):=rfl
 rw [hlen] at Hr
 have Hlen:=hide hlen
 clear hlen
 by_cases h1:s.size<1
 · have d1:decide ((s.size:Int)<1)=true:=decide_eq_true (by omega)
   rw [show decide (1≤s.size)=false from decide_eq_false (by omega),Bool.false_and,Bool.and_false] at Hr
   go_enter Tryz.func82,Tryz.ntmps82
   go_wp2
   go_ret
   exact ⟨by rw [uh Hr];rfl,Below.refl _ _⟩
 have d1:decide ((s.size:Int)<1)=false:=decide_eq_false (by omega)
 rw [show decide (1≤s.size)=true from decide_eq_true (by omega),Bool.true_and] at Hr
 by_cases h12:12<s.size
 · have d2:decide ((12:Int)<(s.size:Int))=true:=decide_eq_true (by omega)
   rw [show decide (s.size≤12)=false from decide_eq_false (by omega),Bool.and_false] at Hr
   go_enter Tryz.func82,Tryz.ntmps82
   go_wp2
   go_ret
   exact ⟨by rw [uh Hr];rfl,Below.refl _ _⟩
 have d2:decide ((12:Int)<(s.size:Int))=false:=decide_eq_false (by omega)
 rw [show decide (s.size≤12)=true from decide_eq_true (by omega),Bool.and_true] at Hr
 have hconv:=Lib.run_convert_string_bytes (P:=Tryz.prog) w 9 73 5 s Tryz.underlying9 Tryz.underlying73 Tryz.underlying5
 have hB:Hid (Below w.heap.size w (Lib.bytesWorld w 5 s)):=⟨rfl,rfl,rfl,by rw [Lib.bytesWorld_size];omega,fun k hk=>Lib.bytesWorld_at_old w _ s k hk⟩
 have hC:Hid (∀ j,j<s.size→(Lib.bytesWorld w 5 s).cell? ⟨w.heap.size,j,none⟩=some (.int .u8 (s.data.toList.getD j 0).toNat)):=fun j hj=>Lib.bytesWorld_cell w _ s j hj
 generalize Lib.bytesWorld w 5 s=w1 at hconv hB hC
 generalize grownCap w s.size 0 5=cap at hconv
 go_enter Tryz.func82,Tryz.ntmps82
 go_wp2
 go_loop [16] (fun i=> ∃ k:Nat,k≤s.size∧i= .int .i64 k∧(s.data.toList.take k).all letter=true) (fun i=>s.size - (intOf i).toNat)
 case atStart=>exact ⟨0,Nat.zero_le _,rfl,by simp⟩
 case round=>
   obtain ⟨k,hk,rfl,ha⟩:=hrel
   have Ha:=hide ha
   clear ha
   by_cases hlt:k<s.size
   · have hget:s.data.toList.getD k 0=s[k]:=by
       rw [List.getD_eq_getElem?_getD,List.getElem?_eq_getElem (by rw [uh Hlen];exact hlt)];rfl
     have hcell:=uh hC k hlt
     rw [hget] at hcell
     have hts:s.data.toList.take (k+1)=s.data.toList.take k++[s[k]]:=by
       rw [List.take_succ_eq_append_getElem (by rw [uh Hlen];exact hlt)];rfl
     have hb:=s[k].toNat_lt
     have hl:letter s[k]=(decide (97≤s[k].toNat) && decide (s[k].toNat≤122)):=rfl
     have hall:letter s[k]=false→isNameB s.data.toList=false:=fun hf=>by
       have:s.data.toList.all letter=false:=by
         rw [List.all_eq_false]
         exact ⟨s[k],by rw [← List.take_append_drop (k+1) s.data.toList,hts];simp,by rw [hf];simp⟩
       rw [uh Hr,this]
     have hnext:letter s[k]=true→(s.data.toList.take (k+1)).all letter=true:=fun ht=>by rw [hts,List.all_append,uh Ha];simp [ht]
     have HA:=hide hall
     have HN:=hide hnext
     have HL:=hide hl
     clear hall hnext hl hts hget
     by_cases h97:s[k].toNat<97
     · have d3:decide ((s[k].toNat:Int)<97)=true:=decide_eq_true (by omega)
       have e:=hide (uh HA (by rw [uh HL,show decide (97≤s[k].toNat)=false from decide_eq_false (by omega)];rfl))
       go_wp2
       go_ret
       exact ⟨by rw [uh e];rfl,uh hB⟩
     · have d3:decide ((s[k].toNat:Int)<97)=false:=decide_eq_false (by omega)
       by_cases h122:122<s[k].toNat
       · have d4:decide ((122:Int)<(s[k].toNat:Int))=true:=decide_eq_true (by omega)
         have e:=hide (uh HA (by rw [uh HL,show decide (s[k].toNat≤122)=false from decide_eq_false (by omega)];simp))
         go_wp2
         go_ret
         exact ⟨by rw [uh e];rfl,uh hB⟩
       · have d4:decide ((122:Int)<(s[k].toNat:Int))=false:=decide_eq_false (by omega)
         have e:=hide (uh HN (by rw [uh HL,show decide (97≤s[k].toNat)=true from decide_eq_true (by omega),show decide (s[k].toNat≤122)=true from decide_eq_true (by omega)];rfl))
         go_wp2
         go_round
         case rel=>exact ⟨k+1,by omega,by go_num,uh e⟩
         case measure=>simp [intOf];omega
   · have hks:k=s.size:=by omega
     have hall:s.data.toList.all letter=true:=by
       have:=uh Ha
       rwa [hks,← uh Hlen,List.take_length] at this
     rw [hall] at Hr
     clear hall
     go_wp2
     go_ret
     exact ⟨by rw [uh Hr];rfl,uh hB⟩
end Go.Proofs.YtknjjjenklfeoaaGreatDoor
namespace Go.Proofs.YtknjjjenklfeoaaGreatDoor
open Go.RowKit
attribute [local go_sem ↓] loadVar_clus storeVar_clus zeroValue_clus
attribute [local go_sem] run_loadClus run_storeClus run_zeroClus run_storeClus_new run_loadClus_new zc_length
theorem txt_toList (l:List UInt8):(txt l).toList=l:=by rw [ByteArray.toList_eq];rfl
def nameIn (Q:List RootR) (s:List UInt8):Nat→Nat→Bool
 | 0,_=>false
 | m+1,k=>if (Q.getD k ⟨0,0,[]⟩).name=s then true else nameIn Q s m (k+1)
def entryBad (c:Clus) (i:Nat) (over:Bool):Bool:=over || (!(nameOf c (16*i+2)).2 || (byteAt c (16*i+14) != 0 || byteAt c (16*i+15) != 0))
def listFrom (c:Clus):Nat→Nat→Bool→List RootR→Bool × List RootR
 | 0,_,_,Q=>(true,Q)
 | m+1,i,over,Q=>
   if num c (16*i)=0 then (if restZero c 16 (16*i) then listFrom c m (i+1) true Q else (false,Q))
   else if entryBad c i over then (false,Q)
   else if nameIn Q (nameOf c (16*i+2)).1 (Q.length - 1) 1 then (false,Q)
   else listFrom c m (i+1) over (Q++[⟨num c (16*i),5,(nameOf c (16*i+2)).1⟩])
def listOf (R:FileR):Bool × List RootR:=listFrom (cl R.L 5) 4 0 false R.roots
structure Listing (w0 w':World) (f:Nat) (Lv Rv Rv':Value) (R:FileR) (Q:List RootR) (c:Clus) (bx:Nat):Prop where
 at':FileAt w' f Lv Rv' { R with roots:=Q }
 kept:Kept (fun k=>k=f∨Rv.ownBlock=some k) w0 w'
 box:w'.heap[bx]? = some (.cells (cv c).toArray 38 (0,0))
 own: ∀ g,Rv'.ownBlock=some g→Rv.ownBlock=some g∨bx<g
theorem Listing.later {w0 w' w2:World} {f:Nat} {Lv Rv Rv':Value} {R:FileR} {Q:List RootR} {c:Clus} {bx:Nat} (h:Listing w0 w' f Lv Rv Rv' R Q c bx) (hb:Below w'.heap.size w' w2):Listing w0 w2 f Lv Rv Rv' R Q c bx:=
 ⟨h.at'.below hb,h.kept.trans (Kept.of_below hb),(hb.block _ (blk_lt h.box)).trans h.box,h.own⟩
theorem list_step {w wr w5:World} {f g5 cap5:Nat} {Lv Rv Rv':Value} {R:FileR} {Q:List RootR} {r:RootR} {c:Clus} {X:Obj} (hg:Listing w wr f Lv Rv Rv' R Q c w.heap.size) (hlt: ∀ g,Rv.ownBlock=some g→g<w.heap.size) (hfb:f<w.heap.size)
   (hown5:w5.ownsRow 0 132 3 (.slice (some ⟨g5,0,none⟩) (Q.length+1) cap5) (Q.length+1) (Q.flatMap rootCells++rootCells r)) (hgrow:(wr.alloc X).grownBy w5 Rv'.ownBlock) (hat:Rv'.ownBlock=some g5∨g5=wr.heap.size+1):
   Listing w (w5.setCell ⟨f,1,none⟩ (.slice (some ⟨g5,0,none⟩) (Q.length+1) cap5)) f Lv Rv (.slice (some ⟨g5,0,none⟩) (Q.length+1) cap5) R (Q++[r]) c w.heap.size:=by
 have hX:FileAt (wr.alloc X) f Lv Rv' { R with roots:=Q }:=hg.at'.below ((Below.refl _ _).alloc (Nat.le_refl _) _)
 have hs:=hg.kept.size
 have hbl:=blk_lt hg.box
 refine ⟨hX.growR hgrow (Q:=Q++[r]) (by simpa using hown5),?_,?_,?_⟩
 · refine ((hg.kept.alloc X).grown hgrow (fun g hg'=> ?_)).setCell (p:=⟨f,1,none⟩) (Or.inl (Or.inl rfl)) _
   rcases hg.own g hg' with x | x
   · exact Or.inl (Or.inr x)
   · exact Or.inr (by omega)
 · rw [Below.heap_setCell _ _ _ _ (by show w.heap.size≠f;omega)]
   refine grown_blk hgrow ((Below.heap_alloc _ _ _ hbl).trans hg.box) (fun k hk e=> ?_)
   rcases hg.own k hk with x | x
   · have:=hlt k x;omega
   · omega
 · intro g hg'
   simp only [Value.ownBlock,Option.some.injEq] at hg'
   subst hg'
   rcases hat with h | h
   · exact hg.own _ h
   · exact Or.inr (by omega)
theorem list_any (w:World) (f:Nat) (Lv Rv:Value) (R:FileR) (h:FileAt w f Lv Rv R) (hL6:6≤R.L.length) (hr1:R.roots.length=1):
   Calls Tryz.prog 75 #[.pointer (some ⟨f,0,none⟩)] w fun e w'=>
     e= .returned (.bool (listOf R).1)∧ ∃ Rv',FileAt w' f Lv Rv' { R with roots:=(listOf R).2 }∧Kept (fun k=>k=f∨Rv.ownBlock=some k) w w'∧(∀ g,Rv'.ownBlock=some g→Rv.ownBlock=some g∨w.heap.size≤g):=by
 obtain ⟨g,cap,rfl,hc⟩:=row_some h.rowL (by omega)
 have l1:=row_has h.rowL h.lens 5 (by omega)
 have l2:=row_cells h.rowL h.lens 5 (by omega)
 have hcl:=cl_length h.lens (k:=5) (by omega)
 have c0:=h.cLv
 have hLi:(5:Int)<(R.L.length:Int):=by omega
 have hfb:f<w.heap.size:=h.lt
 have g0:Listing w (w.alloc (.cells (cv (cl R.L 5)).toArray 38)) f (.slice (some ⟨g,0,none⟩) R.L.length cap) Rv Rv R R.roots (cl R.L 5) w.heap.size:=
   ⟨h.below ((Below.refl _ _).alloc (Nat.le_refl _) _),(Kept.refl _ _).alloc _,heap_alloc_new _ _,fun g hg=>Or.inl hg⟩
 have hT:listOf R=listFrom (cl R.L 5) 4 0 false R.roots:=rfl
 have HT:=hide hT
 have G0:=hide g0
 clear hT g0
 have hRlt: ∀ g,Rv.ownBlock=some g→g<w.heap.size:=fun g hg=>(h.rowR.lt g hg).2
 have HRlt:=hide hRlt
 clear hRlt
 generalize cl R.L 5=c at*
 have hx5:5*64=320:=rfl
 rw [hx5] at l1 l2
 clear hx5
 go_enter Tryz.func75,Tryz.ntmps75
 go_wp2
 generalize w.alloc (.cells (cv c).toArray 38)=W at*
 obtain ⟨i1,hi1,hy0,hy1,hy2⟩:=info_parts Tryz.infoRoot
 clear c0 l1 l2
 go_loopw [4,5] (fun ov i w'=> ∃ (k:Nat) (over:Bool) (Q:List RootR) (Rv':Value),k≤4∧1≤Q.length∧Q.length≤1+k∧i= .int .i64 k∧ov= .bool over∧Listing w w' f (.slice (some ⟨g,0,none⟩) R.L.length cap) Rv Rv' R Q c w.heap.size∧listOf R=listFrom c (4 - k) k over Q) (fun _ i _=>4 - (intOf i).toNat)
 case atStart=>exact ⟨0,false,R.roots,Rv,by omega,by omega,by omega,rfl,rfl,uh G0,uh HT⟩
 case round=>
   obtain ⟨k,over,Q,Rv',hk,hQ1,hQ,rfl,rfl,hg,he⟩:=hrel
   have He:=hide he
   clear he HT G0
   by_cases hlt:k<4
   · have l1:=box_has hg.box hcl
     have l2:=box_cells hg.box hcl
     have Hn:=hide (number_any c (16*(k:Int)) wr hcl (by omega) (by omega))
     rw [show (16*(k:Int)).toNat=16*k by omega] at Hn
     have hnl:=num_lt c (16*k)
     have hst:listOf R=if num c (16*k)=0 then (if restZero c 16 (16*k) then listFrom c (4 - (k+1)) (k+1) true Q else (false,Q))
         else if entryBad c k over then (false,Q)
         else if nameIn Q (nameOf c (16*k+2)).1 (Q.length - 1) 1 then (false,Q)
         else listFrom c (4 - (k+1)) (k+1) over (Q++[⟨num c (16*k),5,(nameOf c (16*k+2)).1⟩]):=by
       rw [uh He,show 4 - k=(4 - (k+1))+1 by omega,listFrom]
     have Hst:=hide hst
     have Hg:=hide hg
     clear hst He hg
     generalize num c (16*k)=n at*
     go_wp2_with fail
     refine (uh Hn).mono ?_
     rintro e w1 ⟨rfl,hb1⟩
     have Hg1:=hide ((uh Hg).later hb1)
     clear Hn hb1 Hg l1 l2
     by_cases hn0:n=0
     · subst hn0
       rw [if_pos rfl] at Hst
       generalize hrz:restZero c 16 (16*k)=rz at Hst
       have Hrz:=hide hrz
       clear hrz
       go_wp2
       go_loopw [8] (fun i w'=> ∃ m:Nat,m≤16∧i= .int .i64 m∧w'=w1∧restZero c (16 - m) (16*k+m)=rz) (fun i _=>16 - (intOf i).toNat)
       case atStart=>exact ⟨0,by omega,rfl,rfl,uh Hrz⟩
       case round=>
         obtain ⟨m,hm,rfl,rfl,hz⟩:=hrel
         have Hz:=hide hz
         clear hz Hrz
         by_cases hlt2:m<16
         · have cb:=box_byte (uh Hg1).box (16*k+m) (by omega)
           have bl:=byteAt_lt c (16*k+m)
           have hz2:(if byteAt c (16*k+m)=0 then restZero c (16 - (m+1)) (16*k+m+1) else false)=rz:=by
             rw [← uh Hz,show 16 - m=(16 - (m+1))+1 by omega,restZero]
           have Hz2:=hide hz2
           clear hz2 Hz
           have hki:(16:Int)*(k:Int)+(m:Int)<64:=by omega
           generalize byteAt c (16*k+m)=q at*
           by_cases hq:q=0
           · subst hq
             rw [if_pos rfl] at Hz2
             go_wp2
             go_roundw
             case rel=>exact ⟨m+1,by omega,by go_num,by trivial,uh Hz2⟩
             case measure=>simp [intOf];omega
           · have dq:((q:Int) != 0)=true:=by rw [bne_iff_ne];omega
             rw [if_neg hq] at Hz2
             rw [← uh Hz2] at Hst
             go_wp2
             go_ret
             have e:listOf R=(false,Q):=by rw [uh Hst];rfl
             rw [e]
             exact ⟨rfl,Rv',(uh Hg1).at',(uh Hg1).kept,fun g hg=>by rcases (uh Hg1).own g hg with x | x;exact Or.inl x;exact Or.inr (by omega)⟩
         · have hm16:m=16:=by omega
           subst hm16
           rw [← uh Hz] at Hst
           go_wp2
           go_roundw
           case rel=>exact ⟨k+1,true,Q,Rv',by omega,hQ1,by omega,by go_num,rfl,uh Hg1,by rw [uh Hst];rfl⟩
           case measure=>simp [intOf];omega
     · have dn:((n:Int) == 0)=false:=by rw [beq_eq_false_iff_ne];omega
       rw [if_neg hn0] at Hst
       have l1:=box_has (uh Hg1).box hcl
       have l2:=box_cells (uh Hg1).box hcl
       have Hnm:=hide (name_any c (16*k+2) w1 hcl (by omega))
       rw [show ((16*k+2:Nat):Int)=16*(k:Int)+2 by omega] at Hnm
       go_wp2_with fail
       refine (uh Hnm).mono ?_
       rintro e w2 ⟨rfl,hb2⟩
       have Hg2:=hide ((uh Hg1).later hb2)
       clear Hnm hb2 Hg1 l1 l2
       have cb14:=box_byte (uh Hg2).box (16*k+14) (by omega)
       have cb15:=box_byte (uh Hg2).box (16*k+15) (by omega)
       have bl14:=byteAt_lt c (16*k+14)
       have bl15:=byteAt_lt c (16*k+15)
       have HE:Hid (entryBad c k over=(over || (!(nameOf c (16*k+2)).2 || (byteAt c (16*k+14) != 0 || byteAt c (16*k+15) != 0)))):=rfl
       have hki:(16:Int)*(k:Int)+15<64:=by omega
       generalize byteAt c (16*k+14)=q14 at*
       generalize byteAt c (16*k+15)=q15 at*
       generalize (nameOf c (16*k+2)).2=ok at*
       generalize (nameOf c (16*k+2)).1=nm at*
       cases over with
       | true=>
         have e:listOf R=(false,Q):=by
           have hx:=uh Hst
           rw [uh HE] at hx
           exact hx
         have E:=hide e
         clear e Hst HE
         go_wp2
         go_ret
         rw [uh E]
         exact ⟨rfl,Rv',(uh Hg2).at',(uh Hg2).kept,fun g hg=>by rcases (uh Hg2).own g hg with x | x;exact Or.inl x;exact Or.inr (by omega)⟩
       | false=>
       cases ok with
       | false=>
         have e:listOf R=(false,Q):=by
           have hx:=uh Hst
           rw [uh HE] at hx
           exact hx
         have E:=hide e
         clear e Hst HE
         go_wp2
         go_ret
         rw [uh E]
         exact ⟨rfl,Rv',(uh Hg2).at',(uh Hg2).kept,fun g hg=>by rcases (uh Hg2).own g hg with x | x;exact Or.inl x;exact Or.inr (by omega)⟩
       | true=>
       by_cases h14:q14=0
       case neg=>
         have d14:((q14:Int) != 0)=true:=by rw [bne_iff_ne];omega
         have e14:(q14 != 0)=true:=by rw [bne_iff_ne];exact h14
         rw [e14] at HE
         clear e14
         have e:listOf R=(false,Q):=by
           have hx:=uh Hst
           rw [uh HE] at hx
           exact hx
         have E:=hide e
         clear e Hst HE
         go_wp2
         go_ret
         rw [uh E]
         exact ⟨rfl,Rv',(uh Hg2).at',(uh Hg2).kept,fun g hg=>by rcases (uh Hg2).own g hg with x | x;exact Or.inl x;exact Or.inr (by omega)⟩
       case pos=>
       subst h14
       by_cases h15:q15=0
       case neg=>
         have d15:((q15:Int) != 0)=true:=by rw [bne_iff_ne];omega
         have e15:(q15 != 0)=true:=by rw [bne_iff_ne];exact h15
         rw [e15] at HE
         clear e15
         have e:listOf R=(false,Q):=by
           have hx:=uh Hst
           rw [uh HE] at hx
           exact hx
         have E:=hide e
         clear e Hst HE
         go_wp2
         go_ret
         rw [uh E]
         exact ⟨rfl,Rv',(uh Hg2).at',(uh Hg2).kept,fun g hg=>by rcases (uh Hg2).own g hg with x | x;exact Or.inl x;exact Or.inr (by omega)⟩
       case pos=>
       subst h15
       have hst:listOf R=if nameIn Q nm (Q.length - 1) 1 then (false,Q) else listFrom c (4 - (k+1)) (k+1) false (Q++[⟨n,5,nm⟩]):=by
         have hx:=uh Hst
         rw [uh HE] at hx
         exact hx
       clear Hst HE
       generalize hni:nameIn Q nm (Q.length - 1) 1=ni at hst
       have Hni:=hide hni
       have Hst:=hide hst
       clear hst hni
       have c1:=(uh Hg2).at'.cRv
       obtain ⟨a2,cap2,hRv2⟩:=row_form (uh Hg2).at'.rowR
       rw [show ({ R with roots:=Q }:FileR).roots=Q from rfl] at hRv2
       subst hRv2
       go_wp2
       go_loopw [11] (fun i w'=> ∃ m:Nat,1≤m∧m≤Q.length∧i= .int .i64 m∧w'=w2∧nameIn Q nm (Q.length - m) m=ni) (fun i _=>Q.length - (intOf i).toNat)
       case atStart=>exact ⟨1,by omega,by omega,rfl,rfl,uh Hni⟩
       case round=>
         obtain ⟨m,hm1,hm,rfl,rfl,hz⟩:=hrel
         have Hz:=hide hz
         clear hz Hni
         by_cases hlt2:m<Q.length
         · have hrow:=(uh Hg2).at'.rowR
           rw [show ({ R with roots:=Q }:FileR).roots=Q from rfl] at hrow
           obtain ⟨g2,cap3,e2,_⟩:=row_some hrow (by omega)
           obtain ⟨rfl,rfl⟩:a2=some ⟨g2,0,none⟩∧cap2=cap3:=by injection e2 with x1 x2 x3;exact ⟨x1,x3⟩
           have r2:=root_cell hrow m hlt2 2 (by omega)
           simp only [rootCells,List.getElem?_cons_zero,List.getElem?_cons_succ] at r2
           have hmi:(m:Int)<(Q.length:Int):=by omega
           have hz2:(if (Q.getD m ⟨0,0,[]⟩).name=nm then true else nameIn Q nm (Q.length - (m+1)) (m+1))=ni:=by
             rw [← uh Hz,show Q.length - m=(Q.length - (m+1))+1 by omega,nameIn]
           have Hz2:=hide hz2
           clear hz2 Hz hrow e2
           generalize (Q.getD m ⟨0,0,[]⟩).name=nn at*
           by_cases heq:nn=nm
           · have Heq:=hide heq
             rw [if_pos heq] at Hz2
             rw [← uh Hz2] at Hst
             subst heq
             have db:(nn == (txt nn).toList)=true:=by rw [txt_toList];simp
             go_wp2
             go_ret
             have e:listOf R=(false,Q):=uh Hst
             rw [e]
             exact ⟨rfl,_,(uh Hg2).at',(uh Hg2).kept,fun g hg=>by rcases (uh Hg2).own g hg with x | x;exact Or.inl x;exact Or.inr (by omega)⟩
           · rw [if_neg heq] at Hz2
             have db:(nn == (txt nm).toList)=false:=by rw [txt_toList,beq_eq_false_iff_ne];exact heq
             clear heq
             go_wp2
             go_roundw
             case rel=>exact ⟨m+1,by omega,by omega,by go_num,by trivial,uh Hz2⟩
             case measure=>simp [intOf];omega
         · have hmQ:m=Q.length:=by omega
           have hni:ni=false:=by rw [← uh Hz,hmQ,Nat.sub_self];rfl
           rw [hni] at Hst
           have hst:listOf R=listFrom c (4 - (k+1)) (k+1) false (Q++[⟨n,5,nm⟩]):=uh Hst
           have HST:=hide hst
           clear hst Hst hni Hz hmQ
           have hrow:=(uh Hg2).at'.rowR
           rw [show ({ R with roots:=Q }:FileR).roots=Q from rfl] at hrow
           have Hrow:=hide hrow
           clear hrow
           have hsz:=(uh Hg2).at'.lt
           have HX:Hid (FileAt (wr.alloc (.cells (rootCells ⟨n,5,nm⟩).toArray 132)) f (.slice (some ⟨g,0,none⟩) R.L.length cap) (.slice a2 Q.length cap2) { R with roots:=Q }):=(uh Hg2).at'.below ((Below.refl _ _).alloc (Nat.le_refl _) _)
           go_wp2_with (at_builtin;refine wpList_append_lies _ rfl _ _ _ rfl 0 132 i1 _ 3 32 Tryz.underlying90 hi1 hy0 hy1 hy2 rfl (by omega) (.slice a2 Q.length cap2) Q.length (Q.flatMap rootCells) rfl ((uh Hrow).alloc _) ⟨wr.heap.size,0,none⟩ 1 1 (rootCells ⟨n,5,nm⟩) rfl rfl (World.news_of_block (cs:=(rootCells ⟨n,5,nm⟩).toArray) (t:=132) (fr:=(0,0)) (heap_alloc_new wr _)) (by simp [rootCells,Value.oneCell']) (by omega) (by unfold maxLen;omega) (by omega) (by omega) (wr.heap.size+1) (by simp) ?_;intro g5 cap5 w5 hown5 hgrow hat hlt5;have b5:=grown_blk hgrow (uh HX).blk (uh HX).neR;have c5:w5.cell? ⟨f,1,none⟩=some (.slice a2 Q.length cap2):=(cell_blk b5 1).trans rfl;have z5:w5.frozen? ⟨f,1,none⟩=false:=frozen_blk b5 1)
           have S5:=hide (list_step (uh Hg2) (uh HRlt) hfb hown5 hgrow hat)
           go_roundw
           case rel=>exact ⟨k+1,false,Q++[⟨n,5,nm⟩],.slice (some ⟨g5,0,none⟩) (Q.length+1) cap5,by omega,by simp,by simp;omega,by go_num,rfl,uh S5,uh HST⟩
           case measure=>simp [intOf];omega
   · have hk4:k=4:=by omega
     subst hk4
     have e:listOf R=(true,Q):=uh He
     have Hg:=hide hg
     have E:=hide e
     clear hg e He
     go_wp2
     go_ret
     rw [uh E]
     exact ⟨rfl,Rv',(uh Hg).at',(uh Hg).kept,fun g hg=>by rcases (uh Hg).own g hg with x | x;exact Or.inl x;exact Or.inr (by omega)⟩
end Go.Proofs.YtknjjjenklfeoaaGreatDoor
namespace Go.Proofs.YtknjjjenklfeoaaGreatDoor
theorem treeIn_L (t:Nat): ∀ m k R,(treeIn t m k R).2.L=R.L
 | 0,_,_=>rfl
 | m+1,k,R=>by
   rw [treeIn]
   split
   · exact treeIn_L t m _ R
   · split
     · rw [treeIn_L t m,tell_L]
     · exact tell_L _ _ _ _
theorem treeIn_in (t:Nat): ∀ m k R,(treeIn t m k R).1=true→ ∀ j,k≤j→j<k+m→num (cl R.L t) (2*j)≠0→num (cl R.L t) (2*j)%32768<R.L.length
 | 0,_,_,_,j,h1,h2,_=>by omega
 | m+1,k,R,h,j,h1,h2,hj=>by
   rw [treeIn] at h
   split at h
   · rename_i h0
     by_cases e:j=k
     · subst e;exact absurd h0 hj
     · exact treeIn_in t m (k+1) R h j (by omega) (by omega) hj
   · split at h
     · rename_i h0 ht
       by_cases e:j=k
       · subst e;exact (tell_ok ht).2
       · have:=treeIn_in t m (k+1) _ h j (by omega) (by omega) (by rw [tell_L];exact hj)
         rw [tell_L] at this;exact this
     · cases h
theorem treeOut_in (t:Nat): ∀ m i R,(treeOut t m i R).1=true→ ∀ j,i≤j→j<i+m→num (cl R.L t) (2*j)≠0→
   num (cl R.L t) (2*j)%32768<R.L.length∧ ∀ k,k<32→num (cl R.L (num (cl R.L t) (2*j)%32768)) (2*k)≠0→num (cl R.L (num (cl R.L t) (2*j)%32768)) (2*k)%32768<R.L.length
 | 0,_,_,_,j,h1,h2,_=>by omega
 | m+1,i,R,h,j,h1,h2,hj=>by
   rw [treeOut] at h
   split at h
   · rename_i h0
     by_cases e:j=i
     · subst e;exact absurd h0 hj
     · exact treeOut_in t m (i+1) R h j (by omega) (by omega) hj
   · split at h
     · cases h
     · split at h
       · split at h
         · rename_i h0 hi ht hin
           by_cases e:j=i
           · subst e
             refine ⟨(tell_ok ht).2,fun k hk hy=> ?_⟩
             have:=treeIn_in _ 32 0 _ hin k (by omega) (by omega) (by rw [tell_L];exact hy)
             rw [tell_L] at this;exact this
           · have:=treeOut_in t m (i+1) _ h j (by omega) (by omega) (by rw [treeIn_L,tell_L];exact hj)
             rw [treeIn_L,tell_L] at this;exact this
         · cases h
       · cases h
theorem tree_inFile {R:FileR} {r:RootR} (h:(tree R r).1=true):InFile R.L r.N:=by
 unfold tree at h
 split at h
 · rename_i ht
   have hN:=tell_ok ht
   have hx:=treeOut_in r.N 32 0 _ h
   simp only [tell_L] at hx
   refine ⟨hN.2,fun i hi h0=>(hx i (by omega) (by omega) h0).1,fun i hi h0 k hk=> ?_⟩
   by_cases hy:num (cl R.L (num (cl R.L r.N) (2*i)%32768)) (2*k)=0
   · rw [hy];omega
   · exact (hx i (by omega) (by omega) h0).2 k hk hy
 · cases h
def treesFrom:Nat→Nat→FileR→Bool × FileR
 | 0,_,R=>(true,R)
 | m+1,i,R=>if (tree R (rootOf R i)).1 then treesFrom m (i+1) (tree R (rootOf R i)).2 else (false,(tree R (rootOf R i)).2)
def marksFrom (R:FileR):Nat→Nat→Int→Int
 | 0,_,b=>b
 | m+1,i,b=>if b<0 then marksFrom R m (i+1) (marked R (rootOf R i)).1 else b
def zeros256:List Nat:=List.replicate 256 0
def used6:List Nat:=[1,1,1,1,1,1]++List.replicate 250 0
def R0:FileR:=⟨[],[],zeros256,zeros256,-1⟩
def R1of (file:List Clus):FileR:={ R0 with L:=padTo file (num (cl file 0) 4),roots:=[⟨num (cl file 0) 6,0,[]⟩] }
def R2of (file:List Clus):FileR:={ R1of file with roots:=(listOf (R1of file)).2,used:=used6 }
def R3of (file:List Clus):Bool × FileR:=treesFrom (R2of file).roots.length 0 (R2of file)
def look (file:List Clus):FileR:=
 if headGood file=false then { R0 with bad:=0 }
 else if (listOf (R1of file)).1=false then { R1of file with roots:=(listOf (R1of file)).2,bad:=5 }
 else if (R3of file).1=false then (R3of file).2
 else { (R3of file).2 with bad:=marksFrom (R3of file).2 (R3of file).2.roots.length 0 (countsFrom (R3of file).2 256 0) }
end Go.Proofs.YtknjjjenklfeoaaGreatDoor
