import Derived.Test.YtknjjjenklfeoaaGreatDoorA04
import Derived.Test.YtknjjjenklfeoaaGreatDoorA02
import Derived.Lib.LazyBuf
set_option maxHeartbeats 8000000
set_option maxRecDepth 100000
namespace Go.Proofs.YtknjjjenklfeoaaGreatDoor
open Go.RowKit
attribute [local go_sem ↓] loadVar_clus storeVar_clus zeroValue_clus loadVar_tab storeVar_tab zeroValue_tab loadVar_cnt storeVar_cnt zeroValue_cnt loadVar_head storeVar_head zeroValue_head build_head
attribute [local go_sem] run_loadClus run_storeClus run_zeroClus run_storeClus_new run_loadClus_new zc_length run_loadTab run_storeTab run_zeroTab run_storeTab_new run_loadTab_new zt_length run_loadCnt run_storeCnt run_zeroCnt run_storeCnt_new run_loadCnt_new zk_length run_loadHead run_storeHead run_zeroHead run_storeHead_new run_bHead HasAt_drew cellsAt_drew HasAt_drewN cellsAt_drewN
def headBytes (a b:Nat):Clus:=putNum (putNum (velm++List.replicate 60 0) 4 a) 6 b
theorem headBytes_length (a b:Nat):(headBytes a b).length=64:=by rw [headBytes,putNum_length,putNum_length];rfl
theorem cv_append (a b:List UInt8):cv (a++b)=cv a++cv b:=List.map_append
theorem velm_front:setList (cv zc).toArray 0 (cv velm)=(cv (velm++List.replicate 60 0)).toArray:=by
 have h:zc=List.replicate 4 0++List.replicate 60 0:=by rw [zc,List.replicate_append_replicate]
 rw [h,cv_append,cv_append]
 exact setList_front _ _ _ (by simp [cv_length,velm])
theorem headBytes_eq (a b:Nat):headBytes a b=putNum (putNum (velm++List.replicate 60 0) 4 a) 6 b:=rfl
theorem run_copy_velm (w:World) (b:Nat) (t:TypeId) (hb:w.heap[b]? = some (.cells (cv zc).toArray t (0,0))):
   (Builtin.copy_ #[73,9] 3 #[.slice (some ⟨b,0,none⟩) 64 64,.string ⟨#[86,69,76,77]⟩]).run Tryz.prog w= .ok (.int .i64 4) (w.setCells b 0 (cv velm)):=by
 have h:=run_copy_string (P:=Tryz.prog) w 73 9 3 5 b 0 64 64 ⟨#[86,69,76,77]⟩ Tryz.underlying73
   (run_sizeOf Tryz.sizeByte) (by decide) (fun j hj=>by rw [Nat.zero_add,cell_blk hb,List.getElem?_toArray,cv_get _ _ (by rw [zc_length];have:j<4:=hj;omega)];rfl) (fun j _=>frozen_blk hb _)
 rw [h];rfl
theorem headCluster_any (w:World) (a b:Nat) (ha:a<65536) (hb:b<65536):
   Calls Tryz.prog 134 #[.agg (hv a b).toArray] w fun e w'=>e= .returned (.agg (cv (headBytes a b)).toArray)∧Below w.heap.size w w':=by
 have L0:=hide (Locs.three w (.cells (hv a b).toArray 128) (.cells (cv zc).toArray 38) (.cells (cv zc).toArray 38))
 have hcp:=run_copy_velm _ _ _ (uh L0).o2
 have L1:=(uh L0).setCells 2 rfl 0 (cv velm)
 rw [velm_front] at L1
 generalize World.setCells _ _ _ (cv velm)=W1 at hcp L1
 simp only [List.set_cons_succ,List.set_cons_zero] at L1
 have x1:W1.cell? ⟨w.heap.size,0,none⟩=some (.int .i64 (a:Nat)):=(cell_blk L1.o0 0).trans rfl
 have ea:IntKind.u16.wrap (a:Int)=a:=wraps_u16 _ (by omega) (by omega)
 have eb:IntKind.u16.wrap (b:Int)=b:=wraps_u16 _ (by omega) (by omega)
 have Hp1:=hide (putNumber_any W1 _ _ _ L1.o2 (by simp [velm]) 4 a (by omega) ha)
 have L1:=hide L1
 clear L0
 go_enter Tryz.func134,Tryz.ntmps134
 go_wp2_with fail
 refine (uh Hp1).mono ?_
 rintro e W2 ⟨rfl,hb2,hk2⟩
 have L2:=(uh L1).put 2 _ hk2 hb2
 simp only [List.set_cons_succ,List.set_cons_zero] at L2
 have x2:W2.cell? ⟨w.heap.size,1,none⟩=some (.int .i64 (b:Nat)):=(cell_blk L2.o0 1).trans rfl
 have Hp2:=hide (putNumber_any W2 _ _ _ L2.o2 (by rw [putNum_length];simp [velm]) 6 b (by omega) hb)
 have L2:=hide L2
 clear L1 Hp1 hb2 hk2 x1 hcp
 go_wp2_with fail
 refine (uh Hp2).mono ?_
 rintro e W3 ⟨rfl,hb3,hk3⟩
 have L3:=(uh L2).put 2 _ hk3 hb3
 simp only [List.set_cons_succ,List.set_cons_zero] at L3
 rw [← headBytes_eq] at L3
 have hbl:=headBytes_length a b
 have l1:=box_has L3.o2 hbl
 have l2:=box_cells L3.o2 hbl
 have th:=there_blk L3.o1 0 64 (by simp [cv_length,zc_length])
 have hset:=L3.setCells 1 rfl 0 (cv (headBytes a b))
 rw [setList_all _ _ (by simp [cv_length,zc_length,hbl])] at hset
 have o1:=hset.o1
 have l3:=box_has o1 hbl
 have l4:=box_cells o1 hbl
 have HB:=hide hset.below
 clear L2 L3 Hp2 hb3 hk3 x2 hset o1
 generalize hcc:headBytes a b=c at*
 go_wp2
 refine bodyPost_ret (results_cell Tryz.results134 ⟨w.heap.size+1,0,none⟩ rfl ?_) rfl ⟨rfl,uh HB⟩
 rw [loadVar_clus,run_loadClus l3,l4,hcc]
def setPart (k:List UInt8) (p:Nat) (c:Clus):List UInt8:=k.take (64*p)++c++k.drop (64*p+64)
theorem setPart_length (k:List UInt8) (p:Nat) (c:Clus) (hk:k.length=256) (hc:c.length=64) (hp:p<4):(setPart k p c).length=256:=by
 simp [setPart,hk,hc];omega
theorem setList_mid (a b vs d:List Value) (h:b.length=vs.length):setList (a++b++d).toArray a.length vs=(a++vs++d).toArray:=by
 refine Array.ext_getElem? fun i=> ?_
 rw [setList_get vs a.length _ i (by simp;omega)]
 simp only [List.getElem?_toArray]
 by_cases h1:i<a.length
 · rw [if_neg (by omega),List.append_assoc,List.append_assoc,List.getElem?_append_left h1,List.getElem?_append_left h1]
 · by_cases h2:i<a.length+vs.length
   · rw [if_pos (by omega),List.getElem?_append_left (by simp;omega),List.getElem?_append_right (by omega)]
   · rw [if_neg (by omega),List.getElem?_append_right (by simp;omega),List.getElem?_append_right (by simp;omega)]
     simp [h]
theorem setPart_cells (k:List UInt8) (p:Nat) (c:Clus) (hk:k.length=256) (hc:c.length=64) (hp:p<4):setList (cv k).toArray (64*p) (cv c)=(cv (setPart k p c)).toArray:=by
 have h:k=k.take (64*p)++(k.drop (64*p)).take 64++k.drop (64*p+64):=by
   rw [List.append_assoc,← List.drop_drop,List.take_append_drop,List.take_append_drop]
 have h2:=setList_mid (cv (k.take (64*p))) (cv ((k.drop (64*p)).take 64)) (cv c) (cv (k.drop (64*p+64))) (by simp [cv_length,hk,hc];omega)
 rw [← cv_append,← cv_append,← cv_append,← cv_append,← h,cv_length,List.length_take,hk,Nat.min_eq_left (by omega)] at h2
 exact h2
theorem run_copy_part (w:World) (b x p:Nat) (t u:TypeId) (k:List UInt8) (c:Clus) (hk:k.length=256) (hc:c.length=64) (hp:p<4) (hb:w.heap[b]? = some (.cells (cv k).toArray t (0,0))) (hx:w.heap[x]? = some (.cells (cv c).toArray u (0,0))) (n:Nat) (hn:n=256 - 64*p):
   (Builtin.copy_ #[73,73] 3 #[.slice (some ⟨b,64*p,none⟩) n n,.slice (some ⟨x,0,none⟩) 64 64]).run Tryz.prog w= .ok (.int .i64 64) (w.setCells b (64*p) (cv c)):=by
 have h:=run_copy_cells (P:=Tryz.prog) w 73 73 3 5 b (64*p) n n ⟨x,0,none⟩ 64 64 (cv c) Tryz.underlying73 Tryz.sizeByte
   (by rw [cv_length,hc];exact (Nat.min_eq_left (by omega)).symm)
   (fun j v hv=>by rw [show (⟨x,0,none⟩:Addr).add j=⟨x,j,none⟩ by simp [Addr.add];omega];rw [cell_blk hx,List.getElem?_toArray];exact hv)
   (fun j hj=>by rw [cv_length,hc] at hj;rw [cell_blk hb,List.getElem?_toArray,cv_get _ _ (by omega)];rfl) (fun j _=>frozen_blk hb _) (cv_one c)
 rw [h,cv_length,hc];rfl
theorem setPart_any (w:World) (b:Nat) (k:List UInt8) (hk:k.length=256) (hb:w.heap[b]? = some (.cells (cv k).toArray 123 (0,0))) (p:Nat) (hp:p<4) (c:Clus) (hc:c.length=64):
   Calls Tryz.prog 158 #[.pointer (some ⟨b,0,none⟩),.int .i64 (p:Nat),.agg (cv c).toArray] w fun e w'=>e= .returned (.tuple #[])∧w'.heap[b]? = some (.cells (cv (setPart k p c)).toArray 123 (0,0))∧Kept (fun x=>x=b) w w':=by
 have hbl:=blk_lt hb
 have hk1:=((Kept.refl (fun x=>x=b) w).alloc (.cells (cv c).toArray 38)).drew
 have hb1:(w.alloc (.cells (cv c).toArray 38)).drew.heap[b]? = some (.cells (cv k).toArray 123 (0,0)):=(Below.heap_alloc _ _ _ hbl).trans hb
 have hx1:(w.alloc (.cells (cv c).toArray 38)).drew.heap[w.heap.size]? = some (.cells (cv c).toArray 38 (0,0)):=heap_alloc_new w _
 have hcp:=fun n hn=>run_copy_part _ b _ p _ _ k c hk hc hp hb1 hx1 n hn
 have hk2:=hk1.setCells (b:=b) (Or.inl rfl) (64*p) (cv c)
 have hb2:=heap_setCells_same (cv c) (64*p) _ _ _ _ _ hb1
 rw [setPart_cells k p c hk hc hp] at hb2
 have HK:=hide hk2
 have HB:=hide hb2
 clear hb1 hx1 hk1 hk2 hb2
 rcases (show p=0∨p=1∨p=2∨p=3 by omega) with rfl | rfl | rfl | rfl
 · have hcp1:=hcp 256 rfl
   simp only [Nat.reduceMul] at hcp1
   clear hcp
   go_enter Tryz.func158,Tryz.ntmps158
   go_wp2
   go_region
   go_end0
   exact ⟨rfl,uh HB,uh HK⟩
 · have hcp1:=hcp 192 rfl
   simp only [Nat.reduceMul] at hcp1
   clear hcp
   go_enter Tryz.func158,Tryz.ntmps158
   go_wp2
   go_region
   go_end0
   exact ⟨rfl,uh HB,uh HK⟩
 · have hcp1:=hcp 128 rfl
   simp only [Nat.reduceMul] at hcp1
   clear hcp
   go_enter Tryz.func158,Tryz.ntmps158
   go_wp2
   go_region
   go_end0
   exact ⟨rfl,uh HB,uh HK⟩
 · have hcp1:=hcp 64 rfl
   simp only [Nat.reduceMul] at hcp1
   clear hcp
   go_enter Tryz.func158,Tryz.ntmps158
   go_wp2
   go_region
   go_end0
   exact ⟨rfl,uh HB,uh HK⟩
def partOf (k:List UInt8) (p:Nat):Clus:=(k.drop (64*p)).take 64
theorem partOf_length (k:List UInt8) (p:Nat) (hk:k.length=256) (hp:p<4):(partOf k p).length=64:=by simp [partOf,hk];omega
theorem part_range {w:World} {b:Nat} {k:List UInt8} {t:TypeId} {fr:Nat × Nat} (hb:w.heap[b]? = some (.cells (cv k).toArray t fr)) (p:Nat):w.rangeAt b (64*p) (cv (partOf k p)):=fun j v hv=>by
 rw [cell_blk hb,List.getElem?_toArray]
 simp only [cv,List.getElem?_map,partOf] at hv ⊢
 rw [List.getElem?_take] at hv
 split at hv
 · rw [List.getElem?_drop] at hv;exact hv
 · cases hv
theorem run_arrayAt (w:World) (a:Addr) (cap:Nat):(Instr.arrayAt 38 (.slice (some a) 64 cap)).run Tryz.prog w= .ok (.pointer (some a)) w:=by
 unfold Instr.arrayAt
 simp [run_underlying Tryz.underlying38,go_sem]
attribute [local go_sem] run_arrayAt
theorem part_any (w:World) (k:List UInt8) (hk:k.length=256) (p:Nat) (hp:p<4):
   Calls Tryz.prog 132 #[.agg (cv k).toArray,.int .i64 (p:Nat)] w fun e w'=>e= .returned (.agg (cv (partOf k p)).toArray)∧Below w.heap.size w w':=by
 have L0:=Locs.two w (.cells (cv k).toArray 123) (.cells (cv zc).toArray 38)
 have hpl:=partOf_length k p hk hp
 have l1:=hasAt_of_range (n:=64) (part_range L0.o0 p) (by rw [cv_length,hpl])
 have l2:=cellsAt_of_range (n:=64) (part_range L0.o0 p) (by rw [cv_length,hpl])
 have th:=there_blk L0.o1 0 64 (by simp [cv_length,zc_length])
 have hset:=L0.setCells 1 rfl 0 (cv (partOf k p))
 rw [setList_all _ _ (by simp [cv_length,zc_length,hpl])] at hset
 have l3:=box_has hset.o1 hpl
 have l4:=box_cells hset.o1 hpl
 have HB:=hide hset.below
 clear L0 hset
 rcases (show p=0∨p=1∨p=2∨p=3 by omega) with rfl | rfl | rfl | rfl
 all_goals
   generalize hcc:partOf k _=c at*
   simp only [Nat.reduceMul] at l1 l2
   go_enter Tryz.func132,Tryz.ntmps132
   go_wp2
   refine bodyPost_ret (results_cell Tryz.results132 ⟨w.heap.size+1,0,none⟩ rfl ?_) rfl ⟨rfl,uh HB⟩
   rw [loadVar_clus,run_loadClus l3,l4]
end Go.Proofs.YtknjjjenklfeoaaGreatDoor
namespace Go.Proofs.YtknjjjenklfeoaaGreatDoor
open Go.RowKit
variable {P:Program} (w:World)
end Go.Proofs.YtknjjjenklfeoaaGreatDoor
namespace Go.Proofs.YtknjjjenklfeoaaGreatDoor
open Go.RowKit
structure FEnt where
 v:Value
 n:Nat
 m:UInt8
structure WEnt where
 v:Value
 n:Nat
 m:Int
structure NEnt where
 v:Value
 n:Nat
 s:ByteArray
structure BookR where
 names:List NEnt
 files:List FEnt
 writes:List WEnt
 next:Nat
structure BookV where
 n:Value
 nm:Value
 f:Value
 fm:Value
 w:Value
 wm:Value
def bookCells (V:BookV) (next:Nat):List Value:=[V.n,V.nm,V.f,V.fm,V.w,V.wm,.int .i64 next]
def fillF (x:FEnt):List Value:=flatC (List.replicate x.n (markC x.m))
def fillW (x:WEnt):List Value:=flatW (List.replicate x.n ⟨x.m,zc⟩)
def fillN (x:NEnt):List Value:=List.replicate x.n (.string x.s)
structure BookAt (w:World) (b:Nat) (V:BookV) (B:BookR) (S:Nat→Prop):Prop where
 blk:w.heap[b]? = some (.cells (bookCells V B.next).toArray 77 (0,0))
 rN:w.ownsRow 0 34 1 V.n B.names.length (B.names.map (·.v))
 rNm:w.ownsRow 0 9 1 V.nm B.names.length (B.names.map fun x=> .string x.s)
 rF:w.ownsRow 0 28 1 V.f B.files.length (B.files.map (·.v))
 rFm:w.ownsRow 0 5 1 V.fm B.files.length (B.files.map fun x=> .int .u8 (x.m.toNat:Int))
 rW:w.ownsRow 0 58 1 V.w B.writes.length (B.writes.map (·.v))
 rWm:w.ownsRow 0 3 1 V.wm B.writes.length (B.writes.map fun x=> .int .i64 x.m)
 eN: ∀ x ∈ B.names,w.ownsRow 0 9 1 x.v x.n (fillN x)
 eF: ∀ x ∈ B.files,w.ownsRow 0 38 64 x.v x.n (fillF x)
 eW: ∀ x ∈ B.writes,w.ownsRow 0 104 65 x.v x.n (fillW x)
 apart: ∀ x ∈ B.names,∀ g,x.v.ownBlock=some g→V.nm.ownBlock≠some g
 inB:S b
 inV: ∀ g,(V.n.ownBlock=some g∨V.nm.ownBlock=some g∨V.f.ownBlock=some g∨V.fm.ownBlock=some g∨V.w.ownBlock=some g∨V.wm.ownBlock=some g)→S g
 inN: ∀ x ∈ B.names,∀ g,x.v.ownBlock=some g→S g
 inF: ∀ x ∈ B.files,∀ g,x.v.ownBlock=some g→S g
 inW: ∀ x ∈ B.writes,∀ g,x.v.ownBlock=some g→S g
 lt: ∀ k,S k→k<w.heap.size
theorem BookAt.kept {w w':World} {b:Nat} {V:BookV} {B:BookR} {S T:Nat→Prop} (h:BookAt w b V B S) (hk:Kept T w w') (hd: ∀ k,S k→ ¬ T k):BookAt w' b V B S where
 blk:=hk.blk (hd b h.inB) h.blk
 rN:=ownsRow_kept hk h.rN fun g hg=>hd g (h.inV g (Or.inl hg))
 rNm:=ownsRow_kept hk h.rNm fun g hg=>hd g (h.inV g (Or.inr (Or.inl hg)))
 rF:=ownsRow_kept hk h.rF fun g hg=>hd g (h.inV g (Or.inr (Or.inr (Or.inl hg))))
 rFm:=ownsRow_kept hk h.rFm fun g hg=>hd g (h.inV g (Or.inr (Or.inr (Or.inr (Or.inl hg)))))
 rW:=ownsRow_kept hk h.rW fun g hg=>hd g (h.inV g (Or.inr (Or.inr (Or.inr (Or.inr (Or.inl hg))))))
 rWm:=ownsRow_kept hk h.rWm fun g hg=>hd g (h.inV g (Or.inr (Or.inr (Or.inr (Or.inr (Or.inr hg))))))
 eN:=fun x hx=>ownsRow_kept hk (h.eN x hx) fun g hg=>hd g (h.inN x hx g hg)
 eF:=fun x hx=>ownsRow_kept hk (h.eF x hx) fun g hg=>hd g (h.inF x hx g hg)
 eW:=fun x hx=>ownsRow_kept hk (h.eW x hx) fun g hg=>hd g (h.inW x hx g hg)
 apart:=h.apart
 inB:=h.inB
 inV:=h.inV
 inN:=h.inN
 inF:=h.inF
 inW:=h.inW
 lt:=fun k hk'=>Nat.lt_of_lt_of_le (h.lt k hk') hk.size
theorem BookAt.below {w w':World} {b:Nat} {V:BookV} {B:BookR} {S:Nat→Prop} (h:BookAt w b V B S) (hb:Below w.heap.size w w'):BookAt w' b V B S:=
 h.kept (T:=fun _=>False) (Kept.of_below hb) (fun _ _=>id)
theorem run_buildSlice_two {P:Program} (w:World) (t e:TypeId) (n:Nat) (z v u:Value) (ht:P.underlying t=some (.slice e)) (hi:(P.info? e).map (fun i=>(i.zero,i.size))=some (some z,n)) (h0:0<n) (hn:n≤1000000) (hv:v.cells.size=n) (hu:u.cells.size=n):
   (Instr.buildSlice t 2 #[(0,v),(1,u)]).run P w= .ok (.slice (some ⟨w.heap.size,0,none⟩) 2 2) (w.alloc (.cells (v.cells.toList++u.cells.toList).toArray e)):=by
 obtain ⟨hz,hs⟩:=zero_of_info hi
 cases hq:P.info? e with
 | none=>simp [hq] at hs
 | some i=>
   have hsz:i.size=n:=by simpa [hq] using hs
   have hf:Instr.fill (fun i=>some (i*n,n)) ((Array.range (2*n)).map (z.cells[· % z.cells.size]!)) [(0,v),(1,u)]=some (v.cells.toList++u.cells.toList).toArray:=by
     generalize hA:(Array.range (2*n)).map (z.cells[· % z.cells.size]!)=A
     have hAs:A.toList.length=2*n:=by rw [← hA];simp
     rw [fill_one _ _ 0 0 n v _ (by simp) hv (by rw [← hA];simp;omega),fill_one _ _ 1 n n u [] (by simp) hu (by rw [setList_size,← hA];simp;omega),Instr.fill]
     have e1:setList A 0 v.cells.toList=(v.cells.toList++A.toList.drop n).toArray:=by
       have e0:A=(A.toList.take n++A.toList.drop n).toArray:=by rw [List.take_append_drop]
       conv=>lhs;rw [e0]
       exact setList_front _ _ _ (by simp [hv];rw [← Array.length_toList];omega)
     rw [e1]
     have e2:=setList_back v.cells.toList (A.toList.drop n) u.cells.toList (by simp [hu];rw [← Array.length_toList];omega)
     rw [show v.cells.toList.length=n by simp [hv]] at e2
     rw [e2]
   unfold Instr.buildSlice
   rw [Sem.run_bind,run_underlying ht w]
   simp only [Result.andThen_ok,Go.sizeOf,typeInfo,Sem.run_bind,run_program,hq,Sem.run_pure,hsz]
   rw [if_neg (by omega),if_neg (by omega)]
   simp only [Sem.run_bind,hz,Result.andThen_ok,Sem.run_pure,hf]
   simp [newRow]
def bsClus2 (parts:Array (Nat × Value)):Sem Value:=Instr.buildSlice 28 2 parts
theorem buildSlice_clus2 (parts:Array (Nat × Value)):Instr.buildSlice 28 2 parts=bsClus2 parts:=rfl
theorem run_bsClus2 {w:World} {c d:List UInt8} (hc:c.length=64) (hd:d.length=64):(bsClus2 #[(0,.agg (cv c).toArray),(1,.agg (cv d).toArray)]).run Tryz.prog w= .ok (.slice (some ⟨w.heap.size,0,none⟩) 2 2) (w.alloc (.cells (cv c++cv d).toArray 38)):=
 run_buildSlice_two w 28 38 64 (.agg (cv zc).toArray) (.agg (cv c).toArray) (.agg (cv d).toArray) Tryz.underlying28 (by kernel_rfl) (by omega) (by omega) (by simp [Value.cells,cv_length,hc]) (by simp [Value.cells,cv_length,hd])
end Go.Proofs.YtknjjjenklfeoaaGreatDoor
namespace Go.Proofs.YtknjjjenklfeoaaGreatDoor
open Go.RowKit
attribute [local go_sem ↓] loadVar_clus storeVar_clus zeroValue_clus buildSlice_clus buildSlice_clus2
attribute [local go_sem] run_loadClus run_storeClus run_zeroClus zc_length run_bsClus run_bsClus2
theorem BookAt.cell {w:World} {b:Nat} {V:BookV} {B:BookR} {S:Nat→Prop} (h:BookAt w b V B S) (i:Nat):w.cell? ⟨b,i,none⟩=(bookCells V B.next)[i]? := by rw [cell_blk h.blk,List.getElem?_toArray]
end Go.Proofs.YtknjjjenklfeoaaGreatDoor
namespace Go.Proofs.YtknjjjenklfeoaaGreatDoor
open Go.RowKit
theorem run_storeWr {w:World} {b o:Nat} {x:WrR} (ht:w.there b o 65) (hc:x.data.length=64):(storeWr ⟨b,o,none⟩ (.agg (wrCells x).toArray)).run Tryz.prog w= .ok () (w.setCells b o (wrCells x)):=by
 have:=run_storeVar_mid (P:=Tryz.prog) w b o 104 (wrCells x).toArray (by simpa [wrCells_length hc] using ht) (by simp only [List.size_toArray,wrCells_length hc];kernel_rfl) (all_oneCell_toArray (wrCells_one x))
 simpa [storeWr] using this
def bWr (parts:Array (Nat × Value)):Sem Value:=Instr.build 104 parts
theorem build_wr (parts:Array (Nat × Value)):Instr.build 104 parts=bWr parts:=rfl
theorem run_bWr0 (n:Int) (w:World):(bWr #[(0,.int .i64 n)]).run Tryz.prog w= .ok (.agg (wrCells ⟨n,zc⟩).toArray) w:=by
 have hz:=(zero_of_info (P:=Tryz.prog) (t:=104) (v:= .agg (wrCells ⟨0,zc⟩).toArray) (n:=65) (by kernel_rfl)).1
 have hf:Instr.fill (fun x=>(#[(0,1),(1,64)]:Array (Nat × Nat))[x]?) ([Value.int .i64 0]++cv zc).toArray [(0,Value.int .i64 n)]=some (wrCells ⟨n,zc⟩).toArray:=by
   rw [fill_one _ _ 0 0 1 (.int .i64 n) [] (by rfl) (by rfl) (by simp),Instr.fill,show (Value.int .i64 n).cells.toList=[Value.int .i64 n] from rfl,setList_front [Value.int .i64 0] (cv zc) [Value.int .i64 n] rfl]
   rfl
 exact run_build_struct w 104 _ (.agg (wrCells ⟨0,zc⟩).toArray) #[(0,1),(1,64)] #[(0,.int .i64 n)] _ Tryz.underlying104 hz (fun w=>by kernel_rfl) hf
def bsWr (parts:Array (Nat × Value)):Sem Value:=Instr.buildSlice 58 1 parts
theorem buildSlice_wr (parts:Array (Nat × Value)):Instr.buildSlice 58 1 parts=bsWr parts:=rfl
theorem run_bsWr {w:World} {x:WrR} (hc:x.data.length=64):(bsWr #[(0,.agg (wrCells x).toArray)]).run Tryz.prog w= .ok (.slice (some ⟨w.heap.size,0,none⟩) 1 1) (w.alloc (.cells (wrCells x).toArray 104)):=
 run_buildSlice_one w 58 104 65 (.agg (wrCells ⟨0,zc⟩).toArray) (.agg (wrCells x).toArray) Tryz.underlying58 (by kernel_rfl) (by omega) (by omega) (by simp [Value.cells,wrCells_length hc])
theorem Tryz.infoWr:(Tryz.prog.info? 104).map (fun i=>(i.zero,i.size,i.bytes))=some (some (.agg (wrCells ⟨0,zc⟩).toArray),65,72):=by kernel_rfl
theorem Tryz.infoInt:(Tryz.prog.info? 3).map (fun i=>(i.zero,i.size,i.bytes))=some (some (.int .i64 0),1,8):=by kernel_rfl
theorem flatW_snoc (l:List WrR) (x:WrR):flatW (l++[x])=flatW l++wrCells x:=by simp [flatW]
structure VolR where
 C:List Clus
 L:List WrR
 loose:Bool
 short:Bool
def volCells (Cv Lv:Value) (V:VolR):List Value:=[Cv,Lv,.bool V.loose,.bool V.short]
structure VolAt (w:World) (v:Nat) (Cv Lv:Value) (V:VolR):Prop where
 blk:w.heap[v]? = some (.cells (volCells Cv Lv V).toArray 121 (0,0))
 rowC:w.ownsRow 0 38 64 Cv V.C.length (flatC V.C)
 rowL:w.ownsRow 0 104 65 Lv V.L.length (flatW V.L)
 lenC: ∀ c ∈ V.C,c.length=64
 lenL: ∀ x ∈ V.L,x.data.length=64
 sh:V.short=true→0<V.C.length
def foot (v:Nat) (Cv Lv:Value) (k:Nat):Prop:=k=v∨Cv.ownBlock=some k∨Lv.ownBlock=some k
section
variable {w w':World} {v:Nat} {Cv Lv:Value} {V:VolR}
theorem VolAt.c0 (h:VolAt w v Cv Lv V):w.cell? ⟨v,0,none⟩=some Cv:=by rw [cell_blk h.blk];rfl
theorem VolAt.c1 (h:VolAt w v Cv Lv V):w.cell? ⟨v,1,none⟩=some Lv:=by rw [cell_blk h.blk];rfl
theorem VolAt.c2 (h:VolAt w v Cv Lv V):w.cell? ⟨v,2,none⟩=some (.bool V.loose):=by rw [cell_blk h.blk];rfl
theorem VolAt.c3 (h:VolAt w v Cv Lv V):w.cell? ⟨v,3,none⟩=some (.bool V.short):=by rw [cell_blk h.blk];rfl
theorem VolAt.fz (h:VolAt w v Cv Lv V) (i:Nat):w.frozen? ⟨v,i,none⟩=false:=frozen_blk h.blk i
theorem VolAt.lt (h:VolAt w v Cv Lv V):v<w.heap.size:=blk_lt h.blk
theorem VolAt.neC (h:VolAt w v Cv Lv V): ∀ g,Cv.ownBlock=some g→g≠v:=row_ne h.rowC h.blk (by decide)
theorem VolAt.neL (h:VolAt w v Cv Lv V): ∀ g,Lv.ownBlock=some g→g≠v:=row_ne h.rowL h.blk (by decide)
theorem VolAt.neCL (h:VolAt w v Cv Lv V): ∀ g,Lv.ownBlock=some g→Cv.ownBlock≠some g:=by
 intro g hg hl
 rcases h.rowC.2 with ⟨rfl,_⟩ | ⟨g',cap,cur,rfl,_,hh,_⟩
 · cases hl
 · simp only [Value.ownBlock,Option.some.injEq] at hl
   subst hl
   exact row_ne h.rowL hh (by decide) _ hg rfl
theorem VolAt.foot_lt (h:VolAt w v Cv Lv V): ∀ k,foot v Cv Lv k→k<w.heap.size:=by
 rintro k (rfl | hk | hk)
 · exact h.lt
 · exact (h.rowC.lt k hk).2
 · exact (h.rowL.lt k hk).2
theorem VolAt.kept {S:Nat→Prop} (h:VolAt w v Cv Lv V) (hk:Kept S w w') (hs: ∀ k,foot v Cv Lv k→ ¬ S k):VolAt w' v Cv Lv V:=
 ⟨hk.blk (hs v (Or.inl rfl)) h.blk,ownsRow_kept hk h.rowC (fun g hg=>hs g (Or.inr (Or.inl hg))),ownsRow_kept hk h.rowL (fun g hg=>hs g (Or.inr (Or.inr hg))),h.lenC,h.lenL,h.sh⟩
theorem VolAt.below (h:VolAt w v Cv Lv V) (hb:Below w.heap.size w w'):VolAt w' v Cv Lv V:=h.kept (S:=fun _=>False) (Kept.of_below hb) (fun _ _=>id)
theorem VolAt.drew (h:VolAt w v Cv Lv V):VolAt w.drew v Cv Lv V:=h.kept (S:=fun _=>False) ((Kept.refl _ _).drew) (fun _ _=>id)
theorem VolAt.drewN (h:VolAt w v Cv Lv V) (n:Nat):VolAt (w.drewN n) v Cv Lv V:=h.kept (S:=fun _=>False) ((Kept.refl _ _).drewN n) (fun _ _=>id)
theorem VolAt.alloc (h:VolAt w v Cv Lv V) (o:Obj):VolAt (w.alloc o) v Cv Lv V:=h.below ((Below.refl _ _).alloc (Nat.le_refl _) _)
end
structure VStep (w w':World) (v:Nat) (Cv Lv Cv' Lv':Value) (V':VolR):Prop where
 at':VolAt w' v Cv' Lv' V'
 kept:Kept (foot v Cv Lv) w w'
 new: ∀ k,foot v Cv' Lv' k→foot v Cv Lv k∨w.heap.size≤k
section
variable {w w1 w2:World} {v:Nat} {Cv Lv C1 L1 C2 L2:Value} {V V1 V2:VolR}
theorem VStep.refl (h:VolAt w v Cv Lv V):VStep w w v Cv Lv Cv Lv V:=⟨h,Kept.refl _ _,fun _ hk=>Or.inl hk⟩
theorem VStep.trans (h:VStep w w1 v Cv Lv C1 L1 V1) (k:VStep w1 w2 v C1 L1 C2 L2 V2):VStep w w2 v Cv Lv C2 L2 V2:=
 ⟨k.at',⟨k.kept.os.trans h.kept.os,k.kept.tape.trans h.kept.tape,k.kept.output.trans h.kept.output,Nat.le_trans h.kept.size k.kept.size,fun i hi hs=>by
   rw [k.kept.block i (Nat.lt_of_lt_of_le hi h.kept.size) (fun hf=>(h.new i hf).elim hs (by omega))]
   exact h.kept.block i hi hs⟩,fun i hi=>(k.new i hi).elim (h.new i) (fun hle=>Or.inr (Nat.le_trans h.kept.size hle))⟩
theorem VStep.later (h:VStep w w1 v Cv Lv C1 L1 V1) (hb:Below w1.heap.size w1 w2):VStep w w2 v Cv Lv C1 L1 V1:=
 ⟨h.at'.below hb,h.kept.trans (Kept.of_below hb),h.new⟩
theorem VStep.drew (h:VStep w w1 v Cv Lv C1 L1 V1):VStep w w1.drew v Cv Lv C1 L1 V1:=⟨h.at'.drew,h.kept.drew,h.new⟩
theorem VStep.drewN (h:VStep w w1 v Cv Lv C1 L1 V1) (n:Nat):VStep w (w1.drewN n) v Cv Lv C1 L1 V1:=⟨h.at'.drewN n,h.kept.drewN n,h.new⟩
theorem VStep.alloc (h:VStep w w1 v Cv Lv C1 L1 V1) (o:Obj):VStep w (w1.alloc o) v Cv Lv C1 L1 V1:=h.later ((Below.refl _ _).alloc (Nat.le_refl _) _)
theorem VStep.own (h:VStep w w1 v Cv Lv C1 L1 V1) {S:Nat→Prop} (hk:Kept S w1 w2) (hs: ∀ k,S k→w.heap.size≤k∧ ¬ foot v C1 L1 k):VStep w w2 v Cv Lv C1 L1 V1:=
 ⟨h.at'.kept hk (fun k hf hS=>(hs k hS).2 hf),⟨hk.os.trans h.kept.os,hk.tape.trans h.kept.tape,hk.output.trans h.kept.output,Nat.le_trans h.kept.size hk.size,fun i hi hf=>by
   rw [hk.block i (Nat.lt_of_lt_of_le hi h.kept.size) (fun hS=>by have:=(hs i hS).1;omega)];exact h.kept.block i hi hf⟩,h.new⟩
end
structure Env (w w':World) (v:Nat) (Cv Lv Cv' Lv':Value) (V':VolR) (bs:List (Nat × Obj)):Prop where
 step:VStep w w' v Cv Lv Cv' Lv' V'
 objs: ∀ x ∈ bs,w'.heap[x.1]? = some x.2∧w.heap.size≤x.1∧ ¬ foot v Cv' Lv' x.1
section
variable {w w1 w2:World} {v:Nat} {Cv Lv C1 L1 C2 L2:Value} {V V1 V2:VolR} {bs:List (Nat × Obj)}
theorem Env.start (h:VolAt w v Cv Lv V):Env w w v Cv Lv Cv Lv V []:=⟨VStep.refl h,fun _ hx=>by simp at hx⟩
theorem Env.does (h:Env w w1 v Cv Lv C1 L1 V1 bs) (k:VStep w1 w2 v C1 L1 C2 L2 V2):Env w w2 v Cv Lv C2 L2 V2 bs:=
 ⟨h.step.trans k,fun x hx=>by
   obtain ⟨h1,h2,h3⟩:=h.objs x hx
   exact ⟨(k.kept.block x.1 (blk_lt h1) h3).trans h1,h2,fun hf=>(k.new x.1 hf).elim h3 (by have:=blk_lt h1;omega)⟩⟩
theorem Env.later (h:Env w w1 v Cv Lv C1 L1 V1 bs) (hb:Below w1.heap.size w1 w2):Env w w2 v Cv Lv C1 L1 V1 bs:=
 ⟨h.step.later hb,fun x hx=>by obtain ⟨h1,h2,h3⟩:=h.objs x hx;exact ⟨(hb.block _ (blk_lt h1)).trans h1,h2,h3⟩⟩
theorem Env.drew (h:Env w w1 v Cv Lv C1 L1 V1 bs):Env w w1.drew v Cv Lv C1 L1 V1 bs:=⟨h.step.drew,h.objs⟩
theorem Env.drewN (h:Env w w1 v Cv Lv C1 L1 V1 bs) (n:Nat):Env w (w1.drewN n) v Cv Lv C1 L1 V1 bs:=⟨h.step.drewN n,h.objs⟩
theorem Env.lay (h:Env w w1 v Cv Lv C1 L1 V1 bs) (o:Obj):Env w (w1.alloc o) v Cv Lv C1 L1 V1 ((w1.heap.size,o) :: bs):=
 ⟨h.step.alloc o,fun x hx=>by
   rcases List.mem_cons.1 hx with rfl | hx
   · exact ⟨heap_alloc_new w1 o,h.step.kept.size,fun hf=>by have:=h.step.at'.foot_lt _ hf;omega⟩
   · obtain ⟨h1,h2,h3⟩:=h.objs x hx;exact ⟨(Below.heap_alloc _ _ _ (blk_lt h1)).trans h1,h2,h3⟩⟩
theorem Env.alloc (h:Env w w1 v Cv Lv C1 L1 V1 bs) (o:Obj):Env w (w1.alloc o) v Cv Lv C1 L1 V1 bs:=h.later ((Below.refl _ _).alloc (Nat.le_refl _) _)
theorem Env.sub {cs:List (Nat × Obj)} (h:Env w w1 v Cv Lv C1 L1 V1 bs) (hs: ∀ x ∈ cs,x ∈ bs):Env w w1 v Cv Lv C1 L1 V1 cs:=⟨h.step,fun x hx=>h.objs x (hs x hx)⟩
theorem Env.put {b:Nat} {o o':Obj} (h:Env w w1 v Cv Lv C1 L1 V1 ((b,o) :: bs)) (hne: ∀ x ∈ bs,x.1≠b) (hk:Kept (fun x=>x=b) w1 w2) (ho:w2.heap[b]? = some o'):Env w w2 v Cv Lv C1 L1 V1 ((b,o') :: bs):=by
 obtain ⟨h1,h2,h3⟩:=h.objs (b,o) (by simp)
 refine ⟨h.step.own hk (by rintro k rfl;exact ⟨h2,h3⟩),fun x hx=> ?_⟩
 rcases List.mem_cons.1 hx with rfl | hx
 · exact ⟨ho,h2,h3⟩
 · obtain ⟨y1,y2,y3⟩:=h.objs x (by simp [hx])
   exact ⟨hk.blk (hne x hx) y1,y2,y3⟩
theorem Env.at' (h:Env w w1 v Cv Lv C1 L1 V1 bs):VolAt w1 v C1 L1 V1:=h.step.at'
theorem Env.o0 {b:Nat} {o:Obj} (h:Env w w1 v Cv Lv C1 L1 V1 ((b,o) :: bs)):w1.heap[b]? = some o:=(h.objs (b,o) (by simp)).1
theorem Env.o1 {a b:Nat} {p o:Obj} (h:Env w w1 v Cv Lv C1 L1 V1 ((a,p) :: (b,o) :: bs)):w1.heap[b]? = some o:=(h.objs (b,o) (by simp)).1
theorem Env.o2 {a b c:Nat} {p q o:Obj} (h:Env w w1 v Cv Lv C1 L1 V1 ((a,p) :: (c,q) :: (b,o) :: bs)):w1.heap[b]? = some o:=(h.objs (b,o) (by simp)).1
end
end Go.Proofs.YtknjjjenklfeoaaGreatDoor
namespace Go.Proofs.YtknjjjenklfeoaaGreatDoor
open Go.RowKit
attribute [local go_sem ↓] loadVar_clus storeVar_clus zeroValue_clus loadVar_tab storeVar_tab zeroValue_tab loadVar_cnt storeVar_cnt zeroValue_cnt loadVar_head storeVar_head zeroValue_head build_head buildSlice_clus loadVar_wr storeVar_wr zeroValue_wr build_wr buildSlice_wr
attribute [local go_sem] run_loadClus run_storeClus run_zeroClus run_storeClus_new run_loadClus_new zc_length run_loadTab run_storeTab run_zeroTab run_storeTab_new run_loadTab_new zt_length run_loadCnt run_storeCnt run_zeroCnt run_storeCnt_new run_loadCnt_new zk_length run_loadHead run_storeHead run_zeroHead run_storeHead_new run_bHead HasAt_drew cellsAt_drew HasAt_drewN cellsAt_drewN run_bsClus run_loadWr run_zeroWr run_storeWr run_storeWr_new run_bWr0 run_bsWr
theorem at_any (w:World) (v:Nat) (Cv Lv:Value) (V:VolR) (h:VolAt w v Cv Lv V) (n:Nat) (hn:n<V.C.length):
   Calls Tryz.prog 142 #[.pointer (some ⟨v,0,none⟩),.int .i64 (n:Nat)] w fun e w'=>e= .returned (.agg (cv (cl V.C n)).toArray)∧Below w.heap.size w w':=by
 obtain ⟨g,cap,rfl,_⟩:=row_some h.rowC (by omega)
 have L0:=Locs.one w (.cells (cv zc).toArray 38)
 have h1:=h.below L0.below
 have c0:=h1.c0
 have l1:=row_has h1.rowC h1.lenC n hn
 have l2:=row_cells h1.rowC h1.lenC n hn
 have hcl:=cl_length h.lenC hn
 have hni:(n:Int)<(V.C.length:Int):=by omega
 have HB:=hide L0.below
 generalize hcc:cl V.C n=c at*
 have HB:=hide ((uh HB).alloc (o:= .cells (cv c).toArray 38) (by simp))
 have HB2:Hid (Below w.heap.size w (w.alloc (.cells (cv c).toArray 38))):=(Below.refl _ _).alloc (Nat.le_refl _) _
 clear HB h1 h L0
 go_enter Tryz.func142,Tryz.ntmps142
 go_wp2
 refine bodyPost_ret (results_cell Tryz.results142 ⟨w.heap.size,0,none⟩ rfl ?_) rfl ⟨rfl,uh HB2⟩
 rw [loadVar_clus,run_loadClus_new hcl]
def flushW:WrR:=⟨-1,zc⟩
def flushV (V:VolR):VolR:=if V.loose then ⟨V.C,V.L++[flushW],false,V.short⟩ else V
theorem VolAt.growLog {w w5:World} {v:Nat} {Cv Lv v':Value} {V:VolR} {L':List WrR} {l:Bool} (h:VolAt w v Cv Lv V) (hg:w.grownBy w5 Lv.ownBlock) (hrow:w5.ownsRow 0 104 65 v' L'.length (flatW L')) (hL': ∀ x ∈ L',x.data.length=64) (hat: ∀ g,v'.ownBlock=some g→Lv.ownBlock=some g∨w.heap.size≤g):
   VStep w ((w5.setCell ⟨v,1,none⟩ v').setCell ⟨v,2,none⟩ (.bool l)) v Cv Lv Cv v' ⟨V.C,L',l,V.short⟩:=by
 have b5:w5.heap[v]? = some (.cells (volCells Cv Lv V).toArray 121 (0,0)):=grown_blk hg h.blk h.neL
 have b6:=heap_setCell_same _ _ 2 (.bool l) _ _ _ (heap_setCell_same w5 v 1 v' _ _ _ b5)
 have hk5:Kept (fun k=>Lv.ownBlock=some k) w w5:=⟨hg.os,hg.tape,hg.output,hg.size,fun k hk hs=>hg.block k hk (fun e=>hs e.symm)⟩
 have hkS:Kept (fun k=>k=v) w5 ((w5.setCell ⟨v,1,none⟩ v').setCell ⟨v,2,none⟩ (.bool l)):=(Kept.only w5 v 1 v').trans (Kept.only _ v 2 _)
 refine ⟨⟨?_,?_,?_,h.lenC,hL',h.sh⟩,?_,?_⟩
 · rw [b6];rfl
 · refine ownsRow_kept hkS (ownsRow_kept hk5 h.rowC (fun g hg' hl=>h.neCL g hl hg')) (fun g hg'=>h.neC g hg')
 · exact ownsRow_kept hkS hrow (fun g hg' e=>by
     subst e
     rcases hat _ hg' with h1 | h1
     · exact h.neL _ h1 rfl
     · have:=h.lt;omega)
 · exact (hk5.mono (fun k hk=>Or.inr (Or.inr hk))).trans (hkS.mono (fun k hk=>Or.inl hk))
 · rintro k (rfl | hk | hk)
   · exact Or.inl (Or.inl rfl)
   · exact Or.inl (Or.inr (Or.inl hk))
   · rcases hat k hk with h1 | h1
     · exact Or.inl (Or.inr (Or.inr h1))
     · exact Or.inr h1
theorem flush_any (w:World) (v:Nat) (Cv Lv:Value) (V:VolR) (h:VolAt w v Cv Lv V) (hL:V.L.length≤1000000000):
   Calls Tryz.prog 71 #[.pointer (some ⟨v,0,none⟩)] w fun e w'=>e= .returned (.tuple #[])∧ ∃ Cv' Lv',VStep w w' v Cv Lv Cv' Lv' (flushV V):=by
 have c2:=h.c2
 cases hl:V.loose with
 | false=>
   rw [hl] at c2
   have HR:=hide (VStep.refl h)
   have HV:Hid (flushV V=V):=by unfold flushV;rw [hl];rfl
   go_enter Tryz.func71,Tryz.ntmps71
   go_wp2
   refine bodyPost_ret (results_none rfl _ _ _) rfl ?_
   exact ⟨rfl,Cv,Lv,by rw [uh HV];exact uh HR⟩
 | true=>
   rw [hl] at c2
   have c1:=h.c1
   obtain ⟨i0,hi0,hz0,hz1,hz2⟩:=info_parts Tryz.infoWr
   have HV:Hid (flushV V=⟨V.C,V.L++[flushW],false,V.short⟩):=by unfold flushV;rw [hl];rfl
   have hfz:=h.fz
   have H:=hide h
   have c1': ∀ o,(w.alloc o).cell? ⟨v,1,none⟩=some Lv:=fun o=>(h.alloc o).c1
   clear h
   go_enter Tryz.func71,Tryz.ntmps71
   go_wp2_with (at_builtin;refine wpList_append_lies _ rfl _ _ _ rfl 0 104 i0 _ 65 72 Tryz.underlying58 hi0 hz0 hz1 hz2 (by simp [Value.cells,wrCells,cv_length,zc_length]) (by omega) Lv V.L.length (flatW V.L) rfl ((uh H).alloc _).rowL ⟨w.heap.size,0,none⟩ 1 1 (wrCells flushW) rfl (by rw [wrCells_length zc_length]) (World.news_of_block (cs:=(wrCells flushW).toArray) (t:=104) (fr:=(0,0)) (heap_alloc_new w _)) (wrCells_one flushW) (by omega) (by unfold maxLen;omega) (by omega) (by omega) (w.heap.size+1) (by simp) ?_;intro g5 cap5 w5 hown5 hgrow hat hlt5;have b5:=hide (grown_blk hgrow ((uh H).alloc _).blk (uh H).neL);have c51:w5.cell? ⟨v,1,none⟩=some Lv:=(cell_blk (uh b5) 1).trans rfl;have c52:w5.cell? ⟨v,2,none⟩=some (.bool V.loose):=(cell_blk (uh b5) 2).trans rfl;have z5: ∀ i,w5.frozen? ⟨v,i,none⟩=false:=fun i=>frozen_blk (uh b5) i)
   go_end0
   refine ⟨rfl,Cv,.slice (some ⟨g5,0,none⟩) (V.L.length+1) cap5,?_⟩
   rw [uh HV]
   refine (VStep.alloc (VStep.refl (uh H)) _).trans (VolAt.growLog ((uh H).alloc _) hgrow (L':=V.L++[flushW]) ?_ ?_ ?_)
   · rw [flatW_snoc,List.length_append];exact hown5
   · intro x hx
     rcases List.mem_append.1 hx with hx | hx
     · exact (uh H).lenL x hx
     · rw [List.mem_singleton.1 hx];exact zc_length
   · intro g hg
     simp only [Value.ownBlock,Option.some.injEq] at hg
     subst hg
     rcases hat with h1 | h1
     · exact Or.inl h1
     · right;simp;omega
end Go.Proofs.YtknjjjenklfeoaaGreatDoor
namespace Go.Proofs.YtknjjjenklfeoaaGreatDoor
open Go.RowKit
attribute [local go_sem ↓] loadVar_clus storeVar_clus zeroValue_clus loadVar_tab storeVar_tab zeroValue_tab loadVar_cnt storeVar_cnt zeroValue_cnt loadVar_head storeVar_head zeroValue_head build_head buildSlice_clus loadVar_wr storeVar_wr zeroValue_wr build_wr buildSlice_wr equalIn_clus
attribute [local go_sem] run_loadClus run_storeClus run_zeroClus run_storeClus_new run_loadClus_new zc_length run_loadTab run_storeTab run_zeroTab run_storeTab_new run_loadTab_new zt_length run_loadCnt run_storeCnt run_zeroCnt run_storeCnt_new run_loadCnt_new zk_length run_loadHead run_storeHead run_zeroHead run_storeHead_new run_bHead HasAt_drew cellsAt_drew HasAt_drewN cellsAt_drewN run_bsClus run_loadWr run_zeroWr run_storeWr run_storeWr_new run_bWr0 run_bsWr
def noteV (V:VolR) (n:Nat):VolR:=⟨V.C,V.L++[⟨n,cl V.C n⟩],true,V.short⟩
def completeV (V:VolR):VolR:=if V.short then noteV ⟨V.C,V.L,V.loose,false⟩ (V.C.length - 1) else V
def putW (V:VolR) (n:Nat) (data:Clus):VolR:=⟨(growTo V.C (n+1)).set n data,(completeV V).L++[⟨n,data⟩],true,false⟩
def putV (V:VolR) (n:Nat) (data:Clus):VolR:=
 if n<V.C.length∧cl V.C n=data then V else putW V n data
theorem completeV_C (V:VolR):(completeV V).C=V.C:=by unfold completeV;split <;> rfl
theorem completeV_short (V:VolR):(completeV V).short=false:=by
 unfold completeV
 by_cases h:V.short=true
 · rw [if_pos h];rfl
 · rw [if_neg h];simpa using h
theorem completeV_long {V:VolR} (h:V.short=false):completeV V=V:=by unfold completeV;rw [if_neg (by rw [h];decide)]
theorem completeV_lenL (V:VolR):(completeV V).L.length≤V.L.length+1:=by unfold completeV;split <;> simp [noteV]
theorem growTo_lens {l:List Clus} (hl: ∀ c ∈ l,c.length=64) (n:Nat): ∀ c ∈ growTo l n,c.length=64:=by
 intro c hc
 rcases List.mem_append.1 hc with h | h
 · exact hl c h
 · rw [List.eq_of_mem_replicate h];exact zc_length
theorem growTo_length (l:List Clus) (n:Nat):(growTo l n).length=max l.length n:=by simp [growTo];omega
theorem run_bWr2 {n:Int} {c:Clus} (hc:c.length=64) (w:World):(bWr #[(0,.int .i64 n),(1,.agg (cv c).toArray)]).run Tryz.prog w= .ok (.agg (wrCells ⟨n,c⟩).toArray) w:=by
 have hz:=(zero_of_info (P:=Tryz.prog) (t:=104) (v:= .agg (wrCells ⟨0,zc⟩).toArray) (n:=65) (by kernel_rfl)).1
 have hf:Instr.fill (fun x=>(#[(0,1),(1,64)]:Array (Nat × Nat))[x]?) ([Value.int .i64 0]++cv zc).toArray [(0,Value.int .i64 n),(1,.agg (cv c).toArray)]=some (wrCells ⟨n,c⟩).toArray:=by
   rw [fill_one _ _ 0 0 1 (.int .i64 n) _ (by rfl) (by rfl) (by simp),show (Value.int .i64 n).cells.toList=[Value.int .i64 n] from rfl,setList_front [Value.int .i64 0] (cv zc) [Value.int .i64 n] rfl,
     fill_one _ _ 1 1 64 (.agg (cv c).toArray) _ (by rfl) (by simp [Value.cells,cv_length,hc]) (by simp [cv_length,zc_length]),Instr.fill,show (Value.agg (cv c).toArray).cells.toList=cv c from rfl]
   have:=setList_back [Value.int .i64 n] (cv zc) (cv c) (by simp [cv_length,zc_length,hc])
   rw [show 1=[Value.int .i64 n].length from rfl,this];rfl
 exact run_build_struct w 104 _ (.agg (wrCells ⟨0,zc⟩).toArray) #[(0,1),(1,64)] #[(0,.int .i64 n),(1,.agg (cv c).toArray)] _ Tryz.underlying104 hz (fun w=>by kernel_rfl) hf
attribute [local go_sem] run_bWr2
theorem put_same (w:World) (v:Nat) (Cv Lv:Value) (V:VolR) (h:VolAt w v Cv Lv V) (n:Nat) (hn:n<V.C.length) (data:Clus) (hd:cl V.C n=data) (hL:V.C.length≤1000):
   Calls Tryz.prog 70 #[.pointer (some ⟨v,0,none⟩),.int .i64 (n:Nat),.agg (cv data).toArray] w fun e w'=>e= .returned (.tuple #[])∧ ∃ Cv' Lv',VStep w w' v Cv Lv Cv' Lv' V:=by
 obtain ⟨g,cap,rfl,_⟩:=row_some h.rowC (by omega)
 have hcl:=cl_length h.lenC hn
 rw [hd] at hcl
 have L0:=Locs.one w (.cells (cv data).toArray 38)
 have h1:=h.below L0.below
 have c0:=h1.c0
 have l1:=fun m=>row_has (h1.drewN m).rowC h1.lenC n hn
 have l2:=fun m=>row_cells (h1.drewN m).rowC h1.lenC n hn
 have l3:=fun m=>box_has (L0.drewN m).o0 hcl
 have l4:=fun m=>box_cells (L0.drewN m).o0 hcl
 have hni:(n:Int)<(V.C.length:Int):=by omega
 have dn:decide ((n:Int)<(V.C.length:Int))=true:=by simpa using hni
 have HS:=hide ((VStep.refl h).later L0.below)
 have he:=run_eqClus hcl hcl
 rw [decide_eq_true rfl] at he
 rw [hd] at l2
 clear L0 h1
 go_enter Tryz.func70,Tryz.ntmps70
 go_wp2
 go_quiet (fail)
 go_wp2
 refine bodyPost_ret (results_none rfl _ _ _) rfl ?_
 exact ⟨rfl,_,_,(uh HS).drewN _⟩
theorem VolAt.growC {w w5:World} {v:Nat} {Cv Lv v':Value} {V:VolR} {C':List Clus} (h:VolAt w v Cv Lv V) (hg:w.grownBy w5 Cv.ownBlock) (hrow:w5.ownsRow 0 38 64 v' C'.length (flatC C')) (hC': ∀ x ∈ C',x.length=64) (hlen:V.C.length≤C'.length) (hat: ∀ g,v'.ownBlock=some g→Cv.ownBlock=some g∨w.heap.size≤g):
   VStep w (w5.setCell ⟨v,0,none⟩ v') v Cv Lv v' Lv ⟨C',V.L,V.loose,V.short⟩:=by
 have b5:w5.heap[v]? = some (.cells (volCells Cv Lv V).toArray 121 (0,0)):=grown_blk hg h.blk h.neC
 have b6:=heap_setCell_same w5 v 0 v' _ _ _ b5
 have hk5:Kept (fun k=>Cv.ownBlock=some k) w w5:=⟨hg.os,hg.tape,hg.output,hg.size,fun k hk hs=>hg.block k hk (fun e=>hs e.symm)⟩
 have hkS:=Kept.only w5 v 0 v'
 refine ⟨⟨?_,?_,?_,hC',h.lenL,fun hs=>Nat.lt_of_lt_of_le (h.sh hs) hlen⟩,?_,?_⟩
 · rw [b6];rfl
 · exact ownsRow_kept hkS hrow (fun g hg' e=>by
     subst e
     rcases hat _ hg' with h1 | h1
     · exact h.neC _ h1 rfl
     · have:=h.lt;omega)
 · refine ownsRow_kept hkS (ownsRow_kept hk5 h.rowL (fun g hg' hl=>h.neCL g hg' hl)) (fun g hg'=>h.neL g hg')
 · exact (hk5.mono (fun k hk=>Or.inr (Or.inl hk))).trans (hkS.mono (fun k hk=>Or.inl hk))
 · rintro k (rfl | hk | hk)
   · exact Or.inl (Or.inl rfl)
   · rcases hat k hk with h1 | h1
     · exact Or.inl (Or.inr (Or.inl h1))
     · exact Or.inr h1
   · exact Or.inl (Or.inr (Or.inr hk))
theorem VolAt.setC {w:World} {v g cap:Nat} {Lv:Value} {V:VolR} (h:VolAt w v (.slice (some ⟨g,0,none⟩) V.C.length cap) Lv V) (k:Nat) (hk:k<V.C.length) (c:Clus) (hc:c.length=64):
   VStep w (w.setCells g (k*64) (cv c)) v (.slice (some ⟨g,0,none⟩) V.C.length cap) Lv (.slice (some ⟨g,0,none⟩) V.C.length cap) Lv ⟨V.C.set k c,V.L,V.loose,V.short⟩:=by
 have hkS:=Kept.onlys w g (k*64) (cv c)
 refine ⟨⟨?_,?_,?_,?_,h.lenL,fun hs=>by simpa using h.sh hs⟩,hkS.mono (fun x hx=>Or.inr (Or.inl (by rw [hx];rfl))),fun k hk=>Or.inl hk⟩
 · exact hkS.blk (fun e=>h.neC g rfl e.symm) h.blk
 · have:=row_set h.rowC h.lenC k hk c hc;exact this
 · exact ownsRow_kept hkS h.rowL (fun g' hg' e=>h.neCL g' hg' (by rw [e];rfl))
 · intro x hx
   rcases List.mem_or_eq_of_mem_set hx with y | y
   · exact h.lenC x y
   · rw [y];exact hc
theorem VolAt.setShort {w:World} {v:Nat} {Cv Lv:Value} {V:VolR} (h:VolAt w v Cv Lv V):VStep w (w.setCell ⟨v,3,none⟩ (.bool false)) v Cv Lv Cv Lv ⟨V.C,V.L,V.loose,false⟩:=by
 have hkS:=Kept.only w v 3 (.bool false)
 have b6:=heap_setCell_same w v 3 (.bool false) _ _ _ h.blk
 refine ⟨⟨?_,ownsRow_kept hkS h.rowC (fun g hg e=>h.neC g hg e),ownsRow_kept hkS h.rowL (fun g hg e=>h.neL g hg e),h.lenC,h.lenL,fun hs=>by cases hs⟩,hkS.mono (fun k hk=>Or.inl hk),fun k hk=>Or.inl hk⟩
 rw [b6];rfl
theorem put_end {w U w5:World} {v n g5 cap5:Nat} {Cv Lv C1:Value} {C':List Clus} {L:List WrR} {l s:Bool} {data:Clus} (h:VStep w U v Cv Lv C1 Lv ⟨C',L,l,s⟩) (hdl:data.length=64)
   (hgrow:(U.alloc (.cells (wrCells ⟨n,data⟩).toArray 104)).drew.grownBy w5 Lv.ownBlock) (hown5:w5.ownsRow 0 104 65 (.slice (some ⟨g5,0,none⟩) (L.length+1) cap5) (L.length+1) (flatW L++wrCells ⟨n,data⟩))
   (hat:Lv.ownBlock=some g5∨g5=U.heap.size+1):
   VStep w ((w5.setCell ⟨v,1,none⟩ (.slice (some ⟨g5,0,none⟩) (L.length+1) cap5)).setCell ⟨v,2,none⟩ (.bool true)) v Cv Lv C1 (.slice (some ⟨g5,0,none⟩) (L.length+1) cap5) ⟨C',L++[⟨n,data⟩],true,s⟩:=by
 refine ((h.alloc (.cells (wrCells ⟨n,data⟩).toArray 104)).drew).trans (VolAt.growLog (h.alloc (.cells (wrCells ⟨n,data⟩).toArray 104)).drew.at' hgrow (L':=L++[⟨n,data⟩]) ?_ ?_ ?_)
 · rw [flatW_snoc,List.length_append];exact hown5
 · intro x hx
   rcases List.mem_append.1 hx with hx | hx
   · exact h.at'.lenL x hx
   · rw [List.mem_singleton.1 hx];exact hdl
 · intro g hg
   simp only [Value.ownBlock,Option.some.injEq] at hg
   subst hg
   rcases hat with h1 | h1
   · exact Or.inl h1
   · right
     show (U.alloc _).heap.size≤_
     simp;omega
theorem note_any (w:World) (v:Nat) (Cv Lv:Value) (V:VolR) (h:VolAt w v Cv Lv V) (n:Nat) (hn:n<V.C.length) (hC:V.C.length≤2000) (hL:V.L.length≤1100000000):
   Calls Tryz.prog 133 #[.pointer (some ⟨v,0,none⟩),.int .i64 (n:Nat)] w fun e w'=>e= .returned (.tuple #[])∧ ∃ Cv' Lv',VStep w w' v Cv Lv Cv' Lv' (noteV V n):=by
 obtain ⟨i1,hi1,hy0,hy1,hy2⟩:=info_parts Tryz.infoWr
 obtain ⟨g0,cap0,hCv,_⟩:=row_some h.rowC (by omega)
 subst hCv
 have hcl:=cl_length h.lenC hn
 have d0:=h.drew.c0
 have d1:=h.drew.c1
 have d1': ∀ o,(w.alloc o).drew.cell? ⟨v,1,none⟩=some Lv:=fun o=>(h.alloc o).drew.c1
 have l1:=row_has h.drew.rowC h.lenC n hn
 have l2:=row_cells h.drew.rowC h.lenC n hn
 have hni:(n:Int)<(V.C.length:Int):=by omega
 have HV:Hid (noteV V n=⟨V.C,V.L++[⟨n,cl V.C n⟩],true,V.short⟩):=rfl
 generalize cl V.C n=c at*
 have H:=hide h
 clear h
 go_enter Tryz.func133,Tryz.ntmps133
 go_wp2
 go_region_law (refine step_append_lies _ (by rfl) _ _ _ (by rfl) 0 104 i1 _ 65 72 Tryz.underlying58 hi1 hy0 hy1 hy2 (by simp [Value.cells,wrCells,cv_length,zc_length]) (by omega) Lv V.L.length (flatW V.L) (by rfl) ((uh H).drew.alloc _).rowL ⟨w.heap.size,0,none⟩ 1 1 (wrCells ⟨n,c⟩) (by rfl) (by rw [wrCells_length hcl]) (World.news_of_block (cs:=(wrCells ⟨n,c⟩).toArray) (t:=104) (fr:=(0,0)) (heap_alloc_new w.drew _)) (wrCells_one _) (by omega) (by unfold maxLen;omega) (by omega) (by omega) (w.heap.size+1) (by simp) ?_;intro g5 cap5 w5 hown5 hgrow hat hlt5;have b5:=hide (grown_blk hgrow ((uh H).drew.alloc _).blk (uh H).neL);have c51:w5.cell? ⟨v,1,none⟩=some Lv:=(cell_blk (uh b5) 1).trans rfl;have c52:w5.cell? ⟨v,2,none⟩=some (.bool V.loose):=(cell_blk (uh b5) 2).trans rfl;have z5: ∀ i,w5.frozen? ⟨v,i,none⟩=false:=fun i=>frozen_blk (uh b5) i)
 all_goals
   go_wp2
   go_end0
   have E9:=put_end (VStep.refl (uh H)) hcl hgrow hown5 hat
   rw [← uh HV] at E9
   exact ⟨rfl,_,_,E9⟩
theorem complete_any (w:World) (v:Nat) (Cv Lv:Value) (V:VolR) (h:VolAt w v Cv Lv V) (hC:V.C.length≤1000) (hL:V.L.length≤1100000000):
   Calls Tryz.prog 113 #[.pointer (some ⟨v,0,none⟩)] w fun e w'=>e= .returned (.tuple #[])∧ ∃ Cv' Lv',VStep w w' v Cv Lv Cv' Lv' (completeV V):=by
 have c3:=h.c3
 cases hs:V.short with
 | false=>
   rw [hs] at c3
   have HR:=hide (VStep.refl h)
   have HV:Hid (completeV V=V):=completeV_long hs
   clear h
   go_enter Tryz.func113,Tryz.ntmps113
   go_wp2
   go_end0
   exact ⟨rfl,Cv,Lv,by rw [uh HV];exact uh HR⟩
 | true=>
   rw [hs] at c3
   have hpos:=h.sh hs
   have z3:=h.fz 3
   have S1:=h.setShort
   have HV:Hid (completeV V=noteV ⟨V.C,V.L,V.loose,false⟩ (V.C.length - 1)):=hide (by unfold completeV;rw [if_pos hs])
   have Hn:=note_any _ _ _ _ _ S1.at' (V.C.length - 1) (by show _<V.C.length;omega) (by show V.C.length≤2000;omega) hL
   have ei:((V.C.length - 1:Nat):Int)=(V.C.length:Int) - 1:=by omega
   rw [ei] at Hn
   have Hn:=hide Hn
   have c0:=S1.at'.c0
   obtain ⟨ca,cap,hCv⟩:=row_form h.rowC
   subst hCv
   have HS:=hide S1
   clear S1 h ei
   go_enter Tryz.func113,Tryz.ntmps113
   go_wp2_with fail
   refine (uh Hn).mono ?_
   rintro e w1 ⟨rfl,C1,L1,hS1⟩
   have E1:=hide ((uh HS).trans hS1)
   clear hS1
   go_wp2
   go_end0
   refine ⟨rfl,C1,L1,?_⟩
   rw [uh HV]
   exact uh E1
end Go.Proofs.YtknjjjenklfeoaaGreatDoor
