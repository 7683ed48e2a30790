import Derived.Test.YtknjjjenklfeoaaGreatDoorC00
import Derived.Test.YtknjjjenklfeoaaGreatDoorC07
import Derived.Test.YtknjjjenklfeoaaGreatDoorC01
set_option maxHeartbeats 8000000
set_option maxRecDepth 100000
namespace Go.Proofs.YtknjjjenklfeoaaGreatDoor
open Go.RowKit
structure PicR where
 name:List UInt8
 C:List Clus
structure DiskR where
 C:List Clus
 L:List PicR
def picCells (p:PicR):List Value:= .string (txt p.name) :: flatC p.C
def diskCells (D:DiskR) (Pv:Value):List Value:=flatC D.C++[Pv]
structure Cont (C:List Clus):Prop where
 all:All64 C
 len:C.length=64
theorem Cont.flat {C:List Clus} (h:Cont C):(flatC C).length=4096:=by rw [flatC_length C h.all,h.len]
structure DiskAt (w:World) (d:Nat) (Pv:Value) (D:DiskR):Prop where
 blk:w.heap[d]? = some (.cells (diskCells D Pv).toArray 70 (0,0))
 row:w.ownsRow 0 139 4097 Pv D.L.length (D.L.flatMap picCells)
 cont:Cont D.C
 pics: ∀ p ∈ D.L,Cont p.C
theorem DiskAt.lt {w:World} {d:Nat} {Pv:Value} {D:DiskR} (h:DiskAt w d Pv D):d<w.heap.size:=blk_lt h.blk
theorem DiskAt.cPv {w:World} {d:Nat} {Pv:Value} {D:DiskR} (h:DiskAt w d Pv D):w.cell? ⟨d,4096,none⟩=some Pv:=by
 rw [cell_blk h.blk,List.getElem?_toArray,diskCells,List.getElem?_append_right (by rw [h.cont.flat];omega),h.cont.flat];rfl
theorem DiskAt.range {w:World} {d:Nat} {Pv:Value} {D:DiskR} (h:DiskAt w d Pv D):w.rangeAt d 0 (flatC D.C):=fun j v hv=>by
 have hj:=(List.getElem?_eq_some_iff.1 hv).1
 rw [Nat.zero_add,cell_blk h.blk,List.getElem?_toArray,diskCells,List.getElem?_append_left hj];exact hv
theorem DiskAt.has {w:World} {d:Nat} {Pv:Value} {D:DiskR} (h:DiskAt w d Pv D):HasAt w d 0 4096:=hasAt_of_range h.range h.cont.flat
theorem DiskAt.cells {w:World} {d:Nat} {Pv:Value} {D:DiskR} (h:DiskAt w d Pv D):cellsAt w d 0 4096=flatC D.C:=cellsAt_of_range h.range h.cont.flat
theorem DiskAt.neP {w:World} {d:Nat} {Pv:Value} {D:DiskR} (h:DiskAt w d Pv D): ∀ g,Pv.ownBlock=some g→g≠d:=row_ne h.row h.blk (by decide)
theorem DiskAt.kept {w w':World} {d:Nat} {Pv:Value} {D:DiskR} {S:Nat→Prop} (h:DiskAt w d Pv D) (hk:Kept S w w') (hd: ¬ S d) (hP: ∀ g,Pv.ownBlock=some g→ ¬ S g):DiskAt w' d Pv D:=
 ⟨hk.blk hd h.blk,ownsRow_kept hk h.row hP,h.cont,h.pics⟩
theorem DiskAt.below {w w':World} {d:Nat} {Pv:Value} {D:DiskR} (h:DiskAt w d Pv D) (hb:Below w.heap.size w w'):DiskAt w' d Pv D:=
 h.kept (S:=fun _=>False) (Kept.of_below hb) id (fun _ _=>id)
theorem DiskAt.drewN {w:World} {d:Nat} {Pv:Value} {D:DiskR} (h:DiskAt w d Pv D) (n:Nat):DiskAt (w.drewN n) d Pv D:=
 h.kept (S:=fun _=>False) ((Kept.refl _ _).drewN n) id (fun _ _=>id)
def bDisk (parts:Array (Nat × Value)):Sem Value:=Instr.build 70 parts
theorem build_disk (parts:Array (Nat × Value)):Instr.build 70 parts=bDisk parts:=rfl
theorem run_bDisk {w:World} {C:List Clus} (hC:All64 C) (hl:C.length=64):(bDisk #[(0,.agg (flatC C).toArray)]).run Tryz.prog w= .ok (.agg (diskCells ⟨C,[]⟩ (.slice none 0 0)).toArray) w:=by
 have hz:=(zero_of_info (P:=Tryz.prog) (t:=70) (v:= .agg (diskCells ⟨zD,[]⟩ (.slice none 0 0)).toArray) (n:=4097) (by kernel_rfl)).1
 have hfl:=(Cont.mk hC hl).flat
 have hzl:=(Cont.mk (C:=zD) zD_all zD_length).flat
 have hf:Instr.fill (fun x=>(#[(0,4096),(4096,1)]:Array (Nat × Nat))[x]?) (flatC zD++[Value.slice none 0 0]).toArray [(0,Value.agg (flatC C).toArray)]=some (diskCells ⟨C,[]⟩ (.slice none 0 0)).toArray:=by
   rw [fill_one _ _ 0 0 4096 (.agg (flatC C).toArray) [] (by rfl) (by simp [Value.cells,hfl]) (by simp [hzl]),Instr.fill,show (Value.agg (flatC C).toArray).cells.toList=flatC C from rfl,
     setList_front (flatC zD) [Value.slice none 0 0] (flatC C) (by rw [hzl,hfl])]
   rfl
 exact run_build_struct w 70 _ (.agg (diskCells ⟨zD,[]⟩ (.slice none 0 0)).toArray) #[(0,4096),(4096,1)] #[(0,.agg (flatC C).toArray)] _ Tryz.underlying70 hz (fun w=>by kernel_rfl) hf
def bPic (parts:Array (Nat × Value)):Sem Value:=Instr.build 139 parts
theorem build_pic (parts:Array (Nat × Value)):Instr.build 139 parts=bPic parts:=rfl
theorem run_bPic {w:World} {nm:List UInt8} {C:List Clus} (hC:All64 C) (hl:C.length=64):(bPic #[(0,.string (txt nm)),(1,.agg (flatC C).toArray)]).run Tryz.prog w= .ok (.agg (picCells ⟨nm,C⟩).toArray) w:=by
 have hz:=(zero_of_info (P:=Tryz.prog) (t:=139) (v:= .agg (picCells ⟨[],zD⟩).toArray) (n:=4097) (by kernel_rfl)).1
 have hfl:=(Cont.mk hC hl).flat
 have hzl:=(Cont.mk (C:=zD) zD_all zD_length).flat
 have hf:Instr.fill (fun x=>(#[(0,1),(1,4096)]:Array (Nat × Nat))[x]?) ([Value.string (txt [])]++flatC zD).toArray [(0,Value.string (txt nm)),(1,Value.agg (flatC C).toArray)]=some (picCells ⟨nm,C⟩).toArray:=by
   rw [fill_one _ _ 0 0 1 (.string (txt nm)) _ (by rfl) (by rfl) (by simp),show (Value.string (txt nm)).cells.toList=[Value.string (txt nm)] from rfl,setList_front [Value.string (txt [])] (flatC zD) [Value.string (txt nm)] rfl,
     fill_one _ _ 1 1 4096 (.agg (flatC C).toArray) [] (by rfl) (by simp [Value.cells,hfl]) (by simp [hzl]),Instr.fill,show (Value.agg (flatC C).toArray).cells.toList=flatC C from rfl]
   have:=setList_back [Value.string (txt nm)] (flatC zD) (flatC C) (by rw [hzl,hfl])
   rw [show ([Value.string (txt nm)]:List Value).length=1 from rfl] at this
   rw [this]
   rfl
 exact run_build_struct w 139 _ (.agg (picCells ⟨[],zD⟩).toArray) #[(0,1),(1,4096)] #[(0,.string (txt nm)),(1,.agg (flatC C).toArray)] _ Tryz.underlying139 hz (fun w=>by kernel_rfl) hf
structure WrR where
 cl:Int
 data:Clus
def wrCells (x:WrR):List Value:= .int .i64 x.cl :: cv x.data
theorem wrCells_length {x:WrR} (h:x.data.length=64):(wrCells x).length=65:=by simp [wrCells,cv_length,h]
theorem wrCells_one (x:WrR): ∀ v ∈ wrCells x,v.oneCell'=true:=by
 intro v hv
 rcases List.mem_cons.1 hv with h | h
 · rw [h];rfl
 · exact cv_one _ v h
def flatW (l:List WrR):List Value:=l.flatMap wrCells
def wrAt (l:List WrR) (k:Nat):WrR:=l.getD k ⟨0,zc⟩
theorem flatW_length (l:List WrR) (hl: ∀ x ∈ l,x.data.length=64):(flatW l).length=l.length*65:=by
 induction l with
 | nil=>rfl
 | cons a r ih=>
   have h1:=wrCells_length (hl a (by simp))
   have h2:=ih (fun c hc=>hl c (by simp [hc]))
   simp only [flatW,List.flatMap_cons,List.length_append,List.length_cons] at*
   omega
theorem flatW_range (l:List WrR) (hl: ∀ x ∈ l,x.data.length=64) (k:Nat) (hk:k<l.length) (j:Nat) (hj:j<65):(flatW l)[k*65+j]? = (wrCells (wrAt l k))[j]? := by
 induction l generalizing k with
 | nil=>simp at hk
 | cons a r ih=>
   have h1:=wrCells_length (hl a (by simp))
   cases k with
   | zero=>
     simp only [flatW,List.flatMap_cons,wrAt,List.getD_cons_zero,Nat.zero_mul,Nat.zero_add]
     rw [List.getElem?_append_left (by omega)]
   | succ k=>
     have h2:=ih (fun c hc=>hl c (by simp [hc])) k (by simpa using hk)
     simp only [flatW,List.flatMap_cons,wrAt,List.getD_cons_succ] at*
     rw [List.getElem?_append_right (by omega),h1,← h2]
     congr 1
     omega
theorem wrAt_mem {l:List WrR} {k:Nat} (hk:k<l.length):wrAt l k ∈ l:=by
 unfold wrAt
 rw [List.getD_eq_getElem?_getD,List.getElem?_eq_getElem hk]
 exact List.getElem_mem hk
structure LRow (w:World) (v:Value) (l:List WrR):Prop where
 row:w.ownsRow 0 104 65 v l.length (flatW l)
 lens: ∀ x ∈ l,x.data.length=64
theorem LRow.kept {w w':World} {S:Nat→Prop} {v:Value} {l:List WrR} (h:LRow w v l) (hk:Kept S w w') (hs: ∀ g,v.ownBlock=some g→ ¬ S g):LRow w' v l:=⟨ownsRow_kept hk h.row hs,h.lens⟩
theorem LRow.range {w:World} {g cap:Nat} {l:List WrR} (h:LRow w (.slice (some ⟨g,0,none⟩) l.length cap) l) (k:Nat) (hk:k<l.length):w.rangeAt g (k*65) (wrCells (wrAt l k)):=by
 intro j v hv
 have hj:j<65:=by
   have:=(List.getElem?_eq_some_iff.1 hv).1
   rw [wrCells_length (h.lens _ (wrAt_mem hk))] at this;exact this
 rw [h.row.cellAt (k*65+j) (by omega),flatW_range l h.lens k hk j hj]
 exact hv
def loadWr (a:Addr):Sem Value:=loadVar 104 a
theorem loadVar_wr (a:Addr):loadVar 104 a=loadWr a:=rfl
theorem run_loadWr {w:World} {b o:Nat} (h:HasAt w b o 65):(loadWr ⟨b,o,none⟩).run Tryz.prog w= .ok (.agg (cellsAt w b o 65).toArray) w:=
 run_loadVar_has h 104 _ Tryz.underlying104 rfl (by kernel_rfl)
def storeWr (a:Addr) (v:Value):Sem Unit:=storeVar 104 a v
theorem storeVar_wr (a:Addr) (v:Value):storeVar 104 a v=storeWr a v:=rfl
def zeroWr:Sem Value:=zeroValue 104
theorem zeroValue_wr:zeroValue 104=zeroWr:=rfl
theorem run_zeroWr (w:World):zeroWr.run Tryz.prog w= .ok (.agg (wrCells ⟨0,zc⟩).toArray) w:=
 (zero_of_info (P:=Tryz.prog) (t:=104) (v:= .agg (wrCells ⟨0,zc⟩).toArray) (n:=65) (by kernel_rfl)).1 w
theorem run_storeWr_new {w:World} {z x:WrR} (hz:z.data.length=64) (hx:x.data.length=64):
   (storeWr ⟨w.heap.size,0,none⟩ (.agg (wrCells x).toArray)).run Tryz.prog (w.alloc (.cells (wrCells z).toArray 104))= .ok () (w.alloc (.cells (wrCells x).toArray 104)):=
 run_storeVar_new w 104 (wrCells z).toArray (wrCells x).toArray (by simp only [List.size_toArray,wrCells_length hx];kernel_rfl) (by simp [wrCells_length hz,wrCells_length hx]) (all_oneCell_toArray (wrCells_one x))
theorem row_set {w:World} {base g cap:Nat} {L:List Clus} (h:w.ownsRow base 38 64 (.slice (some ⟨g,0,none⟩) L.length cap) L.length (flatC L)) (hl: ∀ c ∈ L,c.length=64) (k:Nat) (hk:k<L.length) (c:Clus) (hc:c.length=64):
   (w.setCells g (k*64) (cv c)).ownsRow base 38 64 (.slice (some ⟨g,0,none⟩) L.length cap) (L.set k c).length (flatC (L.set k c)):=by
 have hl': ∀ x ∈ L.set k c,x.length=64:=by
   intro x hx
   rcases List.mem_or_eq_of_mem_set hx with y | y
   · exact hl x y
   · rw [y];exact hc
 refine ⟨flatC_length _ hl',?_⟩
 rcases h.2 with ⟨e,_⟩ | ⟨g',cap',cur,e,hb,hh,hn,hm,hs,ht⟩
 · cases e
 · obtain ⟨rfl,rfl⟩:g'=g∧cap'=cap:=by injection e with x1 _ x3;injection x1 with x1;injection x1 with x1;exact ⟨x1.symm,x3.symm⟩
   refine Or.inr ⟨g',cap',setList cur (k*64) (cv c),by simp,hb,heap_setCells_same _ _ _ _ _ _ _ hh,by simpa using hn,hm,by rw [setList_size];exact hs,?_⟩
   have hfl:=flatC_length L hl
   have e2:=setList_flatC L hl k hk c hc
   refine List.ext_getElem? fun i=> ?_
   rw [List.length_set]
   by_cases hi:i<L.length*64
   · rw [List.getElem?_take,if_pos hi,Array.getElem?_toList,setList_get _ _ _ _ (by rw [cv_length,hc,hs];have:=Nat.mul_le_mul_right 64 hn;omega)]
     have e3:(setList (flatC L).toArray (k*64) (cv c))[i]? = (flatC (L.set k c)).toArray[i]? := by rw [e2]
     rw [setList_get _ _ _ _ (by rw [cv_length,hc];simp;omega),List.getElem?_toArray,List.getElem?_toArray] at e3
     rw [← e3]
     have e4:cur[i]? = (flatC L)[i]? := by rw [← ht,List.getElem?_take,if_pos hi,Array.getElem?_toList]
     rw [e4]
   · have hfl2:=flatC_length _ hl'
     rw [List.length_set] at hfl2
     rw [List.getElem?_eq_none (by rw [List.length_take];omega),List.getElem?_eq_none (by omega)]
theorem row_there {w:World} {base g cap:Nat} {L:List Clus} (h:w.ownsRow base 38 64 (.slice (some ⟨g,0,none⟩) L.length cap) L.length (flatC L)) (k:Nat) (hk:k<L.length):w.there g (k*64) 64:=by
 rcases h.2 with ⟨e,_⟩ | ⟨g',cap',cur,e,hb,hh,hn,hm,hs,ht⟩
 · cases e
 · obtain ⟨rfl,rfl⟩:g'=g∧cap'=cap:=by injection e with x1 _ x3;injection x1 with x1;injection x1 with x1;exact ⟨x1.symm,x3.symm⟩
   exact there_blk hh _ _ (by rw [hs];have:=Nat.mul_le_mul_right 64 hn;omega)
end Go.Proofs.YtknjjjenklfeoaaGreatDoor
namespace Go.Proofs.YtknjjjenklfeoaaGreatDoor
open Go.RowKit
attribute [local go_sem ↓] loadVar_clus storeVar_clus zeroValue_clus buildSlice_clus loadVar_wr storeVar_wr zeroValue_wr
attribute [local go_sem] run_loadClus run_storeClus run_zeroClus run_storeClus_new run_loadClus_new zc_length run_bsClus run_loadWr run_zeroWr run_storeWr_new
def sliceLen:Value→Nat
 | .slice _ n _=>n
 | _=>0
def growTo (l:List Clus) (n:Nat):List Clus:=l++List.replicate (n - l.length) zc
def replayOne (l:List Clus) (x:WrR):List Clus:=if x.cl<0 then l else (growTo l (x.cl.toNat+1)).set x.cl.toNat x.data
def replay (l:List Clus) (log:List WrR):List Clus:=log.foldl replayOne l
theorem replayed_any (w:World) (fv lv:Value) (file:List Clus) (log:List WrR) (hf:FRow w fv file) (hl:LRow w lv log) (hfl:file.length≤1000) (hll:log.length≤1000000000) (hcl: ∀ x ∈ log,x.cl<1000):
   Calls Tryz.prog 61 #[fv,lv] w fun e w'=> ∃ v,e= .returned v∧w'.ownsRow w.heap.size 38 64 v (replay file log).length (flatC (replay file log))∧(∀ c ∈ replay file log,c.length=64)∧Below w.heap.size w w':=by
 obtain ⟨fa,fcap,rfl⟩:=row_form hf.row
 obtain ⟨la,lcap,rfl⟩:=row_form hl.row
 obtain ⟨i0,hi0,hz0,hz1,hz2⟩:=info_parts Tryz.infoClus
 go_enter Tryz.func61,Tryz.ntmps61
 go_wp2
 go_loopw [5,6] (fun v i w'=> ∃ k:Nat,k≤file.length∧i= .int .i64 k∧w'.ownsRow w.heap.size 38 64 v k (flatC (file.take k))∧Below w.heap.size w w') (fun _ i _=>file.length - (intOf i).toNat)
 case atStart=>exact ⟨0,by omega,rfl,World.ownsRow_nil _ _ _ _,Below.refl _ _⟩
 case round=>
   obtain ⟨k,hk,rfl,hrow,hb⟩:=hrel
   by_cases hlt:k<file.length
   · have hfk:=hf.kept (S:=fun _=>False) (Kept.of_below hb) (fun _ _=>id)
     obtain ⟨g,cap2,e2,_⟩:=row_some hf.row (by omega)
     obtain ⟨rfl,rfl⟩:fa=some ⟨g,0,none⟩∧fcap=cap2:=by injection e2 with x1 x2 x3;exact ⟨x1,x3⟩
     have l1:=row_has hfk.row hfk.lens k hlt
     have l2:=row_cells hfk.row hfk.lens k hlt
     have hcc:=cl_length hf.lens hlt
     have hki:(k:Int)<(file.length:Int):=by omega
     have ht:file.take (k+1)=file.take k++[cl file k]:=by
       rw [List.take_succ_eq_append_getElem hlt]
       unfold cl
       rw [List.getD_eq_getElem?_getD,List.getElem?_eq_getElem hlt];rfl
     have Ht:=hide ht
     have Hrow:=hide hrow
     have Hb:=hide hb
     clear ht hrow hb hfk e2
     generalize cl file k=c at*
     go_wp2_with (at_builtin;refine wpList_append_lies _ rfl _ _ _ rfl w.heap.size 38 i0 _ 64 64 Tryz.underlying28 hi0 hz0 hz1 hz2 (by simp [Value.cells,cv_length,zc_length]) (by omega) u5 k (flatC (file.take k)) rfl ((uh Hrow).alloc _) ⟨wr.heap.size,0,none⟩ 1 1 (cv c) rfl (by rw [cv_length,hcc]) (World.news_of_block (cs:=(cv c).toArray) (t:=38) (fr:=(0,0)) (heap_alloc_new wr _)) (cv_one c) (by omega) (by unfold maxLen;omega) (by omega) (by have:=(uh Hb).size;simp;omega) (wr.heap.size+1) (by simp) ?_;intro g5 cap5 w5 hown5 hgrow hat hlt5)
     have S5:=hide (((uh Hb).alloc (uh Hb).size (.cells (cv c).toArray 38)).grown hgrow (by have:=(uh Hb).size;simp;omega) (fun k hk=>((uh Hrow).lt k hk).1))
     go_roundw
     case rel=>exact ⟨k+1,by omega,by go_num,by rw [uh Ht,flatC_snoc];exact hown5,uh S5⟩
     case measure=>simp [intOf];omega
   · have hkf:k=file.length:=by omega
     have Hrow:Hid (wr.ownsRow w.heap.size 38 64 u5 file.length (flatC file)):=by rw [hkf,List.take_length] at hrow;exact hrow
     have Hb:=hide hb
     clear hrow hb hkf
     go_wp2
     generalize Value.int .i64 (k:Int)=s6
     go_loopw [5,7] (fun v i w'=> ∃ (m:Nat) (l:List Clus),m≤log.length∧i= .int .i64 m∧w'.ownsRow w.heap.size 38 64 v l.length (flatC l)∧(∀ c ∈ l,c.length=64)∧l.length≤1000∧Below w.heap.size w w'∧replay l (log.drop m)=replay file log) (fun _ i _=>log.length - (intOf i).toNat)
     case atStart=>exact ⟨0,file,by omega,rfl,uh Hrow,hf.lens,hfl,uh Hb,rfl⟩
     case round=>
       obtain ⟨m,l,hm,rfl,hrow,hls,hl1000,hb,he⟩:=hrel
       have He:=hide he
       clear he Hrow Hb
       by_cases hlt2:m<log.length
       · have hlk:=hl.kept (S:=fun _=>False) (Kept.of_below hb) (fun _ _=>id)
         obtain ⟨g,cap2,e2,_⟩:=row_some hl.row (by omega)
         obtain ⟨rfl,rfl⟩:la=some ⟨g,0,none⟩∧lcap=cap2:=by injection e2 with x1 x2 x3;exact ⟨x1,x3⟩
         have hmem:=wrAt_mem hlt2
         have hdl:=hl.lens _ hmem
         have hc1000:=hcl _ hmem
         have l1:=hasAt_of_range (n:=65) (hlk.range m hlt2) (wrCells_length hdl)
         have l2:=cellsAt_of_range (n:=65) (hlk.range m hlt2) (wrCells_length hdl)
         have hmi:(m:Int)<(log.length:Int):=by omega
         have hdrop:log.drop m=wrAt log m :: log.drop (m+1):=by
           rw [List.drop_eq_getElem_cons hlt2]
           unfold wrAt
           rw [List.getD_eq_getElem?_getD,List.getElem?_eq_getElem hlt2];rfl
         have hnx:replay (replayOne l (wrAt log m)) (log.drop (m+1))=replay file log:=by rw [← uh He,hdrop];rfl
         have Hnx:=hide hnx
         have Hrow:=hide hrow
         have Hb:=hide hb
         clear hnx hrow hb hlk e2 hmem hdrop He
         generalize wrAt log m=x at*
         have y0:(wr.alloc (.cells (wrCells x).toArray 104)).cell? ⟨wr.heap.size,0,none⟩=some (.int .i64 x.cl):=by rw [cell_new];rfl
         by_cases hneg:x.cl<0
         · have dn:decide (x.cl<0)=true:=by simpa using hneg
           rw [show replayOne l x=l by simp [replayOne,hneg]] at Hnx
           go_wp2
           go_roundw
           case rel=>exact ⟨m+1,l,by omega,by go_num,(uh Hrow).alloc _,hls,hl1000,(uh Hb).alloc (uh Hb).size _,uh Hnx⟩
           case measure=>simp [intOf];omega
         · have dn:decide (x.cl<0)=false:=by simpa using hneg
           obtain ⟨cx,hcx⟩:=Int.eq_ofNat_of_zero_le (show 0≤x.cl by omega)
           have hrp:replayOne l x=(growTo l (cx+1)).set cx x.data:=by unfold replayOne;rw [if_neg hneg,hcx];rfl
           rw [hrp] at Hnx
           rw [hcx] at y0 dn hc1000
           have hbx:(wr.alloc (.cells (wrCells x).toArray 104)).heap[wr.heap.size]? = some (.cells (wrCells x).toArray 104 (0,0)):=heap_alloc_new _ _
           have Hbx:=hide hbx
           have HbW:=hide ((uh Hb).alloc (uh Hb).size (.cells (wrCells x).toArray 104))
           have HrowW:=hide ((uh Hrow).alloc (.cells (wrCells x).toArray 104))
           have hws:=(uh Hb).size
           have HOlt:Hid (∀ g,u5.ownBlock=some g→g<wr.heap.size):=fun g hg=>((uh Hrow).lt g hg).2
           have Hcx:=hide hcx
           clear hrp hcx hneg hbx Hb Hrow
           go_wp2
           clear l1 l2 y0
           generalize wr.alloc (.cells (wrCells x).toArray 104)=W at*
           generalize wr.heap.size=bx at*
           go_loopw [5] (fun v w'=> ∃ n:Nat,l.length+n≤max l.length (cx+1)∧w'.ownsRow w.heap.size 38 64 v (l++List.replicate n zc).length (flatC (l++List.replicate n zc))∧w'.heap[bx]? = some (.cells (wrCells x).toArray 104 (0,0))∧(∀ g,v.ownBlock=some g→g≠bx)∧Below w.heap.size w w') (fun v _=>cx+1 - sliceLen v)
           case atStart=>
             refine ⟨0,by omega,by simpa using uh HrowW,uh Hbx,fun g hg e=> ?_,uh HbW⟩
             have:=uh HOlt g hg
             omega
           case round=>
             obtain ⟨n,hn,hrow,hbx,hown,hb⟩:=hrel
             clear HrowW Hbx HbW
             rw [List.length_append,List.length_replicate] at hrow
             obtain ⟨a,cap,hv⟩:=row_form hrow
             subst hv
             have z0:wr.cell? ⟨bx,0,none⟩=some (.int .i64 (cx:Int)):=by rw [cell_blk hbx,← uh Hcx];rfl
             have hls': ∀ c ∈ l++List.replicate n zc,c.length=64:=by
               intro c hc
               rcases List.mem_append.1 hc with h | h
               · exact hls c h
               · rw [List.eq_of_mem_replicate h];exact zc_length
             by_cases hle:l.length+n≤cx
             · have dl:decide (((l.length+n:Nat):Int)≤(cx:Int))=true:=by simp;omega
               have hrep:l++List.replicate (n+1) zc=(l++List.replicate n zc)++[zc]:=by rw [List.replicate_succ',List.append_assoc]
               have Hrep:=hide hrep
               have Hrow:=hide hrow
               have Hbx:=hide hbx
               have Hb:=hide hb
               have Hown:=hide hown
               have Hls:=hide hls'
               clear hrep hrow hbx hb hown hls'
               generalize hlr:l++List.replicate n zc=l2 at*
               go_wp2_with (at_builtin;refine wpList_append_lies _ rfl _ _ _ rfl w.heap.size 38 i0 _ 64 64 Tryz.underlying28 hi0 hz0 hz1 hz2 (by simp [Value.cells,cv_length,zc_length]) (by omega) (.slice a (l.length+n) cap) (l.length+n) (flatC l2) rfl ((uh Hrow).alloc _) ⟨wr.heap.size,0,none⟩ 1 1 (cv zc) rfl (by rw [cv_length,zc_length]) (World.news_of_block (cs:=(cv zc).toArray) (t:=38) (fr:=(0,0)) (heap_alloc_new wr _)) (cv_one zc) (by omega) (by unfold maxLen;omega) (by omega) (by have:=(uh Hb).size;simp;omega) (wr.heap.size+1) (by simp) ?_;intro g5 cap5 w5 hown5 hgrow hat hlt5)
               have hsz:=(uh Hb).size
               have hbxl:=blk_lt (uh Hbx)
               have S1:=hide (((uh Hb).alloc (uh Hb).size (.cells (cv zc).toArray 38)).grown hgrow (by simp;omega) (fun k hk=>((uh Hrow).lt k hk).1))
               have S2:=hide (grown_blk hgrow (show (wr.alloc (.cells (cv zc).toArray 38)).heap[bx]? = some (.cells (wrCells x).toArray 104 (0,0)) from (Below.heap_alloc _ _ _ hbxl).trans (uh Hbx)) (fun k hk=>uh Hown k hk))
               have S3:Hid (∀ g,(Value.slice (some ⟨g5,0,none⟩) (l.length+n+1) cap5).ownBlock=some g→g≠bx):=fun g hg e=>by
                 simp only [Value.ownBlock,Option.some.injEq] at hg
                 rcases hat with h | h
                 · exact uh Hown g5 h (by omega)
                 · omega
               go_roundw
               case rel=>
                 refine ⟨n+1,by omega,?_,uh S2,uh S3,uh S1⟩
                 rw [uh Hrep,flatC_snoc,List.length_append,← hlr,List.length_append,List.length_replicate,hlr]
                 exact hown5
               case measure=>simp [sliceLen];omega
             · have dl:decide (((l.length+n:Nat):Int)≤(cx:Int))=false:=by simp;omega
               have hg1:growTo l (cx+1)=l++List.replicate n zc:=by
                 unfold growTo
                 congr 2
                 omega
               rw [hg1] at Hnx
               obtain ⟨g,cap',e3,hcap⟩:=row_some hrow (by omega)
               obtain ⟨rfl,rfl⟩:a=some ⟨g,0,none⟩∧cap=cap':=by injection e3 with x1 x2 x3;exact ⟨x1,x3⟩
               have hlen':(l++List.replicate n zc).length=l.length+n:=by simp
               rw [← hlen'] at hrow
               have hlt3:cx<(l++List.replicate n zc).length:=by rw [hlen'];omega
               have th:=row_there hrow cx hlt3
               have Hset:=hide (row_set hrow hls' cx hlt3 x.data hdl)
               have k1:wr.rangeAt bx 1 (cv x.data):=fun j v hv=>by
                 rw [cell_blk hbx,List.getElem?_toArray,Nat.add_comm];exact hv
               have l1:=hasAt_of_range (n:=64) k1 (by rw [cv_length,hdl])
               have l2:=cellsAt_of_range (n:=64) k1 (by rw [cv_length,hdl])
               have hgb:w.heap.size≤g:=(hrow.lt g rfl).1
               have HB:=hide (below_setCells hb hgb (cx*64) (cv x.data))
               have hls2: ∀ c ∈ (l++List.replicate n zc).set cx x.data,c.length=64:=by
                 intro c hc
                 rcases List.mem_or_eq_of_mem_set hc with y | y
                 · exact hls' c y
                 · rw [y];exact hdl
               have Hls2:=hide hls2
               have hcxi:(cx:Int)<((l.length+n:Nat):Int):=by omega
               rw [hlen'] at Hset
               clear hrow hbx hown hb hls' k1 hg1 e3 hls2
               go_wp2
               go_roundw
               case rel=>
                 refine ⟨m+1,(l++List.replicate n zc).set cx x.data,by omega,by go_num,?_,uh Hls2,by rw [List.length_set,hlen'];omega,uh HB,uh Hnx⟩
                 exact uh Hset
               case measure=>simp [intOf];omega
       · have hml:m=log.length:=by omega
         have hx:l=replay file log:=by rw [← uh He,hml,List.drop_length];rfl
         have Hx:=hide hx
         have Hrow:=hide hrow
         have Hb:=hide hb
         clear hx hrow hb He hml
         go_wp2
         go_ret
         exact ⟨u5,rfl,by rw [← uh Hx];exact uh Hrow,by rw [← uh Hx];exact hls,uh Hb⟩
end Go.Proofs.YtknjjjenklfeoaaGreatDoor
namespace Go.Proofs.YtknjjjenklfeoaaGreatDoor
open Go.RowKit
attribute [local go_sem ↓] loadVar_clus storeVar_clus zeroValue_clus equalIn_clus
attribute [local go_sem] run_loadClus run_storeClus run_zeroClus zc_length
theorem num_any (n:Int) (w:World):Calls Tryz.prog 64 #[.int .i64 n] w fun e w'=>e= .returned (.int .i64 n)∧w'=w:=by
 go_enter Tryz.func64,Tryz.ntmps64
 go_wp2
 go_ret
 exact ⟨rfl,rfl⟩
structure TwoCl (w w':World) (z c:Clus):Prop where
 below:Below w.heap.size w w'
 one:w'.heap[w.heap.size]? = some (.cells (cv z).toArray 38 (0,0))
 two:w'.heap[w.heap.size+1]? = some (.cells (cv c).toArray 38 (0,0))
theorem TwoCl.start (w:World):TwoCl w ((w.alloc (.cells (cv zc).toArray 38)).alloc (.cells (cv zc).toArray 38)) zc zc:=by
 refine ⟨((Below.refl _ _).alloc (Nat.le_refl _) _).alloc (by simp) _,?_,?_⟩
 · rw [Below.heap_alloc _ _ _ (by simp)];exact heap_alloc_new _ _
 · have:=heap_alloc_new (w.alloc (.cells (cv zc).toArray 38)) (.cells (cv zc).toArray 38)
   simpa using this
theorem cv_set (c:Clus) (i:Nat) (b:UInt8):(cv c).set i (.int .u8 (b.toNat:Int))=cv (c.set i b):=by simp [cv,List.map_set]
theorem TwoCl.set {w w':World} {z c:Clus} (h:TwoCl w w' z c) (i:Nat) (b:UInt8):TwoCl w (w'.setCell ⟨w.heap.size+1,i,none⟩ (.int .u8 (b.toNat:Int))) z (c.set i b):=
 ⟨h.below.setCell (by simp) _,by rw [Below.heap_setCell _ _ _ _ (by simp)];exact h.one,by rw [heap_setCell_same _ _ _ _ _ _ _ h.two,List.setIfInBounds_toArray,cv_set]⟩
def clusTo (l:List UInt8) (k:Nat):Clus:=l.take k++List.replicate (64 - k) 0
def clusOf (l:List UInt8):Clus:=clusTo l (min l.length 64)
theorem clusTo_length (l:List UInt8) (k:Nat) (h:k≤l.length) (h2:k≤64):(clusTo l k).length=64:=by simp [clusTo];omega
theorem clusTo_succ (l:List UInt8) (k:Nat) (h:k<l.length) (h2:k<64):(clusTo l k).set k (l.getD k 0)=clusTo l (k+1):=by
 unfold clusTo
 rw [List.set_append_right _ _ (by simp;omega),List.length_take,show k - min k l.length=0 by omega,show 64 - k=(64 - (k+1))+1 by omega,List.replicate_succ,List.set_cons_zero,List.take_succ_eq_append_getElem h,List.append_assoc]
 rw [List.getD_eq_getElem?_getD,List.getElem?_eq_getElem h]
 rfl
theorem TwoCl.back {w w':World} {z c:Clus} (h:TwoCl w w' z c) (hz:z.length=64) (hc:c.length=64):
   w'.there w.heap.size 0 64∧HasAt w' (w.heap.size+1) 0 64∧cellsAt w' (w.heap.size+1) 0 64=cv c∧HasAt (w'.setCells w.heap.size 0 (cv c)) w.heap.size 0 64∧cellsAt (w'.setCells w.heap.size 0 (cv c)) w.heap.size 0 64=cv c∧Below w.heap.size w (w'.setCells w.heap.size 0 (cv c)):=by
 have hs:=box_store h.one hz hc
 exact ⟨there_blk h.one _ _ (by simp [cv_length,hz]),box_has h.two hc,box_cells h.two hc,box_has hs hc,box_cells hs hc,below_setCells h.below (Nat.le_refl _) _ _⟩
theorem cluster_any (s:ByteArray) (w:World) (hs:s.size≤maxLen):
   Calls Tryz.prog 45 #[.string s] w fun e w'=>e= .returned (.agg (cv (clusOf s.data.toList)).toArray)∧Below w.heap.size w w':=by
 unfold maxLen at hs
 have hlen:s.data.toList.length=s.size:=by rw [Array.length_toList];rfl
 have Hres:Hid (clusOf s.data.toList=clusTo s.data.toList (min s.size 64)):=by unfold clusOf;rw [hlen];rfl
 have T0:=hide (TwoCl.start w)
 have Hlen:=hide hlen
 clear hlen
 go_enter Tryz.func45,Tryz.ntmps45
 go_wp2
 go_loopw [4] (fun i w'=> ∃ k:Nat,k≤s.size∧k≤64∧i= .int .i64 k∧TwoCl w w' zc (clusTo s.data.toList k)) (fun i _=>64 - (intOf i).toNat)
 case atStart=>exact ⟨0,by omega,by omega,rfl,uh T0⟩
 case round=>
   obtain ⟨k,hk,hk64,rfl,ht⟩:=hrel
   clear T0
   by_cases hlt:k<s.size∧k<64
   · obtain ⟨h1,h2⟩:=hlt
     have hl:=clusTo_length s.data.toList k (by rw [uh Hlen];omega) (by omega)
     have cb:=box_byte ht.two k (by omega)
     have zb:=frozen_blk ht.two k
     have hget:s.data.toList.getD k 0=s[k]:=by
       rw [List.getD_eq_getElem?_getD,List.getElem?_eq_getElem (by rw [uh Hlen];exact h1)];rfl
     have hset:=ht.set k s[k]
     rw [← hget,clusTo_succ _ _ (by rw [uh Hlen];exact h1) h2,hget] at hset
     have HS:=hide hset
     clear ht hset hget hl
     go_wp2
     go_roundw
     case rel=>exact ⟨k+1,by omega,by omega,by go_num,uh HS⟩
     case measure=>simp [intOf];omega
   · have hkm:k=min s.size 64:=by omega
     have hl:=clusTo_length s.data.toList k (by rw [uh Hlen];omega) (by omega)
     rw [← hkm] at Hres
     obtain ⟨b1,b2,b3,b4,b5,b6⟩:=ht.back zc_length hl
     have HB:=hide b6
     clear ht b6 hkm
     generalize clusTo s.data.toList k=c at*
     by_cases h1:k<s.size
     · have h64: ¬ (k:Int)<64:=by omega
       go_wp2
       rw [uh Hres]
       exact bodyPost_ret (v:= .agg (cv c).toArray) (results_cell Tryz.results45 ⟨w.heap.size,0,none⟩ rfl (by rw [loadVar_clus,run_loadClus b4,b5])) rfl ⟨rfl,uh HB⟩
     · go_wp2
       rw [uh Hres]
       exact bodyPost_ret (v:= .agg (cv c).toArray) (results_cell Tryz.results45 ⟨w.heap.size,0,none⟩ rfl (by rw [loadVar_clus,run_loadClus b4,b5])) rfl ⟨rfl,uh HB⟩
theorem take_snoc_cl (L:List Clus) (k:Nat) (h:k<L.length):L.take (k+1)=L.take k++[cl L k]:=by
 rw [List.take_succ_eq_append_getElem h]
 unfold cl
 rw [List.getD_eq_getElem?_getD,List.getElem?_eq_getElem h];rfl
theorem sameFile_any (w:World) (av bv:Value) (A B:List Clus) (hA:FRow w av A) (hB:FRow w bv B) (hAl:A.length≤100000) (hBl:B.length≤100000):
   Calls Tryz.prog 60 #[av,bv] w fun e w'=>e= .returned (.bool (decide (A=B)))∧Below w.heap.size w w':=by
 obtain ⟨aa,acap,rfl⟩:=row_form hA.row
 obtain ⟨ba,bcap,rfl⟩:=row_form hB.row
 have hAi:(A.length:Int)≤100000:=by omega
 have hBi:(B.length:Int)≤100000:=by omega
 by_cases hlen:A.length=B.length
 · have dl:((A.length:Int) != (B.length:Int))=false:=by rw [bne_eq_false_iff_eq];omega
   have Hlen:=hide hlen
   clear hlen
   go_enter Tryz.func60,Tryz.ntmps60
   go_wp2
   go_loopw [5] (fun i w'=> ∃ k:Nat,k≤A.length∧i= .int .i64 k∧Below w.heap.size w w'∧A.take k=B.take k) (fun i _=>A.length - (intOf i).toNat)
   case atStart=>exact ⟨0,by omega,rfl,Below.refl _ _,rfl⟩
   case round=>
     obtain ⟨k,hk,rfl,hb,ht⟩:=hrel
     have Ht:=hide ht
     have Hb:=hide hb
     have hA':=hA.kept (S:=fun _=>False) (Kept.of_below hb) (fun _ _=>id)
     have hB':=hB.kept (S:=fun _=>False) (Kept.of_below hb) (fun _ _=>id)
     clear ht hb
     by_cases hlt:k<A.length
     · have hltB:k<B.length:=by rw [← uh Hlen];exact hlt
       obtain ⟨g,cap2,e2,_⟩:=row_some hA.row (by omega)
       obtain ⟨rfl,rfl⟩:aa=some ⟨g,0,none⟩∧acap=cap2:=by injection e2 with x1 x2 x3;exact ⟨x1,x3⟩
       obtain ⟨g',cap3,e3,_⟩:=row_some hB.row (by omega)
       obtain ⟨rfl,rfl⟩:ba=some ⟨g',0,none⟩∧bcap=cap3:=by injection e3 with x1 x2 x3;exact ⟨x1,x3⟩
       have l1: ∀ n,HasAt (wr.drewN n) g (k*64) 64:=fun n=>row_has hA'.row hA'.lens k hlt
       have l2: ∀ n,cellsAt (wr.drewN n) g (k*64) 64=cv (cl A k):=fun n=>row_cells hA'.row hA'.lens k hlt
       have l3: ∀ n,HasAt (wr.drewN n) g' (k*64) 64:=fun n=>row_has hB'.row hB'.lens k hltB
       have l4: ∀ n,cellsAt (wr.drewN n) g' (k*64) 64=cv (cl B k):=fun n=>row_cells hB'.row hB'.lens k hltB
       have hca:=cl_length hA.lens hlt
       have hcb:=cl_length hB.lens hltB
       have he:=run_eqClus hca hcb
       have hki:(k:Int)<(A.length:Int):=by omega
       have hkj:(k:Int)<(B.length:Int):=by omega
       have HtA:=hide (take_snoc_cl A k hlt)
       have HtB:=hide (take_snoc_cl B k hltB)
       clear e2 e3 hA' hB'
       by_cases hcc:cl A k=cl B k
       · rw [decide_eq_true hcc] at he
         have Hn:Hid (A.take (k+1)=B.take (k+1)):=by
           have h1:=uh HtA
           have h2:=uh HtB
           have h3:=uh Ht
           rw [h3,hcc,← h2] at h1
           exact h1
         clear hcc HtA HtB
         go_wp2
         go_quiet (fail)
         go_wp2
         go_roundw
         case rel=>exact ⟨k+1,by omega,by go_num,(uh Hb).trans ((((Kept.refl (fun _=>False) wr).drewN nq).below).mono (uh Hb).size),uh Hn⟩
         case measure=>simp [intOf];omega
       · rw [decide_eq_false hcc] at he
         have Hn:Hid (decide (A=B)=false):=by
           refine decide_eq_false ?_
           intro e
           exact hcc (by rw [e])
         clear hcc HtA HtB
         go_wp2
         go_quiet (fail)
         go_wp2
         go_ret
         exact ⟨by rw [uh Hn];rfl,(uh Hb).trans ((((Kept.refl (fun _=>False) wr).drewN nq).below).mono (uh Hb).size)⟩
     · have hx:A=B:=by
         have h:=uh Ht
         have hkA:k=A.length:=by omega
         rw [hkA,List.take_length,uh Hlen,List.take_length] at h
         exact h
       have Hn:Hid (decide (A=B)=true):=decide_eq_true hx
       clear hx
       go_wp2
       go_ret
       exact ⟨by rw [uh Hn];rfl,uh Hb⟩
 · have dl:((A.length:Int) != (B.length:Int))=true:=by rw [bne_iff_ne];omega
   have Hn:Hid (decide (A=B)=false):=decide_eq_false (fun e=>hlen (by rw [e]))
   clear hlen
   go_enter Tryz.func60,Tryz.ntmps60
   go_wp2
   go_ret
   exact ⟨by rw [uh Hn];rfl,Below.refl _ _⟩
def markC (m:UInt8):Clus:=(zc.set 0 m).set 63 (m ^^^ 85)
theorem markC_length (m:UInt8):(markC m).length=64:=by simp [markC,zc_length]
theorem bits_xor85 (m:UInt8):bits BinOp.xor IntKind.u8 (m.toNat:Int) 85=((m ^^^ 85).toNat:Int):=by
 have h: ∀ n:Fin 256,bits BinOp.xor IntKind.u8 ((n.val:Nat):Int) 85=(((UInt8.ofNat n.val) ^^^ 85).toNat:Int):=by decide +kernel
 have:=h ⟨m.toNat,m.toNat_lt⟩
 simpa using this
theorem lawMarked_any (m:UInt8) (w:World):
   Calls Tryz.prog 68 #[.int .u8 (m.toNat:Int)] w fun e w'=>e= .returned (.agg (cv (markC m)).toArray)∧Below w.heap.size w w':=by
 have t0:=TwoCl.start w
 have c0:=box_byte t0.two 0 (by rw [zc_length];omega)
 have hm0:(cv zc).set 0 (.int .u8 (m.toNat:Int))=cv (zc.set 0 m):=cv_set zc 0 m
 have hm1:((cv zc).set 0 (.int .u8 (m.toNat:Int))).set 63 (.int .u8 (bits BinOp.xor IntKind.u8 (m.toNat:Int) 85))=cv (markC m):=by rw [hm0,bits_xor85,cv_set];rfl
 have t2:TwoCl w ((w.alloc (.cells (cv zc).toArray 38)).alloc (.cells (cv (markC m)).toArray 38)) zc (markC m):=by
   refine ⟨((Below.refl _ _).alloc (Nat.le_refl _) _).alloc (by simp) _,?_,?_⟩
   · rw [Below.heap_alloc _ _ _ (by simp)];exact heap_alloc_new _ _
   · have:=heap_alloc_new (w.alloc (.cells (cv zc).toArray 38)) (.cells (cv (markC m)).toArray 38)
     simpa using this
 obtain ⟨b1,b2,b3,b4,b5,b6⟩:=t2.back zc_length (markC_length m)
 have hml:=markC_length m
 have HB:=hide b6
 clear t0 t2 b6 hm0
 go_enter Tryz.func68,Tryz.ntmps68
 go_wp2
 exact bodyPost_ret (v:= .agg (cv (markC m)).toArray) (results_cell Tryz.results68 ⟨w.heap.size,0,none⟩ rfl (by rw [loadVar_clus,run_loadClus b4,b5])) rfl ⟨rfl,uh HB⟩
end Go.Proofs.YtknjjjenklfeoaaGreatDoor
namespace Go.Proofs.YtknjjjenklfeoaaGreatDoor
open Go.RowKit
variable {P:Program} (w:World)
theorem append_where (t ty:TypeId) (base:Nat) (e:TypeId) (i:TypeInfo) (z:Value) (size bytes:Nat) (ht:P.underlying t=some (.slice e)) (hi:P.info? e=some i) (hz:i.zero=some z)
   (hsize:i.size=size) (hby:i.bytes=bytes) (v:Value) (n:Nat) (xs:List Value) (hown:w.ownsRow base e size v n xs)
   (ad:Addr) (m c:Nat) (news:List Value) (hl:news.length=m*size) (hnews: ∀ j u,news[j]? = some u→w.cell? (ad.add j)=some u) (h1: ∀ u ∈ news,u.oneCell'=true)
   (hm:0<m) (h63:n+m≤maxLen) (hbytes:(n+m)*bytes≤140737488355328) (g cap:Nat) (w':World)
   (hr:(Builtin.append_ #[t,t] ty #[v,.slice (some ad) m c]).run P w= .ok (.slice (some ⟨g,0,none⟩) (n+m) cap) w') (hg:w.grownBy w' v.ownBlock):
   (v= .slice (some ⟨g,0,none⟩) n cap∧w.grownBy w' (some g))∨(g=w.heap.size∧w.grownBy w' none):=by
 subst hsize
 subst hby
 have hsmall:n+m≤9223372036854775807:=by simp only [maxLen] at h63;omega
 rcases hown.2 with ⟨rfl,rfl⟩ | ⟨g0,cap0,cur,rfl,hb,hh,hn,hc,hs,htk⟩
 · have hr2:=run_append_nil (P:=P) w t ty e i z ht hi hz ad m c news hl hnews (by omega) (by omega) (by have hb:=hbytes;simp only [Nat.zero_add] at hb;omega)
   rw [hr2] at hr
   injection hr with e1 e2
   injection e1 with e1 _ _
   injection e1 with e1
   injection e1 with e1 _ _
   refine Or.inr ⟨e1.symm,?_⟩
   rw [← e2]
   exact ⟨rfl,rfl,rfl,by simp,fun k hk _=>Below.heap_alloc w.drew _ k hk⟩
 · by_cases hroom:n+m≤cap0
   · have hfit:n*i.size+news.length≤cur.size:=by rw [hl,hs,← Nat.add_mul];exact Nat.mul_le_mul_right _ hroom
     have hr2:=run_append_room (P:=P) w t ty e i ht hi g0 n cap0 cur hh ad m c news hl hnews h1 hroom hfit
     rw [hr2] at hr
     injection hr with e1 _
     injection e1 with e1 _ e3
     injection e1 with e1
     injection e1 with e1 _ _
     subst e1
     subst e3
     exact Or.inl ⟨rfl,hg⟩
   · have hr2:=run_append_grow (P:=P) w t ty e i z ht hi hz ⟨g0,0,none⟩ n cap0 xs hown.1 (hown.cells (g:=g0) rfl) ad m c news hl hnews (by omega) (by omega) (growslice_fits (by omega) hbytes)
     rw [hr2] at hr
     injection hr with e1 e2
     injection e1 with e1 _ _
     injection e1 with e1
     injection e1 with e1 _ _
     refine Or.inr ⟨e1.symm,?_⟩
     rw [← e2]
     exact ⟨rfl,rfl,rfl,by simp,fun k hk _=>Below.heap_alloc w.drew _ k hk⟩
theorem wp_append_keep {o:Oper} {a:Act} {K:Act→World→Prop} {Q:Exit→Act→World→Prop} (s x:Operand) (t:TypeId)
   (ho:o.op= .call { callee:= .builtin .append,args:= #[s,x],argTypes:= #[t,t] })
   (base:Nat) (e:TypeId) (i:TypeInfo) (z:Value) (size bytes:Nat) (ht:P.underlying t=some (.slice e)) (hi:P.info? e=some i) (hz:i.zero=some z)
   (hsize:i.size=size) (hby:i.bytes=bytes) (hzs:z.cells.size=size) (hsz:0<size)
   (v:Value) (n:Nat) (xs:List Value) (hs:a.eval s=v) (hown:w.ownsRow base e size v n xs)
   (ad:Addr) (m c:Nat) (news:List Value) (hx:a.eval x= .slice (some ad) m c) (hl:news.length=m*size) (hnews: ∀ j u,news[j]? = some u→w.cell? (ad.add j)=some u) (h1: ∀ u ∈ news,u.oneCell'=true)
   (hm:0<m) (h63:n+m≤maxLen) (hbytes:(n+m)*bytes≤140737488355328) (hbase:base≤w.heap.size) (H:Nat) (hH:w.heap.size=H)
   (h: ∀ g cap w',w'.ownsRow base e size (.slice (some ⟨g,0,none⟩) (n+m) cap) (n+m) (xs++news)→((v= .slice (some ⟨g,0,none⟩) n cap∧w.grownBy w' (some g))∨(g=H∧w.grownBy w' none))→g<w'.heap.size→K (a.put o.dst (.slice (some ⟨g,0,none⟩) (n+m) cap)) w'):o.wp P a w K Q:=by
 obtain ⟨g,cap,w',hr,h2,h3,h4,h5⟩:=run_append_lies (P:=P) w t o.type base e i z size bytes ht hi hz hsize hby hzs hsz v n xs hown ad m c news hl hnews h1 hm h63 hbytes hbase H hH
 have hw:=append_where w t o.type base e i z size bytes ht hi hz hsize hby v n xs hown ad m c news hl hnews h1 hm h63 hbytes g cap w' hr h3
 rw [hH] at hw
 unfold Oper.wp execOp
 simp only [ho,resolve,invoke,builtin,Sem.run_bind,Sem.run_pure,Result.andThen_ok,List.map_toArray,List.map_cons,List.map_nil,hs,hx,hr]
 exact h g cap w' h2 hw h5
theorem wpList_append_keep {ops:Array Oper} {rest:List Oper} {o:Oper} {a:Act} {Q:Exit→Act→World→Prop} (hgd:o.guard=none) (s x:Operand) (t:TypeId)
   (ho:o.op= .call { callee:= .builtin .append,args:= #[s,x],argTypes:= #[t,t] })
   (base:Nat) (e:TypeId) (i:TypeInfo) (z:Value) (size bytes:Nat) (ht:P.underlying t=some (.slice e)) (hi:P.info? e=some i) (hz:i.zero=some z)
   (hsize:i.size=size) (hby:i.bytes=bytes) (hzs:z.cells.size=size) (hsz:0<size)
   (v:Value) (n:Nat) (xs:List Value) (hs:a.eval s=v) (hown:w.ownsRow base e size v n xs)
   (ad:Addr) (m c:Nat) (news:List Value) (hx:a.eval x= .slice (some ad) m c) (hl:news.length=m*size) (hnews: ∀ j u,news[j]? = some u→w.cell? (ad.add j)=some u) (h1: ∀ u ∈ news,u.oneCell'=true)
   (hm:0<m) (h63:n+m≤maxLen) (hbytes:(n+m)*bytes≤140737488355328) (hbase:base≤w.heap.size) (H:Nat) (hH:w.heap.size=H)
   (h: ∀ g cap w',w'.ownsRow base e size (.slice (some ⟨g,0,none⟩) (n+m) cap) (n+m) (xs++news)→((v= .slice (some ⟨g,0,none⟩) n cap∧w.grownBy w' (some g))∨(g=H∧w.grownBy w' none))→g<w'.heap.size→wpList P ops Q rest (a.put o.dst (.slice (some ⟨g,0,none⟩) (n+m) cap)) w'):wpList P ops Q (o :: rest) a w:=
 wpList_plain hgd fun _ hK=>wp_append_keep w s x t ho base e i z size bytes ht hi hz hsize hby hzs hsz v n xs hs hown ad m c news hx hl hnews h1 hm h63 hbytes hbase H hH fun g cap w' h2 h3 h5=>hK _ _ (h g cap w' h2 h3 h5)
theorem row_prefix {w:World} {base g cap n m:Nat} {e:TypeId} {size:Nat} {xs news:List Value} (h:w.ownsRow base e size (.slice (some ⟨g,0,none⟩) (n+m) cap) (n+m) (xs++news)) (hx:xs.length=n*size):
   w.ownsRow base e size (.slice (some ⟨g,0,none⟩) n cap) n xs:=by
 refine ⟨hx,?_⟩
 rcases h.2 with ⟨e0,_⟩ | ⟨g',cap',cur,e0,hb,hh,hn,hm,hs,ht⟩
 · cases e0
 · injection e0 with e1 _ e3
   injection e1 with e1
   injection e1 with e1 _ _
   subst e1
   subst e3
   refine Or.inr ⟨g,cap,cur,rfl,hb,hh,by omega,hm,hs,?_⟩
   have:cur.toList.take (n*size)=(cur.toList.take ((n+m)*size)).take (n*size):=by
     rw [List.take_take,Nat.min_eq_left (Nat.mul_le_mul_right _ (by omega))]
   rw [this,ht,← hx,List.take_left]
theorem row_still {w w':World} {base g cap n m:Nat} {e:TypeId} {size:Nat} {v:Value} {xs news:List Value} (h:w.ownsRow base e size v n xs) (h':w'.ownsRow base e size (.slice (some ⟨g,0,none⟩) (n+m) cap) (n+m) (xs++news))
   {H:Nat} (hw:(v= .slice (some ⟨g,0,none⟩) n cap∧w.grownBy w' (some g))∨(g=H∧w.grownBy w' none)):w'.ownsRow base e size v n xs:=by
 rcases hw with ⟨rfl,_⟩ | ⟨_,hg⟩
 · exact row_prefix h' h.1
 · obtain ⟨h1,h2⟩:=h
   refine ⟨h1,?_⟩
   rcases h2 with h2 | ⟨g',cap',cur,rfl,hb,hh,r⟩
   · exact Or.inl h2
   · exact Or.inr ⟨g',cap',cur,rfl,hb,by rw [hg.block g' (blk_lt hh) (by simp)];exact hh,r⟩
theorem case_kept {w w':World} {g cap n H:Nat} {v:Value} (hw:(v= .slice (some ⟨g,0,none⟩) n cap∧w.grownBy w' (some g))∨(g=H∧w.grownBy w' none)):Kept (fun k=>v.ownBlock=some k) w w':=by
 rcases hw with ⟨rfl,hg⟩ | ⟨_,hg⟩
 · exact ⟨hg.os,hg.tape,hg.output,hg.size,fun k hk hs=>hg.block k hk (fun e=>hs e.symm)⟩
 · exact ⟨hg.os,hg.tape,hg.output,hg.size,fun k hk _=>hg.block k hk (by simp)⟩
end Go.Proofs.YtknjjjenklfeoaaGreatDoor
