import Derived.Test.YtknjjjenklfeoaaGreatDoorA00
import Derived.Test.YtknjjjenklfeoaaGreatDoorA03
import Derived.Lib.ConvBytes
import Derived.Lib.EndianBits
import Derived.Deep.RegionLaw
set_option maxHeartbeats 8000000
set_option maxRecDepth 100000
namespace Go.Proofs.YtknjjjenklfeoaaGreatDoor
open Go.RowKit
structure PicR where
 name:List UInt8
 C:List Clus
structure DiskR where
 C:List Clus
 L:List PicR
def picCells (p:PicR):List Value:= .string (txt p.name) :: flatC p.C
def diskCells (D:DiskR) (Pv:Value):List Value:=flatC D.C++[Pv]
structure Cont (C:List Clus):Prop where
 all:All64 C
 len:C.length=64
theorem Cont.flat {C:List Clus} (h:Cont C):(flatC C).length=4096:=by rw [flatC_length C h.all,h.len]
structure DiskAt (w:World) (d:Nat) (Pv:Value) (D:DiskR):Prop where
 blk:w.heap[d]? = some (.cells (diskCells D Pv).toArray 70 (0,0))
 row:w.ownsRow 0 139 4097 Pv D.L.length (D.L.flatMap picCells)
 cont:Cont D.C
 pics: ∀ p ∈ D.L,Cont p.C
theorem DiskAt.lt {w:World} {d:Nat} {Pv:Value} {D:DiskR} (h:DiskAt w d Pv D):d<w.heap.size:=blk_lt h.blk
theorem DiskAt.range {w:World} {d:Nat} {Pv:Value} {D:DiskR} (h:DiskAt w d Pv D):w.rangeAt d 0 (flatC D.C):=fun j v hv=>by
 have hj:=(List.getElem?_eq_some_iff.1 hv).1
 rw [Nat.zero_add,cell_blk h.blk,List.getElem?_toArray,diskCells,List.getElem?_append_left hj];exact hv
theorem DiskAt.has {w:World} {d:Nat} {Pv:Value} {D:DiskR} (h:DiskAt w d Pv D):HasAt w d 0 4096:=hasAt_of_range h.range h.cont.flat
theorem DiskAt.cells {w:World} {d:Nat} {Pv:Value} {D:DiskR} (h:DiskAt w d Pv D):cellsAt w d 0 4096=flatC D.C:=cellsAt_of_range h.range h.cont.flat
theorem DiskAt.neP {w:World} {d:Nat} {Pv:Value} {D:DiskR} (h:DiskAt w d Pv D): ∀ g,Pv.ownBlock=some g→g≠d:=row_ne h.row h.blk (by decide)
theorem DiskAt.kept {w w':World} {d:Nat} {Pv:Value} {D:DiskR} {S:Nat→Prop} (h:DiskAt w d Pv D) (hk:Kept S w w') (hd: ¬ S d) (hP: ∀ g,Pv.ownBlock=some g→ ¬ S g):DiskAt w' d Pv D:=
 ⟨hk.blk hd h.blk,ownsRow_kept hk h.row hP,h.cont,h.pics⟩
theorem DiskAt.below {w w':World} {d:Nat} {Pv:Value} {D:DiskR} (h:DiskAt w d Pv D) (hb:Below w.heap.size w w'):DiskAt w' d Pv D:=
 h.kept (S:=fun _=>False) (Kept.of_below hb) id (fun _ _=>id)
theorem DiskAt.drewN {w:World} {d:Nat} {Pv:Value} {D:DiskR} (h:DiskAt w d Pv D) (n:Nat):DiskAt (w.drewN n) d Pv D:=
 h.kept (S:=fun _=>False) ((Kept.refl _ _).drewN n) id (fun _ _=>id)
def bDisk (parts:Array (Nat × Value)):Sem Value:=Instr.build 70 parts
theorem build_disk (parts:Array (Nat × Value)):Instr.build 70 parts=bDisk parts:=rfl
theorem run_bDisk {w:World} {C:List Clus} (hC:All64 C) (hl:C.length=64):(bDisk #[(0,.agg (flatC C).toArray)]).run Tryz.prog w= .ok (.agg (diskCells ⟨C,[]⟩ (.slice none 0 0)).toArray) w:=by
 have hz:=(zero_of_info (P:=Tryz.prog) (t:=70) (v:= .agg (diskCells ⟨zD,[]⟩ (.slice none 0 0)).toArray) (n:=4097) (by kernel_rfl)).1
 have hfl:=(Cont.mk hC hl).flat
 have hzl:=(Cont.mk (C:=zD) zD_all zD_length).flat
 have hf:Instr.fill (fun x=>(#[(0,4096),(4096,1)]:Array (Nat × Nat))[x]?) (flatC zD++[Value.slice none 0 0]).toArray [(0,Value.agg (flatC C).toArray)]=some (diskCells ⟨C,[]⟩ (.slice none 0 0)).toArray:=by
   rw [fill_one _ _ 0 0 4096 (.agg (flatC C).toArray) [] (by rfl) (by simp [Value.cells,hfl]) (by simp [hzl]),Instr.fill,show (Value.agg (flatC C).toArray).cells.toList=flatC C from rfl,
     setList_front (flatC zD) [Value.slice none 0 0] (flatC C) (by rw [hzl,hfl])]
   rfl
 exact run_build_struct w 70 _ (.agg (diskCells ⟨zD,[]⟩ (.slice none 0 0)).toArray) #[(0,4096),(4096,1)] #[(0,.agg (flatC C).toArray)] _ Tryz.underlying70 hz (fun w=>by kernel_rfl) hf
def bPic (parts:Array (Nat × Value)):Sem Value:=Instr.build 139 parts
theorem build_pic (parts:Array (Nat × Value)):Instr.build 139 parts=bPic parts:=rfl
theorem run_bPic {w:World} {nm:List UInt8} {C:List Clus} (hC:All64 C) (hl:C.length=64):(bPic #[(0,.string (txt nm)),(1,.agg (flatC C).toArray)]).run Tryz.prog w= .ok (.agg (picCells ⟨nm,C⟩).toArray) w:=by
 have hz:=(zero_of_info (P:=Tryz.prog) (t:=139) (v:= .agg (picCells ⟨[],zD⟩).toArray) (n:=4097) (by kernel_rfl)).1
 have hfl:=(Cont.mk hC hl).flat
 have hzl:=(Cont.mk (C:=zD) zD_all zD_length).flat
 have hf:Instr.fill (fun x=>(#[(0,1),(1,4096)]:Array (Nat × Nat))[x]?) ([Value.string (txt [])]++flatC zD).toArray [(0,Value.string (txt nm)),(1,Value.agg (flatC C).toArray)]=some (picCells ⟨nm,C⟩).toArray:=by
   rw [fill_one _ _ 0 0 1 (.string (txt nm)) _ (by rfl) (by rfl) (by simp),show (Value.string (txt nm)).cells.toList=[Value.string (txt nm)] from rfl,setList_front [Value.string (txt [])] (flatC zD) [Value.string (txt nm)] rfl,
     fill_one _ _ 1 1 4096 (.agg (flatC C).toArray) [] (by rfl) (by simp [Value.cells,hfl]) (by simp [hzl]),Instr.fill,show (Value.agg (flatC C).toArray).cells.toList=flatC C from rfl]
   have:=setList_back [Value.string (txt nm)] (flatC zD) (flatC C) (by rw [hzl,hfl])
   rw [show ([Value.string (txt nm)]:List Value).length=1 from rfl] at this
   rw [this]
   rfl
 exact run_build_struct w 139 _ (.agg (picCells ⟨[],zD⟩).toArray) #[(0,1),(1,4096)] #[(0,.string (txt nm)),(1,.agg (flatC C).toArray)] _ Tryz.underlying139 hz (fun w=>by kernel_rfl) hf
structure WrR where
 cl:Int
 data:Clus
def wrCells (x:WrR):List Value:= .int .i64 x.cl :: cv x.data
theorem wrCells_length {x:WrR} (h:x.data.length=64):(wrCells x).length=65:=by simp [wrCells,cv_length,h]
theorem wrCells_one (x:WrR): ∀ v ∈ wrCells x,v.oneCell'=true:=by
 intro v hv
 rcases List.mem_cons.1 hv with h | h
 · rw [h];rfl
 · exact cv_one _ v h
def flatW (l:List WrR):List Value:=l.flatMap wrCells
def wrAt (l:List WrR) (k:Nat):WrR:=l.getD k ⟨0,zc⟩
theorem flatW_range (l:List WrR) (hl: ∀ x ∈ l,x.data.length=64) (k:Nat) (hk:k<l.length) (j:Nat) (hj:j<65):(flatW l)[k*65+j]? = (wrCells (wrAt l k))[j]? := by
 induction l generalizing k with
 | nil=>simp at hk
 | cons a r ih=>
   have h1:=wrCells_length (hl a (by simp))
   cases k with
   | zero=>
     simp only [flatW,List.flatMap_cons,wrAt,List.getD_cons_zero,Nat.zero_mul,Nat.zero_add]
     rw [List.getElem?_append_left (by omega)]
   | succ k=>
     have h2:=ih (fun c hc=>hl c (by simp [hc])) k (by simpa using hk)
     simp only [flatW,List.flatMap_cons,wrAt,List.getD_cons_succ] at*
     rw [List.getElem?_append_right (by omega),h1,← h2]
     congr 1
     omega
theorem wrAt_mem {l:List WrR} {k:Nat} (hk:k<l.length):wrAt l k ∈ l:=by
 unfold wrAt
 rw [List.getD_eq_getElem?_getD,List.getElem?_eq_getElem hk]
 exact List.getElem_mem hk
structure LRow (w:World) (v:Value) (l:List WrR):Prop where
 row:w.ownsRow 0 104 65 v l.length (flatW l)
 lens: ∀ x ∈ l,x.data.length=64
theorem LRow.kept {w w':World} {S:Nat→Prop} {v:Value} {l:List WrR} (h:LRow w v l) (hk:Kept S w w') (hs: ∀ g,v.ownBlock=some g→ ¬ S g):LRow w' v l:=⟨ownsRow_kept hk h.row hs,h.lens⟩
theorem LRow.range {w:World} {g cap:Nat} {l:List WrR} (h:LRow w (.slice (some ⟨g,0,none⟩) l.length cap) l) (k:Nat) (hk:k<l.length):w.rangeAt g (k*65) (wrCells (wrAt l k)):=by
 intro j v hv
 have hj:j<65:=by
   have:=(List.getElem?_eq_some_iff.1 hv).1
   rw [wrCells_length (h.lens _ (wrAt_mem hk))] at this;exact this
 rw [h.row.cellAt (k*65+j) (by omega),flatW_range l h.lens k hk j hj]
 exact hv
def loadWr (a:Addr):Sem Value:=loadVar 104 a
theorem loadVar_wr (a:Addr):loadVar 104 a=loadWr a:=rfl
theorem run_loadWr {w:World} {b o:Nat} (h:HasAt w b o 65):(loadWr ⟨b,o,none⟩).run Tryz.prog w= .ok (.agg (cellsAt w b o 65).toArray) w:=
 run_loadVar_has h 104 _ Tryz.underlying104 rfl (by kernel_rfl)
def storeWr (a:Addr) (v:Value):Sem Unit:=storeVar 104 a v
theorem storeVar_wr (a:Addr) (v:Value):storeVar 104 a v=storeWr a v:=rfl
def zeroWr:Sem Value:=zeroValue 104
theorem zeroValue_wr:zeroValue 104=zeroWr:=rfl
theorem run_zeroWr (w:World):zeroWr.run Tryz.prog w= .ok (.agg (wrCells ⟨0,zc⟩).toArray) w:=
 (zero_of_info (P:=Tryz.prog) (t:=104) (v:= .agg (wrCells ⟨0,zc⟩).toArray) (n:=65) (by kernel_rfl)).1 w
theorem run_storeWr_new {w:World} {z x:WrR} (hz:z.data.length=64) (hx:x.data.length=64):
   (storeWr ⟨w.heap.size,0,none⟩ (.agg (wrCells x).toArray)).run Tryz.prog (w.alloc (.cells (wrCells z).toArray 104))= .ok () (w.alloc (.cells (wrCells x).toArray 104)):=
 run_storeVar_new w 104 (wrCells z).toArray (wrCells x).toArray (by simp only [List.size_toArray,wrCells_length hx];kernel_rfl) (by simp [wrCells_length hz,wrCells_length hx]) (all_oneCell_toArray (wrCells_one x))
theorem row_set {w:World} {base g cap:Nat} {L:List Clus} (h:w.ownsRow base 38 64 (.slice (some ⟨g,0,none⟩) L.length cap) L.length (flatC L)) (hl: ∀ c ∈ L,c.length=64) (k:Nat) (hk:k<L.length) (c:Clus) (hc:c.length=64):
   (w.setCells g (k*64) (cv c)).ownsRow base 38 64 (.slice (some ⟨g,0,none⟩) L.length cap) (L.set k c).length (flatC (L.set k c)):=by
 have hl': ∀ x ∈ L.set k c,x.length=64:=by
   intro x hx
   rcases List.mem_or_eq_of_mem_set hx with y | y
   · exact hl x y
   · rw [y];exact hc
 refine ⟨flatC_length _ hl',?_⟩
 rcases h.2 with ⟨e,_⟩ | ⟨g',cap',cur,e,hb,hh,hn,hm,hs,ht⟩
 · cases e
 · obtain ⟨rfl,rfl⟩:g'=g∧cap'=cap:=by injection e with x1 _ x3;injection x1 with x1;injection x1 with x1;exact ⟨x1.symm,x3.symm⟩
   refine Or.inr ⟨g',cap',setList cur (k*64) (cv c),by simp,hb,heap_setCells_same _ _ _ _ _ _ _ hh,by simpa using hn,hm,by rw [setList_size];exact hs,?_⟩
   have hfl:=flatC_length L hl
   have e2:=setList_flatC L hl k hk c hc
   refine List.ext_getElem? fun i=> ?_
   rw [List.length_set]
   by_cases hi:i<L.length*64
   · rw [List.getElem?_take,if_pos hi,Array.getElem?_toList,setList_get _ _ _ _ (by rw [cv_length,hc,hs];have:=Nat.mul_le_mul_right 64 hn;omega)]
     have e3:(setList (flatC L).toArray (k*64) (cv c))[i]? = (flatC (L.set k c)).toArray[i]? := by rw [e2]
     rw [setList_get _ _ _ _ (by rw [cv_length,hc];simp;omega),List.getElem?_toArray,List.getElem?_toArray] at e3
     rw [← e3]
     have e4:cur[i]? = (flatC L)[i]? := by rw [← ht,List.getElem?_take,if_pos hi,Array.getElem?_toList]
     rw [e4]
   · have hfl2:=flatC_length _ hl'
     rw [List.length_set] at hfl2
     rw [List.getElem?_eq_none (by rw [List.length_take];omega),List.getElem?_eq_none (by omega)]
theorem row_there {w:World} {base g cap:Nat} {L:List Clus} (h:w.ownsRow base 38 64 (.slice (some ⟨g,0,none⟩) L.length cap) L.length (flatC L)) (k:Nat) (hk:k<L.length):w.there g (k*64) 64:=by
 rcases h.2 with ⟨e,_⟩ | ⟨g',cap',cur,e,hb,hh,hn,hm,hs,ht⟩
 · cases e
 · obtain ⟨rfl,rfl⟩:g'=g∧cap'=cap:=by injection e with x1 _ x3;injection x1 with x1;injection x1 with x1;exact ⟨x1.symm,x3.symm⟩
   exact there_blk hh _ _ (by rw [hs];have:=Nat.mul_le_mul_right 64 hn;omega)
theorem pIsName_any (s:ByteArray) (w:World) (hs:s.size≤maxLen):
   Calls Tryz.prog 82 #[.string s] w fun e w'=>e= .returned (.bool (isNameB s.data.toList))∧Below w.heap.size w w':=by
 unfold maxLen at hs
 have hlen:s.data.toList.length=s.size:=by rw [Array.length_toList];rfl
 have Hr:Hid (isNameB s.data.toList=(s.data.toList.all letter && (decide (1≤s.data.toList.length) && decide (s.data.toList.length≤12)))):=rfl
 rw [hlen] at Hr
 have Hlen:=hide hlen
 clear hlen
 by_cases h1:s.size<1
 · have d1:decide ((s.size:Int)<1)=true:=decide_eq_true (by omega)
   rw [show decide (1≤s.size)=false from decide_eq_false (by omega),Bool.false_and,Bool.and_false] at Hr
   go_enter Tryz.func82,Tryz.ntmps82
   go_wp2
   go_ret
   exact ⟨by rw [uh Hr];rfl,Below.refl _ _⟩
 have d1:decide ((s.size:Int)<1)=false:=decide_eq_false (by omega)
 rw [show decide (1≤s.size)=true from decide_eq_true (by omega),Bool.true_and] at Hr
 by_cases h12:12<s.size
 · have d2:decide ((12:Int)<(s.size:Int))=true:=decide_eq_true (by omega)
   rw [show decide (s.size≤12)=false from decide_eq_false (by omega),Bool.and_false] at Hr
   go_enter Tryz.func82,Tryz.ntmps82
   go_wp2
   go_ret
   exact ⟨by rw [uh Hr];rfl,Below.refl _ _⟩
 have d2:decide ((12:Int)<(s.size:Int))=false:=decide_eq_false (by omega)
 rw [show decide (s.size≤12)=true from decide_eq_true (by omega),Bool.and_true] at Hr
 have hconv:=Lib.run_convert_string_bytes (P:=Tryz.prog) w 9 73 5 s Tryz.underlying9 Tryz.underlying73 Tryz.underlying5
 have hB:Hid (Below w.heap.size w (Lib.bytesWorld w 5 s)):=⟨rfl,rfl,rfl,by rw [Lib.bytesWorld_size];omega,fun k hk=>Lib.bytesWorld_at_old w _ s k hk⟩
 have hC:Hid (∀ j,j<s.size→(Lib.bytesWorld w 5 s).cell? ⟨w.heap.size,j,none⟩=some (.int .u8 (s.data.toList.getD j 0).toNat)):=fun j hj=>Lib.bytesWorld_cell w _ s j hj
 generalize Lib.bytesWorld w 5 s=w1 at hconv hB hC
 generalize grownCap w s.size 0 5=cap at hconv
 go_enter Tryz.func82,Tryz.ntmps82
 go_wp2
 go_loop [16] (fun i=> ∃ k:Nat,k≤s.size∧i= .int .i64 k∧(s.data.toList.take k).all letter=true) (fun i=>s.size - (intOf i).toNat)
 case atStart=>exact ⟨0,Nat.zero_le _,rfl,by simp⟩
 case round=>
   obtain ⟨k,hk,rfl,ha⟩:=hrel
   have Ha:=hide ha
   clear ha
   by_cases hlt:k<s.size
   · have hget:s.data.toList.getD k 0=s[k]:=by
       rw [List.getD_eq_getElem?_getD,List.getElem?_eq_getElem (by rw [uh Hlen];exact hlt)];rfl
     have hcell:=uh hC k hlt
     rw [hget] at hcell
     have hts:s.data.toList.take (k+1)=s.data.toList.take k++[s[k]]:=by
       rw [List.take_succ_eq_append_getElem (by rw [uh Hlen];exact hlt)];rfl
     have hb:=s[k].toNat_lt
     have hl:letter s[k]=(decide (97≤s[k].toNat) && decide (s[k].toNat≤122)):=rfl
     have hall:letter s[k]=false→isNameB s.data.toList=false:=fun hf=>by
       have:s.data.toList.all letter=false:=by
         rw [List.all_eq_false]
         exact ⟨s[k],by rw [← List.take_append_drop (k+1) s.data.toList,hts];simp,by rw [hf];simp⟩
       rw [uh Hr,this]
     have hnext:letter s[k]=true→(s.data.toList.take (k+1)).all letter=true:=fun ht=>by rw [hts,List.all_append,uh Ha];simp [ht]
     have HA:=hide hall
     have HN:=hide hnext
     have HL:=hide hl
     clear hall hnext hl hts hget
     by_cases h97:s[k].toNat<97
     · have d3:decide ((s[k].toNat:Int)<97)=true:=decide_eq_true (by omega)
       have e:=hide (uh HA (by rw [uh HL,show decide (97≤s[k].toNat)=false from decide_eq_false (by omega)];rfl))
       go_wp2
       go_ret
       exact ⟨by rw [uh e];rfl,uh hB⟩
     · have d3:decide ((s[k].toNat:Int)<97)=false:=decide_eq_false (by omega)
       by_cases h122:122<s[k].toNat
       · have d4:decide ((122:Int)<(s[k].toNat:Int))=true:=decide_eq_true (by omega)
         have e:=hide (uh HA (by rw [uh HL,show decide (s[k].toNat≤122)=false from decide_eq_false (by omega)];simp))
         go_wp2
         go_ret
         exact ⟨by rw [uh e];rfl,uh hB⟩
       · have d4:decide ((122:Int)<(s[k].toNat:Int))=false:=decide_eq_false (by omega)
         have e:=hide (uh HN (by rw [uh HL,show decide (97≤s[k].toNat)=true from decide_eq_true (by omega),show decide (s[k].toNat≤122)=true from decide_eq_true (by omega)];rfl))
         go_wp2
         go_round
         case rel=>exact ⟨k+1,by omega,by go_num,uh e⟩
         case measure=>simp [intOf];omega
   · have hks:k=s.size:=by omega
     have hall:s.data.toList.all letter=true:=by
       have:=uh Ha
       rwa [hks,← uh Hlen,List.take_length] at this
     rw [hall] at Hr
     clear hall
     go_wp2
     go_ret
     exact ⟨by rw [uh Hr];rfl,uh hB⟩
end Go.Proofs.YtknjjjenklfeoaaGreatDoor
namespace Go.Proofs.YtknjjjenklfeoaaGreatDoor
open Go.RowKit
attribute [local go_sem ↓] loadVar_clus storeVar_clus zeroValue_clus buildSlice_clus loadVar_wr storeVar_wr zeroValue_wr
attribute [local go_sem] run_loadClus run_storeClus run_zeroClus run_storeClus_new run_loadClus_new zc_length run_bsClus run_loadWr run_zeroWr run_storeWr_new
def sliceLen:Value→Nat
 | .slice _ n _=>n
 | _=>0
def growTo (l:List Clus) (n:Nat):List Clus:=l++List.replicate (n - l.length) zc
def replayOne (l:List Clus) (x:WrR):List Clus:=if x.cl<0 then l else (growTo l (x.cl.toNat+1)).set x.cl.toNat x.data
def replay (l:List Clus) (log:List WrR):List Clus:=log.foldl replayOne l
end Go.Proofs.YtknjjjenklfeoaaGreatDoor
namespace Go.Proofs.YtknjjjenklfeoaaGreatDoor
open Go.RowKit
attribute [local go_sem ↓] loadVar_clus storeVar_clus zeroValue_clus equalIn_clus
attribute [local go_sem] run_loadClus run_storeClus run_zeroClus zc_length
structure TwoCl (w w':World) (z c:Clus):Prop where
 below:Below w.heap.size w w'
 one:w'.heap[w.heap.size]? = some (.cells (cv z).toArray 38 (0,0))
 two:w'.heap[w.heap.size+1]? = some (.cells (cv c).toArray 38 (0,0))
theorem TwoCl.start (w:World):TwoCl w ((w.alloc (.cells (cv zc).toArray 38)).alloc (.cells (cv zc).toArray 38)) zc zc:=by
 refine ⟨((Below.refl _ _).alloc (Nat.le_refl _) _).alloc (by simp) _,?_,?_⟩
 · rw [Below.heap_alloc _ _ _ (by simp)];exact heap_alloc_new _ _
 · have:=heap_alloc_new (w.alloc (.cells (cv zc).toArray 38)) (.cells (cv zc).toArray 38)
   simpa using this
theorem cv_set (c:Clus) (i:Nat) (b:UInt8):(cv c).set i (.int .u8 (b.toNat:Int))=cv (c.set i b):=by simp [cv,List.map_set]
theorem TwoCl.set {w w':World} {z c:Clus} (h:TwoCl w w' z c) (i:Nat) (b:UInt8):TwoCl w (w'.setCell ⟨w.heap.size+1,i,none⟩ (.int .u8 (b.toNat:Int))) z (c.set i b):=
 ⟨h.below.setCell (by simp) _,by rw [Below.heap_setCell _ _ _ _ (by simp)];exact h.one,by rw [heap_setCell_same _ _ _ _ _ _ _ h.two,List.setIfInBounds_toArray,cv_set]⟩
def clusTo (l:List UInt8) (k:Nat):Clus:=l.take k++List.replicate (64 - k) 0
def clusOf (l:List UInt8):Clus:=clusTo l (min l.length 64)
theorem clusTo_length (l:List UInt8) (k:Nat) (h:k≤l.length) (h2:k≤64):(clusTo l k).length=64:=by simp [clusTo];omega
theorem clusTo_succ (l:List UInt8) (k:Nat) (h:k<l.length) (h2:k<64):(clusTo l k).set k (l.getD k 0)=clusTo l (k+1):=by
 unfold clusTo
 rw [List.set_append_right _ _ (by simp;omega),List.length_take,show k - min k l.length=0 by omega,show 64 - k=(64 - (k+1))+1 by omega,List.replicate_succ,List.set_cons_zero,List.take_succ_eq_append_getElem h,List.append_assoc]
 rw [List.getD_eq_getElem?_getD,List.getElem?_eq_getElem h]
 rfl
theorem TwoCl.back {w w':World} {z c:Clus} (h:TwoCl w w' z c) (hz:z.length=64) (hc:c.length=64):
   w'.there w.heap.size 0 64∧HasAt w' (w.heap.size+1) 0 64∧cellsAt w' (w.heap.size+1) 0 64=cv c∧HasAt (w'.setCells w.heap.size 0 (cv c)) w.heap.size 0 64∧cellsAt (w'.setCells w.heap.size 0 (cv c)) w.heap.size 0 64=cv c∧Below w.heap.size w (w'.setCells w.heap.size 0 (cv c)):=by
 have hs:=box_store h.one hz hc
 exact ⟨there_blk h.one _ _ (by simp [cv_length,hz]),box_has h.two hc,box_cells h.two hc,box_has hs hc,box_cells hs hc,below_setCells h.below (Nat.le_refl _) _ _⟩
def markC (m:UInt8):Clus:=(zc.set 0 m).set 63 (m ^^^ 85)
end Go.Proofs.YtknjjjenklfeoaaGreatDoor
namespace Go.Proofs.YtknjjjenklfeoaaGreatDoor
open Go.RowKit
attribute [local go_sem ↓] loadVar_clus storeVar_clus zeroValue_clus loadVar_tab storeVar_tab zeroValue_tab loadVar_cnt storeVar_cnt zeroValue_cnt loadVar_head storeVar_head zeroValue_head build_head
attribute [local go_sem] run_loadClus run_storeClus run_zeroClus run_storeClus_new run_loadClus_new zc_length run_loadTab run_storeTab run_zeroTab run_storeTab_new run_loadTab_new zt_length run_loadCnt run_storeCnt run_zeroCnt run_storeCnt_new run_loadCnt_new zk_length run_loadHead run_storeHead run_zeroHead run_storeHead_new run_bHead
theorem or_hi (a b:Nat) (ha:a<256) (hb:b<256):bits .or .u16 ((a:Int)*256) (b:Int)=((256*a+b:Nat):Int):=by
 rw [bits_join .u16 16 (by decide) wraps_u16 8 ((a:Int)*256) (b:Int) (by omega) (by omega) (by omega) (by omega) (by omega) (by omega)]
 omega
theorem or_mark (n:Nat) (hn:n<32768):bits .or .u16 (n:Int) 32768=((n+32768:Nat):Int):=by
 rw [bits_join_low .u16 16 (by decide) wraps_u16 15 (n:Int) 32768 (by omega) (by omega) (by omega) (by omega) (by omega) (by omega)]
 omega
theorem andNot_mark (n:Nat) (hn:n<65536):bits .andNot .u16 (n:Int) 32768=((n%32768:Nat):Int):=by
 have h:bits .andNot .u16 (n:Int) 32768=bits .and .u16 (n:Int) 32767:=by
   simp only [bits]
   rw [show ~~~(BitVec.ofInt IntKind.u16.bits 32768)=BitVec.ofInt IntKind.u16.bits 32767 from by decide]
 rw [h,show (32767:Int)=2 ^ 15 - 1 by decide,bits_mask .u16 16 (by decide) wraps_u16 15 (by decide) (n:Int) (by omega) (by omega)]
 omega
theorem and_mark (n:Nat) (hn:n<65536):bits .and .u16 (n:Int) 32768=if 32768≤n then 32768 else 0:=by
 have h:=(bits_nat .u16 16 (by decide) wraps_u16 n 32768 hn (by decide)).1
 rw [show ((32768:Nat):Int)=32768 from rfl] at h
 rw [h]
 have key:n &&& 2 ^ 15=if 32768≤n then 2 ^ 15 else 0:=by
   refine Nat.eq_of_testBit_eq fun i=> ?_
   rw [Nat.testBit_and,Nat.testBit_two_pow]
   by_cases hi:15=i
   · subst hi
     rw [decide_eq_true rfl,Bool.and_true,Nat.testBit_eq_decide_div_mod_eq]
     split
     · rw [show n / 2 ^ 15=1 by omega];decide
     · rw [show n / 2 ^ 15=0 by omega];decide
   · rw [decide_eq_false hi,Bool.and_false]
     split
     · rw [Nat.testBit_two_pow,decide_eq_false hi]
     · simp
 rw [show (32768:Nat)=2 ^ 15 from rfl,key]
 split <;> rfl
theorem numberAt_any (c:List UInt8) (at':Int) (w:World) (hc:c.length=64) (h0:0≤at') (h1:at'<63):
   Calls Tryz.prog 149 #[.agg (cv c).toArray,.int .i64 at'] w fun e w'=>e= .returned (.int .u16 (num c at'.toNat:Nat))∧Below w.heap.size w w':=by
 obtain ⟨n,rfl⟩:=Int.eq_ofNat_of_zero_le h0
 have b1:=byteAt_lt c n
 have b2:=byteAt_lt c (n+1)
 have k1:(w.alloc (.cells (cv c).toArray 38)).cell? ⟨w.heap.size,n,none⟩=some (.int .u8 (byteAt c n:Nat)):=by
   rw [cell_new,List.getElem?_toArray,cv_get];omega
 have k2:(w.alloc (.cells (cv c).toArray 38)).cell? ⟨w.heap.size,n+1,none⟩=some (.int .u8 (byteAt c (n+1):Nat)):=by
   rw [cell_new,List.getElem?_toArray,cv_get];omega
 go_enter Tryz.func149,Tryz.ntmps149
 go_wp2
 go_quiet (fail)
 go_wp2
 go_ret
 refine ⟨?_,?_⟩
 · exact ret_int (or_hi _ _ b1 b2)
 · exact (((Kept.refl (fun _=>False) w).alloc _).drewN _).below
theorem marked_of (n:Nat) (hn:n<65536) (w:World):Calls Tryz.prog 105 #[.int .u16 (n:Nat)] w fun e w'=>e= .returned (.bool (decide (32768≤n)))∧w'=w:=by
 go_enter Tryz.func105,Tryz.ntmps105
 go_wp2
 go_ret
 refine ⟨?_,rfl⟩
 rw [show bits BinOp.and IntKind.u16 (n:Int) 32768=_ from and_mark n hn]
 by_cases h:32768≤n
 · rw [if_pos h,decide_eq_true h];rfl
 · rw [if_neg h,decide_eq_false h];rfl
theorem cluster_of (n:Nat) (hn:n<65536) (w:World):Calls Tryz.prog 108 #[.int .u16 (n:Nat)] w fun e w'=>e= .returned (.int .i64 ((n%32768:Nat):Int))∧w'=w:=by
 go_enter Tryz.func108,Tryz.ntmps108
 go_wp2
 go_ret
 refine ⟨?_,rfl⟩
 rw [show bits BinOp.andNot IntKind.u16 (n:Int) 32768=_ from andNot_mark n hn]
 exact ret_int (IntWalk.wrap64_in _ (by omega))
theorem own_of (n:Nat) (hn:n<32768) (w:World):Calls Tryz.prog 161 #[.int .i64 (n:Nat)] w fun e w'=>e= .returned (.int .u16 ((n+32768:Nat):Int))∧w'=w:=by
 go_enter Tryz.func161,Tryz.ntmps161
 go_wp2
 go_ret
 refine ⟨?_,rfl⟩
 exact ret_int (or_mark n hn)
def putNum (c:Clus) (k n:Nat):Clus:=(c.set k (UInt8.ofNat (n / 256))).set (k+1) (UInt8.ofNat (n%256))
theorem putNum_length (c:Clus) (k n:Nat):(putNum c k n).length=c.length:=by simp [putNum]
theorem cv_setB (c:Clus) (k:Nat) (b:Nat) (hb:b<256):cv (c.set k (UInt8.ofNat b))=(cv c).set k (.int .u8 (b:Nat)):=by
 rw [cv,List.map_set]
 congr 2
 have:(UInt8.ofNat b).toNat=b:=by rw [UInt8.toNat_ofNat'];omega
 rw [this]
theorem putNumber_any (w:World) (b:Nat) (c:Clus) (t:TypeId) (hb:w.heap[b]? = some (.cells (cv c).toArray t (0,0))) (hc:c.length=64) (k n:Nat) (hk:k<63) (hn:n<65536):
   Calls Tryz.prog 169 #[.pointer (some ⟨b,0,none⟩),.int .i64 (k:Nat),.int .u16 (n:Nat)] w fun e w'=>e= .returned (.tuple #[])∧w'.heap[b]? = some (.cells (cv (putNum c k n)).toArray t (0,0))∧Kept (fun x=>x=b) w w':=by
 have f1:=frozen_blk hb k
 have f2:=frozen_blk hb (k+1)
 have c1:w.cell? ⟨b,k,none⟩=some (.int .u8 (byteAt c k:Nat)):=by rw [cell_blk hb,List.getElem?_toArray,cv_get _ _ (by omega)]
 have c2:w.cell? ⟨b,k+1,none⟩=some (.int .u8 (byteAt c (k+1):Nat)):=by rw [cell_blk hb,List.getElem?_toArray,cv_get _ _ (by omega)]
 have hki:(k:Int)<63:=by omega
 have e1:((w.setCell ⟨b,k,none⟩ (.int .u8 ((n / 256:Nat):Int))).setCell ⟨b,k+1,none⟩ (.int .u8 ((n%256:Nat):Int))).heap[b]? = some (.cells (cv (putNum c k n)).toArray t (0,0)):=by
   rw [heap_setCell_same _ _ _ _ _ _ _ (heap_setCell_same _ _ _ _ _ _ _ hb),putNum,cv_setB _ _ _ (by omega),cv_setB _ _ _ (by omega)]
   simp
 have k1:=(Kept.only w b k (.int .u8 ((n / 256:Nat):Int))).trans (Kept.only _ b (k+1) (.int .u8 ((n%256:Nat):Int)))
 rw [Int.natCast_ediv,Int.natCast_emod] at e1 k1
 have E1:=hide e1
 have K1:=hide k1
 clear e1 k1
 go_enter Tryz.func169,Tryz.ntmps169
 go_wp2
 go_region
 go_end0
 exact ⟨rfl,uh E1,(uh K1).drew⟩
def numsOf (c:Clus):List Nat:=(List.range 32).map fun i=>num c (2*i)
theorem numsOf_length (c:Clus):(numsOf c).length=32:=by simp [numsOf]
theorem numsOf_get (c:Clus) (i:Nat) (hi:i<32):(numsOf c).getD i 0=num c (2*i):=by simp [numsOf,List.getD,hi]
def numsTo (c:Clus) (k:Nat):List Nat:=(List.range 32).map fun i=>if i<k then num c (2*i) else 0
theorem numsTo_zero (c:Clus):numsTo c 0=zt:=by
 unfold numsTo zt
 refine List.eq_replicate_iff.2 ⟨by simp,fun b hb=> ?_⟩
 obtain ⟨i,_,rfl⟩:=List.mem_map.1 hb
 rw [if_neg (by omega)]
theorem numsTo_all (c:Clus):numsTo c 32=numsOf c:=by
 unfold numsTo numsOf
 refine List.map_congr_left fun i hi=> ?_
 rw [if_pos (List.mem_range.1 hi)]
theorem numsTo_length (c:Clus) (k:Nat):(numsTo c k).length=32:=by simp [numsTo]
theorem numsTo_succ (c:Clus) (k:Nat) (hk:k<32):numsTo c (k+1)=(numsTo c k).set k (num c (2*k)):=by
 refine List.ext_getElem? fun i=> ?_
 rw [List.getElem?_set]
 simp only [numsTo,List.getElem?_map,List.length_map,List.length_range]
 by_cases hi:i<32
 · rw [List.getElem?_range hi]
   by_cases e:k=i
   · subst e;simp [hk]
   · simp only [Option.map_some,if_neg e]
     congr 1
     by_cases h:i<k
     · rw [if_pos h,if_pos (by omega)]
     · rw [if_neg h,if_neg (by omega)]
 · rw [List.getElem?_eq_none (by simp;omega)]
   split
   · omega
   · rfl
theorem tv_set (T:List Nat) (k n:Nat):tv (T.set k n)=(tv T).set k (.int .u16 (n:Nat)):=by simp [tv,List.map_set]
theorem tableOf_any (w:World) (c:Clus) (hc:c.length=64):
   Calls Tryz.prog 178 #[.agg (cv c).toArray] w fun e w'=>e= .returned (.agg (tv (numsOf c)).toArray)∧Below w.heap.size w w':=by
 have L0:=hide (Locs.three w (.cells (cv c).toArray 38) (.cells (tv zt).toArray 169) (.cells (tv zt).toArray 169))
 go_enter Tryz.func178,Tryz.ntmps178
 go_wp2
 go_loopw [4,5] (fun _ i w'=> ∃ k:Nat,k≤32∧i= .int .i64 k∧Locs w w' [.cells (cv c).toArray 38,.cells (tv zt).toArray 169,.cells (tv (numsTo c k)).toArray 169]) (fun _ i _=>32 - (intOf i).toNat)
 case atStart=>exact ⟨0,by omega,rfl,by rw [numsTo_zero];exact uh L0⟩
 case round=>
   obtain ⟨k,hk,rfl,hL⟩:=hrel
   clear L0
   by_cases hlt:k<32
   · have hki:(k:Int)<32:=by omega
     have b0:=hL.o0
     have l1:=box_has b0 hc
     have l2:=box_cells b0 hc
     have Hn:=hide (numberAt_any c (2*(k:Int)) wr hc (by omega) (by omega))
     have HL:=hide hL
     have Hs:=hide (numsTo_succ c k hlt)
     clear hL b0
     go_wp2_with fail
     refine (uh Hn).mono ?_
     rintro e w1 ⟨rfl,hb1⟩
     have hL1:=(uh HL).later hb1
     have b2:=hL1.o2
     have f1:=frozen_blk b2 k
     have c1:w1.cell? ⟨w.heap.size+1+1,k,none⟩=some (.int .u16 (((numsTo c k).getD k 0:Nat):Int)):=by
       rw [cell_blk b2,List.getElem?_toArray,tv_get _ _ (by rw [numsTo_length];exact hlt)]
     have L1:=hide (hL1.setCell 2 rfl k (.int .u16 (num c (2*k):Nat)))
     rw [show (2*(k:Int)).toNat=2*k by omega]
     clear hL1 b2 hb1 HL Hn l1 l2
     go_wp2
     go_roundw
     case rel=>
       refine ⟨k+1,by omega,by go_num,?_⟩
       rw [uh Hs,tv_set]
       simpa using uh L1
     case measure=>simp [intOf];omega
   · have hk32:k=32:=by omega
     subst hk32
     rw [numsTo_all] at hL
     have b1:=hL.o1
     have b2:=hL.o2
     have l1:=blk_has b2 (n:=32) (by rw [tv_length,numsOf_length])
     have l2:=blk_cells b2 (n:=32) (by rw [tv_length,numsOf_length])
     have th:=there_blk b1 0 32 (by simp [tv_length,zt_length])
     have hnl:=numsOf_length c
     have hset:=hL.setCells 1 rfl 0 (tv (numsOf c))
     rw [setList_all _ _ (by simp [tv_length,zt_length,numsOf_length])] at hset
     have o1:=hset.o1
     have l3:=blk_has o1 (n:=32) (by rw [tv_length,numsOf_length])
     have l4:=blk_cells o1 (n:=32) (by rw [tv_length,numsOf_length])
     have HB:=hide hset.below
     clear hL b1 b2 hset o1
     go_wp2
     refine bodyPost_ret (results_cell Tryz.results178 ⟨w.heap.size+1,0,none⟩ rfl ?_) rfl ⟨rfl,uh HB⟩
     rw [loadVar_tab,run_loadTab l3,l4]
end Go.Proofs.YtknjjjenklfeoaaGreatDoor
namespace Go.Proofs.YtknjjjenklfeoaaGreatDoor
open Go.RowKit
attribute [local go_sem ↓] loadVar_clus storeVar_clus zeroValue_clus loadVar_tab storeVar_tab zeroValue_tab loadVar_cnt storeVar_cnt zeroValue_cnt loadVar_head storeVar_head zeroValue_head build_head
attribute [local go_sem] run_loadClus run_storeClus run_zeroClus run_storeClus_new run_loadClus_new zc_length run_loadTab run_storeTab run_zeroTab run_storeTab_new run_loadTab_new zt_length run_loadCnt run_storeCnt run_zeroCnt run_storeCnt_new run_loadCnt_new zk_length run_loadHead run_storeHead run_zeroHead run_storeHead_new run_bHead HasAt_drew cellsAt_drew HasAt_drewN cellsAt_drewN
def bytesTo (T:List Nat):Nat→Clus
 | 0=>zc
 | k+1=>putNum (bytesTo T k) (2*k) (T.getD k 0)
def bytesOf (T:List Nat):Clus:=bytesTo T 32
theorem bytesTo_length (T:List Nat) (k:Nat):(bytesTo T k).length=64:=by
 induction k with
 | zero=>exact zc_length
 | succ k ih=>rw [bytesTo,putNum_length,ih]
theorem bytesOf_length (T:List Nat):(bytesOf T).length=64:=bytesTo_length T 32
theorem part_num (T:List Nat) (i:Nat) (hi:i<T.length) (w:World):(part 167 (tv T).toArray (i*1)).run Tryz.prog w= .ok (.int .u16 ((T.getD i 0:Nat):Int)) w:=by
 have ha:(isAgg 167).run Tryz.prog w= .ok false w:=by unfold isAgg;rw [Sem.run_bind,run_underlying Tryz.underlying167 w];rfl
 unfold part
 rw [Sem.run_bind,ha]
 simp only [Result.andThen_ok,Bool.false_eq_true,if_false,Nat.mul_one]
 rw [List.getElem?_toArray,tv_get T i hi]
 rfl
theorem run_sizeOf {P:Program} {e:TypeId} {sz:Nat} (hs:(P.info? e).map (·.size)=some sz) (w:World):(Go.sizeOf e).run P w= .ok sz w:=by
 obtain ⟨i,hi,rfl⟩:=Option.map_eq_some_iff.1 hs
 simp [Go.sizeOf,typeInfo,hi,go_sem]
theorem Tryz.sizeByte:(Tryz.prog.info? 5).map (·.size)=some 1:=by kernel_rfl
theorem run_index_arr {P:Program} (w:World) (t e:TypeId) (n sz:Nat) (hu:P.underlying t=some (.array n e)) (hs:(P.info? e).map (·.size)=some sz) (cs:Array Value) (k:Nat) (hk:k<n) (v:Value) (hp:(part e cs (k*sz)).run P w= .ok v w):
   (Instr.index t (.agg cs) (.int .i64 (k:Int))).run P w= .ok v w:=by
 have hsz:=run_sizeOf hs w
 unfold Instr.index
 simp only [asIntOf,Sem.run_bind,Sem.run_pure,Result.andThen_ok,run_underlying hu w]
 rw [if_pos (by omega),Sem.run_bind,hsz]
 simpa using hp
theorem run_index_tab (w:World) (T:List Nat) (hT:T.length=32) (k:Nat) (hk:k<32):(Instr.index 169 (.agg (tv T).toArray) (.int .i64 (k:Int))).run Tryz.prog w= .ok (.int .u16 ((T.getD k 0:Nat):Int)) w:=
 run_index_arr w _ _ 32 1 Tryz.underlying169 (by kernel_rfl) _ k hk _ (part_num T k (by omega) w)
theorem run_index_cnt (w:World) (c:List UInt8) (hc:c.length=256) (k:Nat) (hk:k<256):(Instr.index 123 (.agg (cv c).toArray) (.int .i64 (k:Int))).run Tryz.prog w= .ok (.int .u8 (byteAt c k:Nat)) w:=
 run_index_arr w _ _ 256 1 Tryz.underlying123 (by kernel_rfl) _ k hk _ (part_byte c k (by omega) w)
theorem tableCluster_any (w:World) (T:List Nat) (hT:T.length=32) (hs: ∀ i,T.getD i 0<65536):
   Calls Tryz.prog 163 #[.agg (tv T).toArray] w fun e w'=>e= .returned (.agg (cv (bytesOf T)).toArray)∧Below w.heap.size w w':=by
 have L0:=hide (Locs.three w (.cells (tv T).toArray 169) (.cells (cv zc).toArray 38) (.cells (cv zc).toArray 38))
 have l1:=blk_has (uh L0).o0 (n:=32) (by rw [tv_length,hT])
 have l2:=blk_cells (uh L0).o0 (n:=32) (by rw [tv_length,hT])
 go_enter Tryz.func163,Tryz.ntmps163
 go_wp2
 clear l1 l2
 go_loopw [4,5,7] (fun _ _ i w'=> ∃ k:Nat,k≤32∧i= .int .i64 k∧Locs w w' [.cells (tv T).toArray 169,.cells (cv zc).toArray 38,.cells (cv (bytesTo T k)).toArray 38]) (fun _ _ i _=>32 - (intOf i).toNat)
 case atStart=>exact ⟨0,by omega,rfl,uh L0⟩
 case round=>
   obtain ⟨k,hk,rfl,hL⟩:=hrel
   clear L0
   by_cases hlt:k<32
   · have hki:(k:Int)<32:=by omega
     have Hn:=hide (putNumber_any wr _ _ _ hL.o2 (bytesTo_length T k) (2*k) (T.getD k 0) (by omega) (hs k))
     have HL:=hide hL
     clear hL
     have hix:=run_index_tab wr T hT k hlt
     rw [show ((2*k:Nat):Int)=2*(k:Int) by omega] at Hn
     generalize hnn:T.getD k 0=n at*
     go_wp2_with fail
     refine (uh Hn).mono ?_
     rintro e w1 ⟨rfl,hb1,hk1⟩
     have L1:=hide ((uh HL).put 2 _ hk1 hb1)
     clear Hn HL hix hb1 hk1
     go_wp2
     go_roundw
     case rel=>
       refine ⟨k+1,by omega,by go_num,?_⟩
       have:=uh L1
       rw [bytesTo,hnn]
       exact this
     case measure=>simp [intOf];omega
   · have hk32:k=32:=by omega
     subst hk32
     have b1:=hL.o1
     have b2:=hL.o2
     have hbl:=bytesTo_length T 32
     have l1:=box_has b2 hbl
     have l2:=box_cells b2 hbl
     have th:=there_blk b1 0 64 (by simp [cv_length,zc_length])
     have hset:=hL.setCells 1 rfl 0 (cv (bytesTo T 32))
     rw [setList_all _ _ (by simp [cv_length,zc_length,hbl])] at hset
     have o1:=hset.o1
     have l3:=box_has o1 hbl
     have l4:=box_cells o1 hbl
     have HB:=hide hset.below
     clear hL b1 b2 hset o1
     go_wp2
     refine bodyPost_ret (results_cell Tryz.results163 ⟨w.heap.size+1,0,none⟩ rfl ?_) rfl ⟨rfl,uh HB⟩
     rw [loadVar_clus,run_loadClus l3,l4];rfl
theorem headOf_any (w:World) (c:Clus) (hc:c.length=64):
   Calls Tryz.prog 92 #[.agg (cv c).toArray] w fun e w'=>e= .returned (.agg (hv (num c 4) (num c 6)).toArray)∧Below w.heap.size w w':=by
 have L0:=hide (Locs.two w (.cells (cv c).toArray 38) (.cells (hv 0 0).toArray 128))
 have l1:=box_has (uh L0).drew.o0 hc
 have l2:=box_cells (uh L0).drew.o0 hc
 have Hn:Hid (∀ W k,k=4∨k=6→Calls Tryz.prog 149 #[.agg (cv c).toArray,.int .i64 k] W fun e w'=>e= .returned (.int .u16 (num c k.toNat:Nat))∧Below W.heap.size W w'):=fun W k hk=>numberAt_any c k W hc (by omega) (by omega)
 have n4:=num_lt c 4
 have n6:=num_lt c 6
 have e4:IntKind.i64.wrap ((num c 4:Nat):Int)=(num c 4:Nat):=IntWalk.i64_in _ (by omega)
 have e6:IntKind.i64.wrap ((num c 6:Nat):Int)=(num c 6:Nat):=IntWalk.i64_in _ (by omega)
 go_enter Tryz.func92,Tryz.ntmps92
 go_wp2
 go_region_law (go_simp
                go_at_call 149
                refine (uh Hn _ _ (by omega)).mono ?_
                rintro e w1 ⟨rfl,hb1⟩
                have L1:=hide (Locs.later (by first | exact uh L1 | exact (uh L1).drew | exact uh L0 | exact (uh L0).drew) hb1)
                have m1:=box_has (uh L1).o0 hc
                have m2:=box_cells (uh L1).o0 hc
                have th:=there_blk (uh L1).o1 0 2 (by simp [hv_length]))
 all_goals
   have hset:=(uh L1).setCells 1 rfl 0 (hv (num c 4) (num c 6))
   rw [setList_all _ _ (by simp [hv_length])] at hset
   have l3:=blk_has hset.o1 (n:=2) (hv_length _ _)
   have l4:=blk_cells hset.o1 (n:=2) (hv_length _ _)
   have HB:=hide hset.below
   clear hset L0 Hn hb1 m1 m2 l1 l2 th
   go_wp2
   refine bodyPost_ret (results_cell Tryz.results92 ⟨w.heap.size+1,0,none⟩ rfl ?_) rfl ⟨rfl,uh HB⟩
   rw [loadVar_head,run_loadHead l3,l4]
end Go.Proofs.YtknjjjenklfeoaaGreatDoor
