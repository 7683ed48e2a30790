import Derived.Test.YtknjjjenklfeoaaGreatDoorT01
import Derived.Test.YtknjjjenklfeoaaGreatDoorT00
import Derived.Deep.RegionLaw
set_option maxHeartbeats 8000000
set_option maxRecDepth 100000
namespace Go.Proofs.YtknjjjenklfeoaaGreatDoor
open Go.RowKit
attribute [local go_sem ↓] loadVar_clus storeVar_clus zeroValue_clus buildSlice_clus
attribute [local go_sem] run_loadClus run_storeClus run_zeroClus run_storeClus_new run_loadClus_new zc_length run_bsClus
def velm:List UInt8:=[86,69,76,77]
def restZero (c:Clus):Nat→Nat→Bool
 | 0,_=>true
 | m+1,i=>if byteAt c i=0 then restZero c m (i+1) else false
def headGood (L:List Clus):Bool:=decide (6≤L.length) && (decide (L.length≤256) && (decide ((cl L 0).take 4=velm) && (decide (7≤num (cl L 0) 4) && (decide (num (cl L 0) 4≤256) && (decide (L.length≤num (cl L 0) 4) && restZero (cl L 0) 56 8)))))
def padTo (L:List Clus) (n:Nat):List Clus:=(List.range n).map fun i=>if i<L.length then cl L i else zc
structure FRow (w:World) (v:Value) (L:List Clus):Prop where
 row:w.ownsRow 0 38 64 v L.length (flatC L)
 lens: ∀ c ∈ L,c.length=64
theorem grown_blk {w w':World} {row:Option Nat} (hg:w.grownBy w' row) {g:Nat} {o:Obj} (hb:w.heap[g]? = some o) (hne: ∀ k,row=some k→k≠g):w'.heap[g]? = some o:=by
 rw [hg.block g (blk_lt hb) (fun e=>hne g e.symm rfl)];exact hb
theorem padTo_length (L:List Clus) (n:Nat):(padTo L n).length=n:=by simp [padTo]
theorem padTo_lens {L:List Clus} (hl: ∀ c ∈ L,c.length=64) (n:Nat): ∀ c ∈ padTo L n,c.length=64:=by
 intro c hc
 simp only [padTo,List.mem_map] at hc
 obtain ⟨i,_,rfl⟩:=hc
 split
 · exact cl_length hl ‹_›
 · exact zc_length
theorem FRow.kept {w w':World} {S:Nat→Prop} {v:Value} {L:List Clus} (h:FRow w v L) (hk:Kept S w w') (hs: ∀ g,v.ownBlock=some g→ ¬ S g):FRow w' v L:=⟨ownsRow_kept hk h.row hs,h.lens⟩
theorem Tryz.infoClus:(Tryz.prog.info? 38).map (fun i=>(i.zero,i.size,i.bytes))=some (some (.agg (cv zc).toArray),64,64):=by kernel_rfl
theorem flatC_snoc (L:List Clus) (c:Clus):flatC (L++[c])=flatC L++cv c:=by simp [flatC]
def txt (c:List UInt8):ByteArray:=⟨c.toArray⟩
end Go.Proofs.YtknjjjenklfeoaaGreatDoor
