import Derived.Test.YtknjjjenklfeoaaGreatDoorA28
import Derived.Test.YtknjjjenklfeoaaGreatDoorA22
set_option maxHeartbeats 8000000
set_option maxRecDepth 100000
namespace Go.Proofs.YtknjjjenklfeoaaGreatDoor
open Go.RowKit
attribute [local go_sem ↓] loadVar_clus loadVar_wr build_wr equalIn_wr
attribute [local go_sem] run_loadClus run_loadWr run_bWr0 zc_length
def bsMark (parts:Array (Nat × Value)):Sem Value:=Instr.buildSlice 105 1 parts
theorem buildSlice_mark (parts:Array (Nat × Value)):Instr.buildSlice 105 1 parts=bsMark parts:=rfl
theorem run_bsMark {w:World} {n:Int} {d:Nat}:(bsMark #[(0,.agg #[.int .i64 n,.pointer (some ⟨d,0,none⟩)])]).run Tryz.prog w= .ok (.slice (some ⟨w.heap.size,0,none⟩) 1 1) (w.alloc (.cells #[.int .i64 n,.pointer (some ⟨d,0,none⟩)] 109)):=
 run_buildSlice_one w 105 109 2 (.agg #[.int .i64 0,.pointer none]) (.agg #[.int .i64 n,.pointer (some ⟨d,0,none⟩)]) Tryz.underlying105 (by kernel_rfl) (by omega) (by omega) (by rfl)
attribute [local go_sem ↓] buildSlice_mark
attribute [local go_sem] run_bsMark
structure Stands (P:PairR) (N0:Nat) (E:List EntR):Prop where
 vol:Vol P.B P.V N0 E
 disk:dskOf P.V.C N0 E=P.D
 exact:P.ex=true→ExactS P.V.C (rsOf N0 E)
theorem EntsOK.dsk {L:List Clus} {N0:Nat} {E:List EntR} (h:EntsOK E):(dskOf L N0 E).L.length≤4:=by
 unfold dskOf
 simp only [List.length_map]
 exact h.len
theorem Stands.last {P:PairR} {N0:Nat} {E:List EntR} (h:Stands P N0 E):P.V.L=[]∨(0<P.V.L.length∧wrAt P.V.L (P.V.L.length - 1)=flushW):=by
 rcases h.vol.log.tail h.vol.firm with e | ⟨l,e⟩
 · exact Or.inl e
 · right
   refine ⟨by rw [e];simp,?_⟩
   unfold wrAt
   rw [e,List.getD_eq_getElem?_getD,List.length_append,List.length_singleton,Nat.add_sub_cancel,List.getElem?_append_right (Nat.le_refl _),Nat.sub_self]
   rfl
end Go.Proofs.YtknjjjenklfeoaaGreatDoor
