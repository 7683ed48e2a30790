import Derived.Test.YtknjjjenklfeoaaGreatDoorT26
import Derived.Test.YtknjjjenklfeoaaGreatDoorT04
import Derived.Test.YtknjjjenklfeoaaGreatDoorT24
import Derived.Test.YtknjjjenklfeoaaGreatDoorT07
import Derived.Test.YtknjjjenklfeoaaGreatDoorT08
import Derived.Test.YtknjjjenklfeoaaGreatDoorT21
set_option maxHeartbeats 8000000
set_option maxRecDepth 100000
namespace Go.Proofs.YtknjjjenklfeoaaGreatDoor
open Go.RowKit

end Go.Proofs.YtknjjjenklfeoaaGreatDoor
namespace Go.Proofs.YtknjjjenklfeoaaGreatDoor
open Go.RowKit
attribute [local go_sem ↓] loadVar_clus loadVar_wr equalIn_clus build_wr
attribute [local go_sem] run_loadClus run_loadWr run_bWr0 zc_length
end Go.Proofs.YtknjjjenklfeoaaGreatDoor
namespace Go.Proofs.YtknjjjenklfeoaaGreatDoor
open Go.RowKit
structure MarkR where
 log:Nat
 d:Nat
 Pv:Value
 D:DiskR
structure PairR where
 d:Nat
 v:Nat
 y:Nat
 Cv:Value
 Lv:Value
 Pv:Value
 Mv:Value
 bv:Value
 ex:Bool
 V:VolR
 D:DiskR
 B:List Clus
 ms:List MarkR
section
variable {w w':World} {p:Nat} {P:PairR} {S T:Nat→Prop}
theorem row_blk {w:World} {base:Nat} {e:TypeId} {size:Nat} {v:Value} {n:Nat} {xs:List Value} (hr:w.ownsRow base e size v n xs) {g:Nat} (hg:v.ownBlock=some g): ∃ cs fr,w.heap[g]? = some (.cells cs e fr):=by
 rcases hr.2 with ⟨rfl,_⟩ | ⟨g',cap,cur,rfl,_,hh,_⟩
 · cases hg
 · simp only [Value.ownBlock,Option.some.injEq] at hg
   subst hg
   exact ⟨_,_,hh⟩
end
def loadOp (a:Addr):Sem Value:=loadVar 80 a
theorem loadVar_op (a:Addr):loadVar 80 a=loadOp a:=rfl
theorem run_loadOp {w:World} {b o:Nat} (h:HasAt w b o 6):(loadOp ⟨b,o,none⟩).run Tryz.prog w= .ok (.agg (cellsAt w b o 6).toArray) w:=
 run_loadVar_has h 80 _ Tryz.underlying80 rfl (by kernel_rfl)
end Go.Proofs.YtknjjjenklfeoaaGreatDoor
