import Derived.Test.YtknjjjenklfeoaaGreatDoorT32
set_option maxHeartbeats 8000000
set_option maxRecDepth 100000
namespace Go.Proofs.YtknjjjenklfeoaaGreatDoor
open Go.RowKit
attribute [local go_sem ↓] loadVar_clus storeVar_clus zeroValue_clus loadVar_op equalIn_clus
attribute [local go_sem] run_loadClus run_storeClus run_zeroClus run_storeClus_new run_loadClus_new zc_length run_loadOp HasAt_drew cellsAt_drew
theorem read_same {base:List Clus} {V:VolR} {N0:Nat} {E:List EntR} (h:Vol base V N0 E) (n:Int):readR (dskOf V.C N0 E) n=blkRead V.C (num (cl V.C 0) 6) n:=by
 rw [h.read n]
 unfold readR
 rfl
end Go.Proofs.YtknjjjenklfeoaaGreatDoor
