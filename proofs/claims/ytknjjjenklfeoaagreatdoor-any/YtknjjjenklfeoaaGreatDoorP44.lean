import Derived.Test.YtknjjjenklfeoaaGreatDoorP43
/-
  vellumlaw's asks: Read.
-/
namespace Go.Proofs.YtknjjjenklfeoaaGreatDoor
open Go.RowKit
attribute [local go_sem ↓] loadVar_clus storeVar_clus zeroValue_clus loadVar_op equalIn_clus
attribute [local go_sem] run_loadClus run_storeClus run_zeroClus run_storeClus_new run_loadClus_new zc_length run_loadOp HasAt_drew cellsAt_drew
end Go.Proofs.YtknjjjenklfeoaaGreatDoor
