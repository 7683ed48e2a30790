import Derived.Test.YtknjjjenklfeoaaGreatDoorP07
/-
  The book takes a log's list: ownsLog.
-/
namespace Go.Proofs.YtknjjjenklfeoaaGreatDoor
open Go.RowKit
attribute [local go_sem ↓] loadVar_wr storeVar_wr zeroValue_wr build_wr buildSlice_wr
attribute [local go_sem] run_loadWr run_storeWr run_zeroWr run_storeWr_new run_bWr0 run_bsWr zc_length
end Go.Proofs.YtknjjjenklfeoaaGreatDoor
