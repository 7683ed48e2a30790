import Derived.Test.YtknjjjenklfeoaaGreatDoorT04
set_option maxHeartbeats 8000000
set_option maxRecDepth 100000
namespace Go.Proofs.YtknjjjenklfeoaaGreatDoor
open Go.RowKit
attribute [local go_sem ↓] loadVar_wr storeVar_wr zeroValue_wr build_wr buildSlice_wr
attribute [local go_sem] run_loadWr run_storeWr run_zeroWr run_storeWr_new run_bWr0 run_bsWr zc_length
end Go.Proofs.YtknjjjenklfeoaaGreatDoor
