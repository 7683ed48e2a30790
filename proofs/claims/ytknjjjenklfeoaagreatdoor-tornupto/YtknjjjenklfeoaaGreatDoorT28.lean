import Derived.Test.YtknjjjenklfeoaaGreatDoorT27
import Derived.Test.YtknjjjenklfeoaaGreatDoorT21
set_option maxHeartbeats 8000000
set_option maxRecDepth 100000
namespace Go.Proofs.YtknjjjenklfeoaaGreatDoor
open Go.RowKit
attribute [local go_sem ↓] loadVar_clus loadVar_wr build_wr
attribute [local go_sem] run_loadClus run_loadWr run_bWr0 zc_length
end Go.Proofs.YtknjjjenklfeoaaGreatDoor
