import Derived.Test.YtknjjjenklfeoaaP34
import Derived.Test.YtknjjjenklfeoaaP33
/-
  vellumlaw's asks: ReadOf.
-/
namespace Go.Proofs.Ytknjjjenklfeoaa
open Go.RowKit
attribute [local go_sem ↓] loadVar_clus storeVar_clus zeroValue_clus equalIn_clus
attribute [local go_sem] run_loadClus run_storeClus run_zeroClus run_storeClus_new run_loadClus_new zc_length HasAt_drew cellsAt_drew
end Go.Proofs.Ytknjjjenklfeoaa
