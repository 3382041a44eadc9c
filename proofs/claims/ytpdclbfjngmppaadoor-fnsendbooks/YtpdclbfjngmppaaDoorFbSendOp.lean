import Derived.Test.YtpdclbfjngmppaaDoorFbSendOpB
import Derived.Test.YtpdclbfjngmppaaDoorFlatB
import Derived.Test.YtpdclbfjngmppaaDoorToBytes
import Derived.Test.YtpdclbfjngmppaaDoorEqBytes
import Derived.Laws.Rows
namespace Go.Proofs.YtpdclbfjngmppaaDoor
open Go.RowKit
set_option linter.unusedVariables false

theorem infoSendOpSize : (Tryd.prog.info? 32).map (·.size) = some 5 := by kernel_rfl
end Go.Proofs.YtpdclbfjngmppaaDoor
