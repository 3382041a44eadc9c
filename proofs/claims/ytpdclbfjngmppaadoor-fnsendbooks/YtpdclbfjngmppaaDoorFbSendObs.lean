import Derived.Test.YtpdclbfjngmppaaDoorFbSendObsB
import Derived.Test.YtpdclbfjngmppaaDoorFlatB
import Derived.Test.YtpdclbfjngmppaaDoorToBytes
import Derived.Test.YtpdclbfjngmppaaDoorEqBytes
import Derived.Laws.Rows
namespace Go.Proofs.YtpdclbfjngmppaaDoor
open Go.RowKit
set_option linter.unusedVariables false

theorem infoSendObsSize : (Tryd.prog.info? 30).map (·.size) = some 7 := by kernel_rfl
end Go.Proofs.YtpdclbfjngmppaaDoor
