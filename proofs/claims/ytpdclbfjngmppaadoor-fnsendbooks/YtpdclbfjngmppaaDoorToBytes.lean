import Derived.Test.YtpdclbfjngmppaaDoorMem
namespace Go.Proofs.YtpdclbfjngmppaaDoor
open Go.RowKit
set_option linter.unusedVariables false

theorem infoByte : (Tryd.prog.info? 5).map (fun i => (i.zero, i.size, i.bytes)) = some (some (.int .u8 0), 1, 1) := by kernel_rfl

end Go.Proofs.YtpdclbfjngmppaaDoor
