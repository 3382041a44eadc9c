import Derived.Test.YtpdclbfjngmppaaDoorMem
namespace Go.Proofs.YtpdclbfjngmppaaDoor
open Go.RowKit
set_option linter.unusedVariables false

end Go.Proofs.YtpdclbfjngmppaaDoor
