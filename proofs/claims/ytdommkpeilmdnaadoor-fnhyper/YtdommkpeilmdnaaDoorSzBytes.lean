import Derived.Test.YtdommkpeilmdnaaDoorMem
namespace Go.Proofs.YtdommkpeilmdnaaDoor
open Go.RowKit
set_option linter.unusedVariables false

end Go.Proofs.YtdommkpeilmdnaaDoor
