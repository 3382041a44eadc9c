import Derived.Test.YtcoakpmfappnlaaMem
namespace Go.Proofs.Ytcoakpmfappnlaa
open Go.RowKit
set_option linter.unusedVariables false

end Go.Proofs.Ytcoakpmfappnlaa
