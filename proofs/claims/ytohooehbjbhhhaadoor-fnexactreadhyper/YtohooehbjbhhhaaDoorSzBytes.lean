import Derived.Test.YtohooehbjbhhhaaDoorMem
namespace Go.Proofs.YtohooehbjbhhhaaDoor
open Go.RowKit
set_option linter.unusedVariables false

end Go.Proofs.YtohooehbjbhhhaaDoor
