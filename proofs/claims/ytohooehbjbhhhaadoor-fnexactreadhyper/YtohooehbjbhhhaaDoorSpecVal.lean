import Derived.Test.YtohooehbjbhhhaaDoorVals
namespace Go.Proofs.YtohooehbjbhhhaaDoor
open Go.RowKit
set_option linter.unusedVariables false

end Go.Proofs.YtohooehbjbhhhaaDoor
