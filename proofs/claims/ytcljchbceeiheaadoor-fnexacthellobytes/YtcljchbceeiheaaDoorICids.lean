import Derived.Test.YtcljchbceeiheaaDoorPartsB
namespace Go.Proofs.YtcljchbceeiheaaDoor
open Go.RowKit
set_option linter.unusedVariables false

end Go.Proofs.YtcljchbceeiheaaDoor
