import Derived.Test.YtcljchbceeiheaaDoorSzBytes
import Derived.Test.YtcljchbceeiheaaDoorKeys
namespace Go.Proofs.YtcljchbceeiheaaDoor
open Go.RowKit
set_option linter.unusedVariables false

end Go.Proofs.YtcljchbceeiheaaDoor
