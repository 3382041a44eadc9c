import Derived.Test.YtcakofjifhjmkaaDoorSzBytes
import Derived.Test.YtcakofjifhjmkaaDoorKeys
namespace Go.Proofs.YtcakofjifhjmkaaDoor
open Go.RowKit
set_option linter.unusedVariables false

end Go.Proofs.YtcakofjifhjmkaaDoor
