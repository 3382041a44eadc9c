import Derived.Test.YtklppacfomfkaaaGpM
namespace Go.Proofs.Ytklppacfomfkaaa
open Go.RowKit
set_option linter.unusedVariables false

end Go.Proofs.Ytklppacfomfkaaa
