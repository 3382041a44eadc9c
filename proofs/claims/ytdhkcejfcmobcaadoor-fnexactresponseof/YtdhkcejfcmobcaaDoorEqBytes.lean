import Derived.Test.YtdhkcejfcmobcaaDoorMem
namespace Go.Proofs.YtdhkcejfcmobcaaDoor
open Go.RowKit
set_option linter.unusedVariables false

end Go.Proofs.YtdhkcejfcmobcaaDoor
