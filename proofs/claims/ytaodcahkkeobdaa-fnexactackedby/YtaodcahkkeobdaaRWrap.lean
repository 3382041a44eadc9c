import Derived.Test.YtaodcahkkeobdaaRngOK
import Derived.Test.YtaodcahkkeobdaaRScal
namespace Go.Proofs.Ytaodcahkkeobdaa
open Go.RowKit
set_option linter.unusedVariables false

end Go.Proofs.Ytaodcahkkeobdaa
