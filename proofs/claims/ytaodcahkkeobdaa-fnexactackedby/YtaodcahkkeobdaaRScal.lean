import Derived.Test.YtaodcahkkeobdaaRng
namespace Go.Proofs.Ytaodcahkkeobdaa
open Go.RowKit
set_option linter.unusedVariables false

end Go.Proofs.Ytaodcahkkeobdaa
