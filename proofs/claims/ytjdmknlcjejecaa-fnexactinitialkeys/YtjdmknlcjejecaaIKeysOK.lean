import Derived.Test.YtjdmknlcjejecaaKeysOK
namespace Go.Proofs.Ytjdmknlcjejecaa
open Go.RowKit
set_option linter.unusedVariables false

end Go.Proofs.Ytjdmknlcjejecaa
