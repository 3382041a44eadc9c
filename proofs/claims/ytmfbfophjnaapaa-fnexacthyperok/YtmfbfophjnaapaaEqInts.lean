import Derived.Test.YtmfbfophjnaapaaMem
namespace Go.Proofs.Ytmfbfophjnaapaa
open Go.RowKit
set_option linter.unusedVariables false

end Go.Proofs.Ytmfbfophjnaapaa
