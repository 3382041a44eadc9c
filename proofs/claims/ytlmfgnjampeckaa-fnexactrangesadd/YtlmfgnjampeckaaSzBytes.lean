import Derived.Test.YtlmfgnjampeckaaMem
namespace Go.Proofs.Ytlmfgnjampeckaa
open Go.RowKit
set_option linter.unusedVariables false

end Go.Proofs.Ytlmfgnjampeckaa
