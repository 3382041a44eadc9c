import Derived.Test.YtmfbfophjnaapaaDoorMem
namespace Go.Proofs.YtmfbfophjnaapaaDoor
open Go.RowKit
set_option linter.unusedVariables false

end Go.Proofs.YtmfbfophjnaapaaDoor
