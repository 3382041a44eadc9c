import Derived.Test.YtnjcjaeiadlmlaaDoorMem
namespace Go.Proofs.YtnjcjaeiadlmlaaDoor
open Go.RowKit
set_option linter.unusedVariables false

end Go.Proofs.YtnjcjaeiadlmlaaDoor
