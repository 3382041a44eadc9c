import Derived.Test.YtdjflbanbhhniaaDoorMem
namespace Go.Proofs.YtdjflbanbhhniaaDoor
open Go.RowKit
set_option linter.unusedVariables false

end Go.Proofs.YtdjflbanbhhniaaDoor
