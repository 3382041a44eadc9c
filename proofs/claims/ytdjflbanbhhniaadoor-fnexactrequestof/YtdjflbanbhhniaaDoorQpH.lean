import Derived.Test.YtdjflbanbhhniaaDoorQpG
namespace Go.Proofs.YtdjflbanbhhniaaDoor
open Go.RowKit
set_option linter.unusedVariables false

end Go.Proofs.YtdjflbanbhhniaaDoor
