import Derived.Test.YtcgkgnecnicpnaaDoorFdA
namespace Go.Proofs.YtcgkgnecnicpnaaDoor
open Go.RowKit
set_option linter.unusedVariables false

end Go.Proofs.YtcgkgnecnicpnaaDoor
