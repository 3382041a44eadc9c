import Derived.Test.YtgifbpongpbjaaaDoorMem
namespace Go.Proofs.YtgifbpongpbjaaaDoor
open Go.RowKit
set_option linter.unusedVariables false

end Go.Proofs.YtgifbpongpbjaaaDoor
