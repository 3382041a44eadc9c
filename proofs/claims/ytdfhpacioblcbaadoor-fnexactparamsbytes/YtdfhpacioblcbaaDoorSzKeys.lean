import Derived.Test.YtdfhpacioblcbaaDoorSzBytes
import Derived.Test.YtdfhpacioblcbaaDoorKeys
namespace Go.Proofs.YtdfhpacioblcbaaDoor
open Go.RowKit
set_option linter.unusedVariables false

end Go.Proofs.YtdfhpacioblcbaaDoor
