import Derived.Test.YtabnicgbcedddaaMem
namespace Go.Proofs.Ytabnicgbcedddaa
open Go.RowKit
set_option linter.unusedVariables false

end Go.Proofs.Ytabnicgbcedddaa
