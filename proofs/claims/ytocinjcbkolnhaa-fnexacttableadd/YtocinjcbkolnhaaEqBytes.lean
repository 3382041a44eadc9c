import Derived.Test.YtocinjcbkolnhaaMem
namespace Go.Proofs.Ytocinjcbkolnhaa
open Go.RowKit
set_option linter.unusedVariables false

end Go.Proofs.Ytocinjcbkolnhaa
