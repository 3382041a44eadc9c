import Derived.Test.YthbggabgklnhgaaDoorMem
namespace Go.Proofs.YthbggabgklnhgaaDoor
open Go.RowKit
set_option linter.unusedVariables false

end Go.Proofs.YthbggabgklnhgaaDoor
