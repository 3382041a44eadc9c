import Derived.Test.YthjakbpcpfmbjaaMem
namespace Go.Proofs.Ythjakbpcpfmbjaa
open Go.RowKit
set_option linter.unusedVariables false

end Go.Proofs.Ythjakbpcpfmbjaa
