import Derived.Test.YtejhobnfhplidaaMem
namespace Go.Proofs.Ytejhobnfhplidaa
open Go.RowKit
set_option linter.unusedVariables false

end Go.Proofs.Ytejhobnfhplidaa
