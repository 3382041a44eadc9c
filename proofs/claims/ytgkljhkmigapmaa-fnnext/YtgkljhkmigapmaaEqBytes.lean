import Derived.Test.YtgkljhkmigapmaaMem
namespace Go.Proofs.Ytgkljhkmigapmaa
open Go.RowKit
set_option linter.unusedVariables false

end Go.Proofs.Ytgkljhkmigapmaa
