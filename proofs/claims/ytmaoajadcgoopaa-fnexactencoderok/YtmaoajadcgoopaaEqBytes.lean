import Derived.Test.YtmaoajadcgoopaaMem
namespace Go.Proofs.Ytmaoajadcgoopaa
open Go.RowKit
set_option linter.unusedVariables false

end Go.Proofs.Ytmaoajadcgoopaa
