import Derived.Test.YtdjflbanbhhniaaDoorQpH
import Derived.Laws.BytesArg
import Derived.Test.YtdjflbanbhhniaaDoorBlocks
namespace Go.Proofs.YtdjflbanbhhniaaDoor
open Go.RowKit
set_option linter.unusedVariables false

/-- A number of three digits as a text. -/
def thr (n : Int) : ByteArray := strOfNums [48 + n / 100, 48 + n / 10 % 10, 48 + n % 10]
end Go.Proofs.YtdjflbanbhhniaaDoor
