import Derived.Test.YtdoglkjhmaiknaaMem
namespace Go.Proofs.Ytdoglkjhmaiknaa
open Go.RowKit
set_option linter.unusedVariables false

end Go.Proofs.Ytdoglkjhmaiknaa
