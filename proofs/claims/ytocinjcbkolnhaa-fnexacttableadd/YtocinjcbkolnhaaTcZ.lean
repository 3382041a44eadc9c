import Derived.Test.YtocinjcbkolnhaaTcN
import Derived.Test.YtocinjcbkolnhaaTgL
namespace Go.Proofs.Ytocinjcbkolnhaa
open Go.RowKit
set_option linter.unusedVariables false

theorem tcR_len (t : TB) (x : Int) : (tcR t x).1.es.length ≤ t.es.length := by
  unfold tcR
  split
  · simp
  · split <;> simp
end Go.Proofs.Ytocinjcbkolnhaa
