import Derived.Test.YtpdclbfjngmppaaDoorVals
namespace Go.Proofs.YtpdclbfjngmppaaDoor
open Go.RowKit
set_option linter.unusedVariables false

/-- What the laws draw of their second argument at the place i, from 0 to n - 1. -/
def atV (ys : List Int) (i : Nat) (n : Int) : Int :=
  if ys.length = 0 then (i : Int) * 7 % n else (ys.getD (i % ys.length) 0 * 31 + ys.getD ((i + 1) % ys.length) 0 + ((i / ys.length : Nat) : Int)) % n
theorem atV_bd (ys : List Int) (i : Nat) (n : Int) (hn : 2 ≤ n) : 0 ≤ atV ys i n ∧ atV ys i n < n := by
  unfold atV
  split
  · exact ⟨Int.emod_nonneg _ (by omega), Int.emod_lt_of_pos _ (by omega)⟩
  · exact ⟨Int.emod_nonneg _ (by omega), Int.emod_lt_of_pos _ (by omega)⟩

end Go.Proofs.YtpdclbfjngmppaaDoor
