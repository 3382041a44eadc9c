import Derived.Test.YtpdclbfjngmppaaDoorFmSendOp
import Derived.Test.YtpdclbfjngmppaaDoorFmSendObs
namespace Go.Proofs.YtpdclbfjngmppaaDoor
open Go.RowKit
set_option linter.unusedVariables false

theorem sumB_one {α : Type} [Inhabited α] (m : Nat) (d : α → List Int) (L : List α) (j n : Nat) (h : j < n) : (d (L.getD j default)).length ≤ sumB m d L n := by
  have := sumB_mono m d L (show j + 1 ≤ n by omega)
  simp only [sumB] at this
  omega
theorem sumB_all {α : Type} [Inhabited α] (m : Nat) (d : α → List Int) (L : List α) (n : Nat) : sumB m d L n = m * n + sumB 0 d L n := by
  induction n with
  | zero => simp [sumB]
  | succ n ih => simp only [sumB, ih, Nat.mul_succ]; omega
end Go.Proofs.YtpdclbfjngmppaaDoor
