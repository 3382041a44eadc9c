import Derived.Test.YtdjflbanbhhniaaDoorStrA
namespace Go.Proofs.YtdjflbanbhhniaaDoor
open Go.RowKit
set_option linter.unusedVariables false

/-- The bytes of the first k texts. -/
def tsum (L : List ByteArray) (k : Nat) : Nat := ((L.take k).map ByteArray.size).sum
theorem tsum_zero (L : List ByteArray) : tsum L 0 = 0 := rfl
theorem tsum_succ (L : List ByteArray) (k : Nat) (h : k < L.length) : tsum L (k + 1) = tsum L k + (L.getD k ByteArray.empty).size := by
  unfold tsum
  rw [List.take_add_one, List.map_append, List.sum_append]
  simp [List.getD, h]
theorem tsum_mono (L : List ByteArray) : ∀ (d k : Nat), k + d ≤ L.length → tsum L k ≤ tsum L (k + d)
  | 0, k, _ => Nat.le_refl _
  | d + 1, k, h => by
    have := tsum_mono L d k (by omega)
    have e := tsum_succ L (k + d) (by omega)
    rw [show k + (d + 1) = k + d + 1 by omega]
    omega
def ttot (L : List ByteArray) : Int := (L.length : Int) + (tsum L L.length : Int)
end Go.Proofs.YtdjflbanbhhniaaDoor
