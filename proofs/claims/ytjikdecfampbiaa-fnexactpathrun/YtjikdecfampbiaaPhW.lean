import Derived.Test.YtjikdecfampbiaaPmF
import Derived.Test.YtjikdecfampbiaaPathRunLaw
namespace Go.Proofs.Ytjikdecfampbiaa
open Go.RowKit
set_option linter.unusedVariables false

theorem prY_len (srv : Bool) (R : List SPathOp) : (prY srv R).length ≤ 1048576 := by
  unfold prY
  split
  · simp
  · rw [List.length_map, List.length_range]; omega
theorem sumB_one1 {α : Type} [Inhabited α] (d : α → List Int) (L : List α) (j n : Nat) (h : j < n) : (d (L.getD j default)).length ≤ sumB 0 d L n := sumB_one 0 d L j n h
theorem fnExactPathRun_walk (n : Bool) (v : Value) (R : List SPathOp) (sm : R.length ≤ maxLen) (sd : ∀ j, j < R.length → (R.getD j default).d.length ≤ maxLen) (so : ∀ j, j < R.length → ∀ x ∈ (R.getD j default).d, (Lit.int .u8 x).wf = true) (w : World) (row : BRow 4 SPathOp.c SPathOp.d w v R) :
    Calls Try.prog 3 #[.bool n, v] w fun e w' => e = .returned (.bool true) ∧ Below w.heap.size w w' := by
  refine fnExactPathRun_of n v R (Nat.le_trans sm (by decide)) (fun j hj => Nat.le_trans (sd j hj) (by decide)) w row (fun hf => ?_)
  have sm' : R.length ≤ 140737488355328 := by omega
  have sd' : ∀ j, j < R.length → (R.getD j default).d.length ≤ 1048576 := fun j hj => Nat.le_trans (sumB_one 0 SPathOp.d R j R.length hj) (by omega)
  have so' : ∀ j, ∀ x ∈ (R.getD j default).f3, 0 ≤ x ∧ x < 256 := fun j x hx => by
    by_cases hj : j < R.length
    · exact bytes_of_wf (so j hj) x hx
    · have e : R.getD j default = default := by simp [List.getD, List.getElem?_eq_none (show R.length ≤ j by omega)]
      rw [e] at hx
      cases hx
  exact ⟨prY n R, prC R, ⟨prY_len n R, trivial⟩, fun v w' _ r => specPR n v R w' r sd' so' sm', fun v w' hb r => implPR n v R w' r sd' so' sm'⟩
end Go.Proofs.Ytjikdecfampbiaa
