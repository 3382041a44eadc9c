import Derived.Test.YtifcmibjcjmmkaaRttF
namespace Go.Proofs.Ytifcmibjcjmmkaa
open Go.RowKit
set_option linter.unusedVariables false

/-- Both sides answer the same four numbers. -/
theorem step_both (a b c d s y m : Int) : ∃ x0 x1 x2 x3 : Int,
    (∀ w : World, Calls Try.prog 9 #[rv a b c d, .int .i64 s, .int .i64 y, .int .i64 m] w fun e w' => e = .returned (rv x0 x1 x2 x3) ∧ Below w.heap.size w w') ∧
    (∀ w : World, Calls Try.prog 10 #[rv a b c d, .int .i64 s, .int .i64 y, .int .i64 m] w fun e w' => e = .returned (rv x0 x1 x2 x3) ∧ Below w.heap.size w w') := by
  by_cases h : badStep a b c d s y m
  · exact ⟨0, 0, 0, 0, stepS_bad a b c d s y m h, stepI_bad a b c d s y m h⟩
  unfold badStep at h
  have h0 : okR a b c d := Classical.not_not.1 fun q => h (Or.inl q)
  have h1 : 1 ≤ s ∧ s ≤ 1000000000000 := ⟨Int.not_lt.1 fun q => h (Or.inr (Or.inl q)), (Classical.not_not.1 (fun q => h (Or.inr (Or.inr (Or.inl q)))) : tOK s).2⟩
  have h3 : tOK y := Classical.not_not.1 fun q => h (Or.inr (Or.inr (Or.inr (Or.inl q))))
  have h4 : tOK m := Classical.not_not.1 fun q => h (Or.inr (Or.inr (Or.inr (Or.inr q))))
  by_cases hz : zR a b c d
  · exact ⟨s, s, s, s / 2, stepS_first a b c d s y m h0 hz h1 h3 h4, stepI_first a b c d s y m h0 hz h1 h3 h4⟩
  · exact ⟨_, _, _, _, stepS_next a b c d s y m h0 hz h1 h3 h4, stepI_next a b c d s y m h0 hz h1 h3 h4⟩
end Go.Proofs.Ytifcmibjcjmmkaa
