import Derived.Test.YtaodcahkkeobdaaAfA
import Derived.Test.YtaodcahkkeobdaaAfLaw
namespace Go.Proofs.Ytaodcahkkeobdaa
open Go.RowKit
set_option linter.unusedVariables false

theorem fnExactAckFrame_walk (v : Value) (R : List (Int × Int)) (n : Int) (sm : R.length ≤ maxLen) (hn : (Lit.int .i64 n).wf = true) (w : World) (row : RRow w v R) : Calls Try.prog 3 #[v, .int .i64 n] w fun e w' => e = .returned (.bool true) ∧ Below w.heap.size w w' := by
  refine fnExactAckFrame_of v R n sm w row fun hf => ?_
  have z0 : zeroF.small 1048576 := ⟨by decide, by decide, by decide⟩
  cases hr : rokV R with
  | false =>
    have hs : ackS R n = false := by unfold ackS; rw [hr]; rfl
    exact ⟨zeroF, 1, z0, fun v w h => afS_badR v R n w h hf hr, fun v w h => afI_bad v R n w h hf hs⟩
  | true =>
    by_cases h0 : 0 < R.length
    · cases hv : nin n with
      | false =>
        have hs : ackS R n = false := by unfold ackS; rw [hv, Bool.and_false]
        exact ⟨zeroF, 1, z0, fun v w h => afS_badN v R n w h hf hr h0 hv, fun v w h => afI_bad v R n w h hf hs⟩
      | true =>
        have hs : ackS R n = true := by unfold ackS; rw [hr, hv, decide_eq_true h0]; rfl
        exact ⟨ackF R n, 0, ⟨Nat.zero_le _, Nat.zero_le _, hf⟩, fun v w h => afS_ok v R n w h hf hr h0 hv, fun v w h => afI_ok v R n w h hf hs h0⟩
    · have hs : ackS R n = false := by unfold ackS; rw [decide_eq_false h0]; simp
      exact ⟨zeroF, 1, z0, fun v w h => afS_badL v R n w h hf hr (by omega), fun v w h => afI_bad v R n w h hf hs⟩
end Go.Proofs.Ytaodcahkkeobdaa
