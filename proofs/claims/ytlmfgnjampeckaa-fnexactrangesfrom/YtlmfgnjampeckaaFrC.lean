import Derived.Test.YtlmfgnjampeckaaFrB
import Derived.Test.YtlmfgnjampeckaaRRLaw
namespace Go.Proofs.Ytlmfgnjampeckaa
open Go.RowKit
set_option linter.unusedVariables false

theorem fnExactRangesFrom_walk (v : Value) (R : List (Int × Int)) (n : Int) (sm : R.length ≤ maxLen) (hn : (Lit.int .i64 n).wf = true) (w : World) (row : RRow w v R) : Calls Try.prog 5 #[v, .int .i64 n] w fun e w' => e = .returned (.bool true) ∧ Below w.heap.size w w' := by
  refine fnExactRangesFrom_of v R n sm w row fun hf => ?_
  cases hr : rokV R with
  | false => exact ⟨[], 1, by simp, fun v w h => fromS_badR v R n w h hf hr, fun v w h => fromI_badR v R n w h hf hr⟩
  | true =>
    cases hv : vin n with
    | false => exact ⟨[], 1, by simp, fun v w h => fromS_badN v R n w h hf hr hv, fun v w h => fromI_badN v R n w h hf hr hv⟩
    | true => exact ⟨fromL n R, 0, Nat.le_trans (fromL_length n R) hf, fun v w h => fromS_ok v R n w h hf hr hv, fun v w h => fromI_ok v R n w h hf hr hv⟩
end Go.Proofs.Ytlmfgnjampeckaa
