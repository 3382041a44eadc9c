import Derived.Test.YtlmfgnjampeckaaRngOK
import Derived.Test.YtlmfgnjampeckaaRScal
namespace Go.Proofs.Ytlmfgnjampeckaa
open Go.RowKit
set_option linter.unusedVariables false

theorem rangesOK_S (v : Value) (R : List (Int × Int)) (w : World) (h : RRow w v R) (hR : R.length ≤ 9223372036854775807) : Calls Try.prog 9 #[v] w fun e w' => e = .returned (.bool (rokV R)) ∧ Below w.heap.size w w' := by
  have HC : Hid _ := And.intro (rokS v R w h hR) True.intro
  obtain ⟨ao, cp, rfl⟩ := h.form
  clear h
  go_enter Try.func9, Try.ntmps9
  go_wp2_with fail
  go_at_call 23
  refine HC.out.1.mono ?_
  rintro e w1 ⟨rfl, b1⟩
  go_wp2
  go_ret
  exact ⟨rfl, b1⟩
theorem rangesOK_I (v : Value) (R : List (Int × Int)) (w : World) (h : RRow w v R) (hR : R.length ≤ 9223372036854775807) : Calls Try.prog 11 #[v] w fun e w' => e = .returned (.bool (rokV R)) ∧ Below w.heap.size w w' := by
  have HC : Hid _ := And.intro (rokI v R w h hR) True.intro
  obtain ⟨ao, cp, rfl⟩ := h.form
  clear h
  go_enter Try.func11, Try.ntmps11
  go_wp2_with fail
  go_at_call 25
  refine HC.out.1.mono ?_
  rintro e w1 ⟨rfl, b1⟩
  go_wp2
  go_ret
  exact ⟨rfl, b1⟩
theorem fnExactRangesOK_walk (v : Value) (R : List (Int × Int)) (sm : R.length ≤ maxLen) (w : World) (row : RRow w v R) : Calls Try.prog 3 #[v] w fun e w' => e = .returned (.bool true) ∧ Below w.heap.size w w' :=
  fnExactRangesOK_of v R sm w row fun hf => ⟨rokV R, fun v w h => rangesOK_S v R w h (Nat.le_trans hf (by decide)), fun v w h => rangesOK_I v R w h (Nat.le_trans hf (by decide))⟩
end Go.Proofs.Ytlmfgnjampeckaa
