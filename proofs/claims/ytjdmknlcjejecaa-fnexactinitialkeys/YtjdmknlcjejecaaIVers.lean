import Derived.Test.YtjdmknlcjejecaaVersS
import Derived.Test.YtjdmknlcjejecaaILong
namespace Go.Proofs.Ytjdmknlcjejecaa
open Go.RowKit
set_option linter.unusedVariables false

theorem iVok (v : Int) (w : World) (h : vok v) : Calls Try.prog 17 #[.int .i64 v] w fun e w' => e = .returned (.bool true) ∧ w' = w := by
  obtain ⟨h1, h2⟩ := h
  go_enter Try.func17, Try.ntmps17
  go_wp2
  go_ret
  exact ⟨rfl, rfl⟩
theorem iVbad (v : Int) (w : World) (h : ¬ vok v) : Calls Try.prog 17 #[.int .i64 v] w fun e w' => e = .returned (.bool false) ∧ w' = w := by
  by_cases h1 : 1 ≤ v
  · have h2 : 4294967295 < v := by unfold vok at h; omega
    have hd : decide (v ≤ 4294967295) = false := decide_eq_false (by omega)
    clear h
    go_enter Try.func17, Try.ntmps17
    go_wp2
    go_ret
    exact ⟨rfl, rfl⟩
  · have h2 : v < 1 := by omega
    clear h h1
    go_enter Try.func17, Try.ntmps17
    go_wp2
    go_ret
    exact ⟨rfl, rfl⟩
theorem cids2 (n m : Nat) (d s : List Int) (e : d.length = n) (e2 : s.length = m) : (decide (∀ j, j < ([d, s] : List (List Int)).length → (([d, s] : List (List Int)).getD j []).length ≤ 8)) = decide (n ≤ 8 ∧ m ≤ 8) := by
  rw [decide_eq_decide]
  constructor
  · intro h
    have h0 := h 0 (by simp)
    have h1 := h 1 (by simp)
    simp only [List.getD_cons_zero, List.getD_cons_succ] at h0 h1
    omega
  · intro h j hj
    rcases (show j = 0 ∨ j = 1 by simp at hj; omega) with rfl | rfl
    · simp only [List.getD_cons_zero]; omega
    · simp only [List.getD_cons_zero, List.getD_cons_succ]; omega
theorem cids2_len (d s : List Int) (h : d.length ≤ 9223372036854775807) (h2 : s.length ≤ 9223372036854775807) (j : Nat) : (([d, s] : List (List Int)).getD j []).length ≤ 9223372036854775807 := by
  match j with
  | 0 => exact h
  | 1 => exact h2
  | n + 2 => simp [List.getD]
end Go.Proofs.Ytjdmknlcjejecaa
