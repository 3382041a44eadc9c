import Derived.Test.YtnafmmlikmppjaiPow
import Derived.Test.YtnafmmlikmppjaiNumV
namespace Go.Proofs.Ytnafmmlikmppjai
open Go.RowKit
set_option linter.unusedVariables false

theorem specCut_1 (num : Int) (w : World) (h0 : 0 ≤ num) (h1 : num ≤ 4611686018427387903) : Calls Try.prog 7 #[.int .i64 num, .int .i64 1] w fun e w' => e = .returned (.int .i64 (num % 256)) ∧ w' = w := by
  go_enter Try.func7, Try.ntmps7
  go_wp2_with (go_at_call 24; refine (pw_1 _).mono ?_; rintro e w' ⟨rfl, rfl⟩)
  go_ret
  exact ⟨rfl, rfl⟩
theorem specCut_2 (num : Int) (w : World) (h0 : 0 ≤ num) (h1 : num ≤ 4611686018427387903) : Calls Try.prog 7 #[.int .i64 num, .int .i64 2] w fun e w' => e = .returned (.int .i64 (num % 65536)) ∧ w' = w := by
  go_enter Try.func7, Try.ntmps7
  go_wp2_with (go_at_call 24; refine (pw_2 _).mono ?_; rintro e w' ⟨rfl, rfl⟩)
  go_ret
  exact ⟨rfl, rfl⟩
theorem specCut_3 (num : Int) (w : World) (h0 : 0 ≤ num) (h1 : num ≤ 4611686018427387903) : Calls Try.prog 7 #[.int .i64 num, .int .i64 3] w fun e w' => e = .returned (.int .i64 (num % 16777216)) ∧ w' = w := by
  go_enter Try.func7, Try.ntmps7
  go_wp2_with (go_at_call 24; refine (pw_3 _).mono ?_; rintro e w' ⟨rfl, rfl⟩)
  go_ret
  exact ⟨rfl, rfl⟩
theorem specCut_4 (num : Int) (w : World) (h0 : 0 ≤ num) (h1 : num ≤ 4611686018427387903) : Calls Try.prog 7 #[.int .i64 num, .int .i64 4] w fun e w' => e = .returned (.int .i64 (num % 4294967296)) ∧ w' = w := by
  go_enter Try.func7, Try.ntmps7
  go_wp2_with (go_at_call 24; refine (pw_4 _).mono ?_; rintro e w' ⟨rfl, rfl⟩)
  go_ret
  exact ⟨rfl, rfl⟩
theorem specCutBad (num n : Int) (w : World) (h : num < 0 ∨ 4611686018427387903 < num ∨ n < 1 ∨ 4 < n) : Calls Try.prog 7 #[.int .i64 num, .int .i64 n] w fun e w' => e = .returned (.int .i64 (-1)) ∧ w' = w := by
  by_cases a : num < 0
  · clear h
    go_enter Try.func7, Try.ntmps7
    go_wp2
    go_ret
    exact ⟨rfl, rfl⟩
  · by_cases b : 4611686018427387903 < num
    · clear h
      go_enter Try.func7, Try.ntmps7
      go_wp2
      go_ret
      exact ⟨rfl, rfl⟩
    · by_cases c : n < 1
      · clear h
        go_enter Try.func7, Try.ntmps7
        go_wp2
        go_ret
        exact ⟨rfl, rfl⟩
      · have d : 4 < n := by omega
        clear h
        go_enter Try.func7, Try.ntmps7
        go_wp2
        go_ret
        exact ⟨rfl, rfl⟩
theorem specCut (num n : Int) (w : World) : Calls Try.prog 7 #[.int .i64 num, .int .i64 n] w fun e w' => e = .returned (.int .i64 (cutV num n)) ∧ w' = w := by
  by_cases h : num < 0 ∨ 4611686018427387903 < num ∨ n < 1 ∨ 4 < n
  · rw [show cutV num n = -1 by unfold cutV; rw [if_pos h]]
    exact specCutBad num n w h
  · have hk : n = 1 ∨ n = 2 ∨ n = 3 ∨ n = 4 := by omega
    rcases hk with rfl | rfl | rfl | rfl
    · rw [show cutV num 1 = num % 256 by unfold cutV; rw [if_neg h, if_pos rfl]]
      exact specCut_1 num w (by omega) (by omega)
    · rw [show cutV num 2 = num % 65536 by unfold cutV; rw [if_neg h, if_neg (by decide), if_pos rfl]]
      exact specCut_2 num w (by omega) (by omega)
    · rw [show cutV num 3 = num % 16777216 by unfold cutV; rw [if_neg h, if_neg (by decide), if_neg (by decide), if_pos rfl]]
      exact specCut_3 num w (by omega) (by omega)
    · rw [show cutV num 4 = num % 4294967296 by unfold cutV; rw [if_neg h, if_neg (by decide), if_neg (by decide), if_neg (by decide)]]
      exact specCut_4 num w (by omega) (by omega)
end Go.Proofs.Ytnafmmlikmppjai
