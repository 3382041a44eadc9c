import Derived.Test.YtnafmmlikmppjabWindow
namespace Go.Proofs.Ytnafmmlikmppjab
open Go.RowKit
set_option linter.unusedVariables false

theorem maskw_1 (w : World) : Calls Try.prog 18 #[.int .i64 1] w fun e w' => e = .returned (.int .u64 255) ∧ w' = w := by
  go_enter Try.func18, Try.ntmps18
  go_wp2_with (go_at_call 15; refine (window_1 _).mono ?_; rintro e w' ⟨rfl, rfl⟩)
  go_ret
  exact ⟨rfl, rfl⟩
theorem maskw_2 (w : World) : Calls Try.prog 18 #[.int .i64 2] w fun e w' => e = .returned (.int .u64 65535) ∧ w' = w := by
  go_enter Try.func18, Try.ntmps18
  go_wp2_with (go_at_call 15; refine (window_2 _).mono ?_; rintro e w' ⟨rfl, rfl⟩)
  go_ret
  exact ⟨rfl, rfl⟩
theorem maskw_3 (w : World) : Calls Try.prog 18 #[.int .i64 3] w fun e w' => e = .returned (.int .u64 16777215) ∧ w' = w := by
  go_enter Try.func18, Try.ntmps18
  go_wp2_with (go_at_call 15; refine (window_3 _).mono ?_; rintro e w' ⟨rfl, rfl⟩)
  go_ret
  exact ⟨rfl, rfl⟩
theorem maskw_4 (w : World) : Calls Try.prog 18 #[.int .i64 4] w fun e w' => e = .returned (.int .u64 4294967295) ∧ w' = w := by
  go_enter Try.func18, Try.ntmps18
  go_wp2_with (go_at_call 15; refine (window_4 _).mono ?_; rintro e w' ⟨rfl, rfl⟩)
  go_ret
  exact ⟨rfl, rfl⟩
theorem valid_low (n : Int) (w : World) (h : n < 1) : Calls Try.prog 17 #[.int .i64 n] w fun e w' => e = .returned (.bool false) ∧ w' = w := by
  go_enter Try.func17, Try.ntmps17
  go_wp2
  go_ret
  exact ⟨rfl, rfl⟩
theorem valid_high (n : Int) (w : World) (h0 : 1 ≤ n) (h : 4 < n) : Calls Try.prog 17 #[.int .i64 n] w fun e w' => e = .returned (.bool false) ∧ w' = w := by
  have hd : decide (n < 5) = false := by simp; omega
  go_enter Try.func17, Try.ntmps17
  go_wp2
  go_ret
  exact ⟨rfl, rfl⟩
theorem valid_ok (n : Int) (w : World) (h0 : 1 ≤ n) (h : n ≤ 4) : Calls Try.prog 17 #[.int .i64 n] w fun e w' => e = .returned (.bool true) ∧ w' = w := by
  have hd : decide (n < 5) = true := by simp; omega
  go_enter Try.func17, Try.ntmps17
  go_wp2
  go_ret
  exact ⟨rfl, rfl⟩
theorem valid_not (n : Int) (w : World) (h : n < 1 ∨ 4 < n) : Calls Try.prog 17 #[.int .i64 n] w fun e w' => e = .returned (.bool false) ∧ w' = w := by
  by_cases a : n < 1
  · exact valid_low n w a
  · exact valid_high n w (by omega) (by omega)
end Go.Proofs.Ytnafmmlikmppjab
