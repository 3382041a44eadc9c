import Derived.Test.YtnafmmlikmppjabMem
namespace Go.Proofs.Ytnafmmlikmppjab
open Go.RowKit
set_option linter.unusedVariables false

theorem window_1 (w : World) : Calls Try.prog 15 #[.int .i64 1] w fun e w' => e = .returned (.int .u64 256) ∧ w' = w := by
  go_enter Try.func15, Try.ntmps15
  go_wp2
  go_ret
  exact ⟨rfl, rfl⟩
theorem window_2 (w : World) : Calls Try.prog 15 #[.int .i64 2] w fun e w' => e = .returned (.int .u64 65536) ∧ w' = w := by
  go_enter Try.func15, Try.ntmps15
  go_wp2
  go_ret
  exact ⟨rfl, rfl⟩
theorem window_3 (w : World) : Calls Try.prog 15 #[.int .i64 3] w fun e w' => e = .returned (.int .u64 16777216) ∧ w' = w := by
  go_enter Try.func15, Try.ntmps15
  go_wp2
  go_ret
  exact ⟨rfl, rfl⟩
theorem window_4 (w : World) : Calls Try.prog 15 #[.int .i64 4] w fun e w' => e = .returned (.int .u64 4294967296) ∧ w' = w := by
  go_enter Try.func15, Try.ntmps15
  go_wp2
  go_ret
  exact ⟨rfl, rfl⟩
theorem num_low (n : Int) (w : World) (h : n < 0) : Calls Try.prog 14 #[.int .i64 n] w fun e w' => e = .returned (.bool false) ∧ w' = w := by
  go_enter Try.func14, Try.ntmps14
  go_wp2
  go_ret
  exact ⟨rfl, rfl⟩
theorem num_high (n : Int) (w : World) (h0 : 0 ≤ n) (h : 4611686018427387903 < n) : Calls Try.prog 14 #[.int .i64 n] w fun e w' => e = .returned (.bool false) ∧ w' = w := by
  have hd : decide (n ≤ 4611686018427387903) = false := by simp; omega
  go_enter Try.func14, Try.ntmps14
  go_wp2
  go_ret
  exact ⟨rfl, rfl⟩
theorem num_ok (n : Int) (w : World) (h0 : 0 ≤ n) (h : n ≤ 4611686018427387903) : Calls Try.prog 14 #[.int .i64 n] w fun e w' => e = .returned (.bool true) ∧ w' = w := by
  go_enter Try.func14, Try.ntmps14
  go_wp2
  go_ret
  exact ⟨rfl, rfl⟩
theorem num_not (n : Int) (w : World) (h : n < 0 ∨ 4611686018427387903 < n) : Calls Try.prog 14 #[.int .i64 n] w fun e w' => e = .returned (.bool false) ∧ w' = w := by
  by_cases a : n < 0
  · exact num_low n w a
  · exact num_high n w (by omega) (by omega)
end Go.Proofs.Ytnafmmlikmppjab
