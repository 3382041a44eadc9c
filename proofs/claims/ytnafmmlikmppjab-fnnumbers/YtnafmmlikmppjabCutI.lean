import Derived.Test.YtnafmmlikmppjabWidth
import Derived.Test.YtnafmmlikmppjabBits64
import Derived.Test.YtnafmmlikmppjabNumV
namespace Go.Proofs.Ytnafmmlikmppjab
open Go.RowKit
set_option linter.unusedVariables false

theorem implCut_1 (num : Int) (w : World) (h0 : 0 ≤ num) (h1 : num ≤ 4611686018427387903) : Calls Try.prog 7 #[.int .i64 num, .int .i64 1] w fun e w' => e = .returned (.int .i64 (num % 256)) ∧ w' = w := by
  have e1 : bits .and .u64 num 255 = num % 256 := msk_of num 255 8 h0 (by omega) (by decide) (by decide)
  have hb : 0 ≤ num % 256 ∧ num % 256 < 256 := by omega
  go_enter Try.func7, Try.ntmps7
  go_wp2_with (first
    | (go_at_call 14; refine (num_ok num _ h0 h1).mono ?_; rintro e w' ⟨rfl, rfl⟩)
    | (go_at_call 17; refine (valid_ok 1 _ (by decide) (by decide)).mono ?_; rintro e w' ⟨rfl, rfl⟩)
    | (go_at_call 18; refine (maskw_1 _).mono ?_; rintro e w' ⟨rfl, rfl⟩))
  go_ret
  exact ⟨rfl, rfl⟩
theorem implCut_2 (num : Int) (w : World) (h0 : 0 ≤ num) (h1 : num ≤ 4611686018427387903) : Calls Try.prog 7 #[.int .i64 num, .int .i64 2] w fun e w' => e = .returned (.int .i64 (num % 65536)) ∧ w' = w := by
  have e1 : bits .and .u64 num 65535 = num % 65536 := msk_of num 65535 16 h0 (by omega) (by decide) (by decide)
  have hb : 0 ≤ num % 65536 ∧ num % 65536 < 65536 := by omega
  go_enter Try.func7, Try.ntmps7
  go_wp2_with (first
    | (go_at_call 14; refine (num_ok num _ h0 h1).mono ?_; rintro e w' ⟨rfl, rfl⟩)
    | (go_at_call 17; refine (valid_ok 2 _ (by decide) (by decide)).mono ?_; rintro e w' ⟨rfl, rfl⟩)
    | (go_at_call 18; refine (maskw_2 _).mono ?_; rintro e w' ⟨rfl, rfl⟩))
  go_ret
  exact ⟨rfl, rfl⟩
theorem implCut_3 (num : Int) (w : World) (h0 : 0 ≤ num) (h1 : num ≤ 4611686018427387903) : Calls Try.prog 7 #[.int .i64 num, .int .i64 3] w fun e w' => e = .returned (.int .i64 (num % 16777216)) ∧ w' = w := by
  have e1 : bits .and .u64 num 16777215 = num % 16777216 := msk_of num 16777215 24 h0 (by omega) (by decide) (by decide)
  have hb : 0 ≤ num % 16777216 ∧ num % 16777216 < 16777216 := by omega
  go_enter Try.func7, Try.ntmps7
  go_wp2_with (first
    | (go_at_call 14; refine (num_ok num _ h0 h1).mono ?_; rintro e w' ⟨rfl, rfl⟩)
    | (go_at_call 17; refine (valid_ok 3 _ (by decide) (by decide)).mono ?_; rintro e w' ⟨rfl, rfl⟩)
    | (go_at_call 18; refine (maskw_3 _).mono ?_; rintro e w' ⟨rfl, rfl⟩))
  go_ret
  exact ⟨rfl, rfl⟩
theorem implCut_4 (num : Int) (w : World) (h0 : 0 ≤ num) (h1 : num ≤ 4611686018427387903) : Calls Try.prog 7 #[.int .i64 num, .int .i64 4] w fun e w' => e = .returned (.int .i64 (num % 4294967296)) ∧ w' = w := by
  have e1 : bits .and .u64 num 4294967295 = num % 4294967296 := msk_of num 4294967295 32 h0 (by omega) (by decide) (by decide)
  have hb : 0 ≤ num % 4294967296 ∧ num % 4294967296 < 4294967296 := by omega
  go_enter Try.func7, Try.ntmps7
  go_wp2_with (first
    | (go_at_call 14; refine (num_ok num _ h0 h1).mono ?_; rintro e w' ⟨rfl, rfl⟩)
    | (go_at_call 17; refine (valid_ok 4 _ (by decide) (by decide)).mono ?_; rintro e w' ⟨rfl, rfl⟩)
    | (go_at_call 18; refine (maskw_4 _).mono ?_; rintro e w' ⟨rfl, rfl⟩))
  go_ret
  exact ⟨rfl, rfl⟩
theorem implCutBad (num n : Int) (w : World) (h : num < 0 ∨ 4611686018427387903 < num ∨ n < 1 ∨ 4 < n) : Calls Try.prog 7 #[.int .i64 num, .int .i64 n] w fun e w' => e = .returned (.int .i64 (-1)) ∧ w' = w := by
  by_cases a : num < 0 ∨ 4611686018427387903 < num
  · have c := fun w => num_not num w a
    clear h a
    go_enter Try.func7, Try.ntmps7
    go_wp2_with (go_at_call 14; refine (c _).mono ?_; rintro e w' ⟨rfl, rfl⟩)
    go_ret
    exact ⟨rfl, rfl⟩
  · have c1 := fun w => num_ok num w (by omega) (by omega)
    have c2 := fun w => valid_not n w (by omega)
    clear h a
    go_enter Try.func7, Try.ntmps7
    go_wp2_with (first
      | (go_at_call 14; refine (c1 _).mono ?_; rintro e w' ⟨rfl, rfl⟩)
      | (go_at_call 17; refine (c2 _).mono ?_; rintro e w' ⟨rfl, rfl⟩))
    go_ret
    exact ⟨rfl, rfl⟩
theorem implCut (num n : Int) (w : World) : Calls Try.prog 7 #[.int .i64 num, .int .i64 n] w fun e w' => e = .returned (.int .i64 (cutV num n)) ∧ w' = w := by
  by_cases h : num < 0 ∨ 4611686018427387903 < num ∨ n < 1 ∨ 4 < n
  · rw [show cutV num n = -1 by unfold cutV; rw [if_pos h]]
    exact implCutBad num n w h
  · have hk : n = 1 ∨ n = 2 ∨ n = 3 ∨ n = 4 := by omega
    rcases hk with rfl | rfl | rfl | rfl
    · rw [show cutV num 1 = num % 256 by unfold cutV; rw [if_neg h, if_pos rfl]]
      exact implCut_1 num w (by omega) (by omega)
    · rw [show cutV num 2 = num % 65536 by unfold cutV; rw [if_neg h, if_neg (by decide), if_pos rfl]]
      exact implCut_2 num w (by omega) (by omega)
    · rw [show cutV num 3 = num % 16777216 by unfold cutV; rw [if_neg h, if_neg (by decide), if_neg (by decide), if_pos rfl]]
      exact implCut_3 num w (by omega) (by omega)
    · rw [show cutV num 4 = num % 4294967296 by unfold cutV; rw [if_neg h, if_neg (by decide), if_neg (by decide), if_neg (by decide)]]
      exact implCut_4 num w (by omega) (by omega)
end Go.Proofs.Ytnafmmlikmppjab
