import Derived.Test.YtnafmmlikmppjabPow
import Derived.Test.YtnafmmlikmppjabWindow
namespace Go.Proofs.Ytnafmmlikmppjab
open Go.RowKit
set_option linter.unusedVariables false

set_option maxHeartbeats 400000 in
theorem specNB_1 (num acked : Int) (w : World) (h0 : 0 ≤ num) (h1 : num ≤ 4611686018427387903) (h2 : -1 ≤ acked) (h3 : acked < num) (hd : num - acked ≤ 128) : Calls Try.prog 6 #[.int .i64 num, .int .i64 acked] w fun e w' => e = .returned (.int .i64 1) ∧ w' = w := by
  go_enter Try.func6, Try.ntmps6
  go_wp2
  refine wp_loop_rounds 1 ?_
  rw [rounds_succ]
  go_wp2_with (go_at_call 16; refine (pw_1 _).mono ?_; rintro e w' ⟨rfl, rfl⟩)
  go_ret
  exact ⟨rfl, rfl⟩
set_option maxHeartbeats 400000 in
theorem implNB_1 (num acked : Int) (w : World) (h0 : 0 ≤ num) (h1 : num ≤ 4611686018427387903) (h2 : -1 ≤ acked) (h3 : acked < num) (hd : num - acked ≤ 128) : Calls Try.prog 5 #[.int .i64 num, .int .i64 acked] w fun e w' => e = .returned (.int .i64 1) ∧ w' = w := by
  go_enter Try.func5, Try.ntmps5
  go_wp2_with (go_at_call 14; refine (num_ok num _ h0 h1).mono ?_; rintro e w' ⟨rfl, rfl⟩)
  refine wp_loop_rounds 1 ?_
  rw [rounds_succ]
  go_wp2_with (go_at_call 15; refine (window_1 _).mono ?_; rintro e w' ⟨rfl, rfl⟩)
  go_ret
  exact ⟨rfl, rfl⟩
set_option maxHeartbeats 400000 in
theorem specNB_2 (num acked : Int) (w : World) (h0 : 0 ≤ num) (h1 : num ≤ 4611686018427387903) (h2 : -1 ≤ acked) (h3 : acked < num) (ha : 128 < num - acked) (hd : num - acked ≤ 32768) : Calls Try.prog 6 #[.int .i64 num, .int .i64 acked] w fun e w' => e = .returned (.int .i64 2) ∧ w' = w := by
  go_enter Try.func6, Try.ntmps6
  go_wp2
  refine wp_loop_rounds 2 ?_
  rw [rounds_succ]
  go_wp2_with (go_at_call 16; refine (pw_1 _).mono ?_; rintro e w' ⟨rfl, rfl⟩)
  rw [rounds_succ]
  go_wp2_with (go_at_call 16; refine (pw_2 _).mono ?_; rintro e w' ⟨rfl, rfl⟩)
  go_ret
  exact ⟨rfl, rfl⟩
set_option maxHeartbeats 400000 in
theorem implNB_2 (num acked : Int) (w : World) (h0 : 0 ≤ num) (h1 : num ≤ 4611686018427387903) (h2 : -1 ≤ acked) (h3 : acked < num) (ha : 128 < num - acked) (hd : num - acked ≤ 32768) : Calls Try.prog 5 #[.int .i64 num, .int .i64 acked] w fun e w' => e = .returned (.int .i64 2) ∧ w' = w := by
  go_enter Try.func5, Try.ntmps5
  go_wp2_with (go_at_call 14; refine (num_ok num _ h0 h1).mono ?_; rintro e w' ⟨rfl, rfl⟩)
  refine wp_loop_rounds 2 ?_
  rw [rounds_succ]
  go_wp2_with (go_at_call 15; refine (window_1 _).mono ?_; rintro e w' ⟨rfl, rfl⟩)
  rw [rounds_succ]
  go_wp2_with (go_at_call 15; refine (window_2 _).mono ?_; rintro e w' ⟨rfl, rfl⟩)
  go_ret
  exact ⟨rfl, rfl⟩
set_option maxHeartbeats 400000 in
theorem specNB_3 (num acked : Int) (w : World) (h0 : 0 ≤ num) (h1 : num ≤ 4611686018427387903) (h2 : -1 ≤ acked) (h3 : acked < num) (ha : 32768 < num - acked) (hd : num - acked ≤ 8388608) : Calls Try.prog 6 #[.int .i64 num, .int .i64 acked] w fun e w' => e = .returned (.int .i64 3) ∧ w' = w := by
  go_enter Try.func6, Try.ntmps6
  go_wp2
  refine wp_loop_rounds 3 ?_
  rw [rounds_succ]
  go_wp2_with (go_at_call 16; refine (pw_1 _).mono ?_; rintro e w' ⟨rfl, rfl⟩)
  rw [rounds_succ]
  go_wp2_with (go_at_call 16; refine (pw_2 _).mono ?_; rintro e w' ⟨rfl, rfl⟩)
  rw [rounds_succ]
  go_wp2_with (go_at_call 16; refine (pw_3 _).mono ?_; rintro e w' ⟨rfl, rfl⟩)
  go_ret
  exact ⟨rfl, rfl⟩
set_option maxHeartbeats 400000 in
theorem implNB_3 (num acked : Int) (w : World) (h0 : 0 ≤ num) (h1 : num ≤ 4611686018427387903) (h2 : -1 ≤ acked) (h3 : acked < num) (ha : 32768 < num - acked) (hd : num - acked ≤ 8388608) : Calls Try.prog 5 #[.int .i64 num, .int .i64 acked] w fun e w' => e = .returned (.int .i64 3) ∧ w' = w := by
  go_enter Try.func5, Try.ntmps5
  go_wp2_with (go_at_call 14; refine (num_ok num _ h0 h1).mono ?_; rintro e w' ⟨rfl, rfl⟩)
  refine wp_loop_rounds 3 ?_
  rw [rounds_succ]
  go_wp2_with (go_at_call 15; refine (window_1 _).mono ?_; rintro e w' ⟨rfl, rfl⟩)
  rw [rounds_succ]
  go_wp2_with (go_at_call 15; refine (window_2 _).mono ?_; rintro e w' ⟨rfl, rfl⟩)
  rw [rounds_succ]
  go_wp2_with (go_at_call 15; refine (window_3 _).mono ?_; rintro e w' ⟨rfl, rfl⟩)
  go_ret
  exact ⟨rfl, rfl⟩
set_option maxHeartbeats 400000 in
theorem specNB_4 (num acked : Int) (w : World) (h0 : 0 ≤ num) (h1 : num ≤ 4611686018427387903) (h2 : -1 ≤ acked) (h3 : acked < num) (ha : 8388608 < num - acked) (hd : num - acked ≤ 2147483648) : Calls Try.prog 6 #[.int .i64 num, .int .i64 acked] w fun e w' => e = .returned (.int .i64 4) ∧ w' = w := by
  go_enter Try.func6, Try.ntmps6
  go_wp2
  refine wp_loop_rounds 4 ?_
  rw [rounds_succ]
  go_wp2_with (go_at_call 16; refine (pw_1 _).mono ?_; rintro e w' ⟨rfl, rfl⟩)
  rw [rounds_succ]
  go_wp2_with (go_at_call 16; refine (pw_2 _).mono ?_; rintro e w' ⟨rfl, rfl⟩)
  rw [rounds_succ]
  go_wp2_with (go_at_call 16; refine (pw_3 _).mono ?_; rintro e w' ⟨rfl, rfl⟩)
  rw [rounds_succ]
  go_wp2_with (go_at_call 16; refine (pw_4 _).mono ?_; rintro e w' ⟨rfl, rfl⟩)
  go_ret
  exact ⟨rfl, rfl⟩
set_option maxHeartbeats 400000 in
theorem implNB_4 (num acked : Int) (w : World) (h0 : 0 ≤ num) (h1 : num ≤ 4611686018427387903) (h2 : -1 ≤ acked) (h3 : acked < num) (ha : 8388608 < num - acked) (hd : num - acked ≤ 2147483648) : Calls Try.prog 5 #[.int .i64 num, .int .i64 acked] w fun e w' => e = .returned (.int .i64 4) ∧ w' = w := by
  go_enter Try.func5, Try.ntmps5
  go_wp2_with (go_at_call 14; refine (num_ok num _ h0 h1).mono ?_; rintro e w' ⟨rfl, rfl⟩)
  refine wp_loop_rounds 4 ?_
  rw [rounds_succ]
  go_wp2_with (go_at_call 15; refine (window_1 _).mono ?_; rintro e w' ⟨rfl, rfl⟩)
  rw [rounds_succ]
  go_wp2_with (go_at_call 15; refine (window_2 _).mono ?_; rintro e w' ⟨rfl, rfl⟩)
  rw [rounds_succ]
  go_wp2_with (go_at_call 15; refine (window_3 _).mono ?_; rintro e w' ⟨rfl, rfl⟩)
  rw [rounds_succ]
  go_wp2_with (go_at_call 15; refine (window_4 _).mono ?_; rintro e w' ⟨rfl, rfl⟩)
  go_ret
  exact ⟨rfl, rfl⟩
set_option maxHeartbeats 400000 in
theorem specNB_0 (num acked : Int) (w : World) (h0 : 0 ≤ num) (h1 : num ≤ 4611686018427387903) (h2 : -1 ≤ acked) (h3 : acked < num) (ha : 2147483648 < num - acked) : Calls Try.prog 6 #[.int .i64 num, .int .i64 acked] w fun e w' => e = .returned (.int .i64 0) ∧ w' = w := by
  go_enter Try.func6, Try.ntmps6
  go_wp2
  refine wp_loop_rounds 5 ?_
  rw [rounds_succ]
  go_wp2_with (go_at_call 16; refine (pw_1 _).mono ?_; rintro e w' ⟨rfl, rfl⟩)
  rw [rounds_succ]
  go_wp2_with (go_at_call 16; refine (pw_2 _).mono ?_; rintro e w' ⟨rfl, rfl⟩)
  rw [rounds_succ]
  go_wp2_with (go_at_call 16; refine (pw_3 _).mono ?_; rintro e w' ⟨rfl, rfl⟩)
  rw [rounds_succ]
  go_wp2_with (go_at_call 16; refine (pw_4 _).mono ?_; rintro e w' ⟨rfl, rfl⟩)
  rw [rounds_succ]
  go_wp2
  go_ret
  exact ⟨rfl, rfl⟩
set_option maxHeartbeats 400000 in
theorem implNB_0 (num acked : Int) (w : World) (h0 : 0 ≤ num) (h1 : num ≤ 4611686018427387903) (h2 : -1 ≤ acked) (h3 : acked < num) (ha : 2147483648 < num - acked) : Calls Try.prog 5 #[.int .i64 num, .int .i64 acked] w fun e w' => e = .returned (.int .i64 0) ∧ w' = w := by
  go_enter Try.func5, Try.ntmps5
  go_wp2_with (go_at_call 14; refine (num_ok num _ h0 h1).mono ?_; rintro e w' ⟨rfl, rfl⟩)
  refine wp_loop_rounds 5 ?_
  rw [rounds_succ]
  go_wp2_with (go_at_call 15; refine (window_1 _).mono ?_; rintro e w' ⟨rfl, rfl⟩)
  rw [rounds_succ]
  go_wp2_with (go_at_call 15; refine (window_2 _).mono ?_; rintro e w' ⟨rfl, rfl⟩)
  rw [rounds_succ]
  go_wp2_with (go_at_call 15; refine (window_3 _).mono ?_; rintro e w' ⟨rfl, rfl⟩)
  rw [rounds_succ]
  go_wp2_with (go_at_call 15; refine (window_4 _).mono ?_; rintro e w' ⟨rfl, rfl⟩)
  rw [rounds_succ]
  go_wp2
  go_ret
  exact ⟨rfl, rfl⟩
theorem specNBbad (num acked : Int) (w : World) (h : num < 0 ∨ 4611686018427387903 < num ∨ acked < -1 ∨ num ≤ acked) : Calls Try.prog 6 #[.int .i64 num, .int .i64 acked] w fun e w' => e = .returned (.int .i64 0) ∧ w' = w := by
  by_cases a : num < 0
  · clear h
    go_enter Try.func6, Try.ntmps6
    go_wp2
    go_ret
    exact ⟨rfl, rfl⟩
  · by_cases b : 4611686018427387903 < num
    · clear h
      go_enter Try.func6, Try.ntmps6
      go_wp2
      go_ret
      exact ⟨rfl, rfl⟩
    · by_cases c : acked < -1
      · clear h
        go_enter Try.func6, Try.ntmps6
        go_wp2
        go_ret
        exact ⟨rfl, rfl⟩
      · have d : num ≤ acked := by omega
        clear h
        go_enter Try.func6, Try.ntmps6
        go_wp2
        go_ret
        exact ⟨rfl, rfl⟩
theorem implNBbad (num acked : Int) (w : World) (h : num < 0 ∨ 4611686018427387903 < num ∨ acked < -1 ∨ num ≤ acked) : Calls Try.prog 5 #[.int .i64 num, .int .i64 acked] w fun e w' => e = .returned (.int .i64 0) ∧ w' = w := by
  by_cases a : num < 0 ∨ 4611686018427387903 < num
  · have c := fun w => num_not num w a
    clear h a
    go_enter Try.func5, Try.ntmps5
    go_wp2_with (go_at_call 14; refine (c _).mono ?_; rintro e w' ⟨rfl, rfl⟩)
    go_ret
    exact ⟨rfl, rfl⟩
  · have cc := fun w => num_ok num w (by omega) (by omega)
    by_cases c : acked < -1
    · clear h a
      go_enter Try.func5, Try.ntmps5
      go_wp2_with (go_at_call 14; refine (cc _).mono ?_; rintro e w' ⟨rfl, rfl⟩)
      go_ret
      exact ⟨rfl, rfl⟩
    · have d : num ≤ acked := by omega
      clear h a
      go_enter Try.func5, Try.ntmps5
      go_wp2_with (go_at_call 14; refine (cc _).mono ?_; rintro e w' ⟨rfl, rfl⟩)
      go_ret
      exact ⟨rfl, rfl⟩

def nbV (num acked : Int) : Int :=
  if num < 0 ∨ 4611686018427387903 < num ∨ acked < -1 ∨ num ≤ acked then 0 else if num - acked ≤ 128 then 1 else if num - acked ≤ 32768 then 2
  else if num - acked ≤ 8388608 then 3 else if num - acked ≤ 2147483648 then 4 else 0
theorem specNB (num acked : Int) (w : World) : Calls Try.prog 6 #[.int .i64 num, .int .i64 acked] w fun e w' => e = .returned (.int .i64 (nbV num acked)) ∧ w' = w := by
  by_cases h : num < 0 ∨ 4611686018427387903 < num ∨ acked < -1 ∨ num ≤ acked
  · rw [show nbV num acked = 0 by unfold nbV; rw [if_pos h]]
    exact specNBbad num acked w h
  · by_cases d1 : num - acked ≤ 128
    · rw [show nbV num acked = 1 by unfold nbV; rw [if_neg h, if_pos d1]]
      exact specNB_1 num acked w (by omega) (by omega) (by omega) (by omega) d1
    · by_cases d2 : num - acked ≤ 32768
      · rw [show nbV num acked = 2 by unfold nbV; rw [if_neg h, if_neg d1, if_pos d2]]
        exact specNB_2 num acked w (by omega) (by omega) (by omega) (by omega) (by omega) d2
      · by_cases d3 : num - acked ≤ 8388608
        · rw [show nbV num acked = 3 by unfold nbV; rw [if_neg h, if_neg d1, if_neg d2, if_pos d3]]
          exact specNB_3 num acked w (by omega) (by omega) (by omega) (by omega) (by omega) d3
        · by_cases d4 : num - acked ≤ 2147483648
          · rw [show nbV num acked = 4 by unfold nbV; rw [if_neg h, if_neg d1, if_neg d2, if_neg d3, if_pos d4]]
            exact specNB_4 num acked w (by omega) (by omega) (by omega) (by omega) (by omega) d4
          · rw [show nbV num acked = 0 by unfold nbV; rw [if_neg h, if_neg d1, if_neg d2, if_neg d3, if_neg d4]]
            exact specNB_0 num acked w (by omega) (by omega) (by omega) (by omega) (by omega)
theorem implNB (num acked : Int) (w : World) : Calls Try.prog 5 #[.int .i64 num, .int .i64 acked] w fun e w' => e = .returned (.int .i64 (nbV num acked)) ∧ w' = w := by
  by_cases h : num < 0 ∨ 4611686018427387903 < num ∨ acked < -1 ∨ num ≤ acked
  · rw [show nbV num acked = 0 by unfold nbV; rw [if_pos h]]
    exact implNBbad num acked w h
  · by_cases d1 : num - acked ≤ 128
    · rw [show nbV num acked = 1 by unfold nbV; rw [if_neg h, if_pos d1]]
      exact implNB_1 num acked w (by omega) (by omega) (by omega) (by omega) d1
    · by_cases d2 : num - acked ≤ 32768
      · rw [show nbV num acked = 2 by unfold nbV; rw [if_neg h, if_neg d1, if_pos d2]]
        exact implNB_2 num acked w (by omega) (by omega) (by omega) (by omega) (by omega) d2
      · by_cases d3 : num - acked ≤ 8388608
        · rw [show nbV num acked = 3 by unfold nbV; rw [if_neg h, if_neg d1, if_neg d2, if_pos d3]]
          exact implNB_3 num acked w (by omega) (by omega) (by omega) (by omega) (by omega) d3
        · by_cases d4 : num - acked ≤ 2147483648
          · rw [show nbV num acked = 4 by unfold nbV; rw [if_neg h, if_neg d1, if_neg d2, if_neg d3, if_pos d4]]
            exact implNB_4 num acked w (by omega) (by omega) (by omega) (by omega) (by omega) d4
          · rw [show nbV num acked = 0 by unfold nbV; rw [if_neg h, if_neg d1, if_neg d2, if_neg d3, if_neg d4]]
            exact implNB_0 num acked w (by omega) (by omega) (by omega) (by omega) (by omega)
end Go.Proofs.Ytnafmmlikmppjab
