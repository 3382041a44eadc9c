import Derived.Test.YtnafmmlikmppjabNear
namespace Go.Proofs.Ytnafmmlikmppjab
open Go.RowKit
set_option linter.unusedVariables false

set_option maxHeartbeats 400000 in
theorem implEx_1a (l c : Int) (w : World) (h0 : -1 ≤ l) (h1 : l ≤ 4611686018427387903) (c0 : 0 ≤ c) (c1 : c < 256) (ha : (l + 1) - (l + 1) % 256 + c ≤ l + 1 - 128) (hb : (l + 1) - (l + 1) % 256 + c + 256 ≤ 4611686018427387903) :
    Calls Try.prog 9 #[.int .i64 l, .int .i64 c, .int .i64 1] w fun r w' => r = .returned (.int .i64 ((l + 1) - (l + 1) % 256 + c + 256)) ∧ w' = w := by
  have n := fun w => near_1a (l + 1) c w (by omega) (by omega) c0 c1 (by omega) (by omega)
  go_enter Try.func9, Try.ntmps9
  go_wp2_with (first
    | (go_at_call 17; refine (valid_ok 1 _ (by decide) (by decide)).mono ?_; rintro e w' ⟨rfl, rfl⟩)
    | (go_at_call 18; refine (maskw_1 _).mono ?_; rintro e w' ⟨rfl, rfl⟩)
    | (go_at_call 19; refine (n _).mono ?_; rintro e w' ⟨rfl, rfl⟩))
  go_ret
  exact ⟨rfl, rfl⟩
set_option maxHeartbeats 400000 in
theorem implEx_1b (l c : Int) (w : World) (h0 : -1 ≤ l) (h1 : l ≤ 4611686018427387903) (c0 : 0 ≤ c) (c1 : c < 256) (ha : (l + 1) - (l + 1) % 256 + c ≤ l + 1 - 128) (hb : 4611686018427387903 < (l + 1) - (l + 1) % 256 + c + 256) :
    Calls Try.prog 9 #[.int .i64 l, .int .i64 c, .int .i64 1] w fun r w' => r = .returned (.int .i64 ((l + 1) - (l + 1) % 256 + c)) ∧ w' = w := by
  have n := fun w => near_1b (l + 1) c w (by omega) (by omega) c0 c1 (by omega) (by omega)
  go_enter Try.func9, Try.ntmps9
  go_wp2_with (first
    | (go_at_call 17; refine (valid_ok 1 _ (by decide) (by decide)).mono ?_; rintro e w' ⟨rfl, rfl⟩)
    | (go_at_call 18; refine (maskw_1 _).mono ?_; rintro e w' ⟨rfl, rfl⟩)
    | (go_at_call 19; refine (n _).mono ?_; rintro e w' ⟨rfl, rfl⟩))
  go_ret
  exact ⟨rfl, rfl⟩
set_option maxHeartbeats 400000 in
theorem implEx_1c (l c : Int) (w : World) (h0 : -1 ≤ l) (h1 : l ≤ 4611686018427387903) (c0 : 0 ≤ c) (c1 : c < 256) (ha : l + 1 - 128 < (l + 1) - (l + 1) % 256 + c) (hb : (l + 1) - (l + 1) % 256 + c ≤ l + 1 + 128) (hm : (l + 1) - (l + 1) % 256 + c ≤ 4611686018427387903) :
    Calls Try.prog 9 #[.int .i64 l, .int .i64 c, .int .i64 1] w fun r w' => r = .returned (.int .i64 ((l + 1) - (l + 1) % 256 + c)) ∧ w' = w := by
  have n := fun w => near_1c (l + 1) c w (by omega) (by omega) c0 c1 (by omega) (by omega)
  go_enter Try.func9, Try.ntmps9
  go_wp2_with (first
    | (go_at_call 17; refine (valid_ok 1 _ (by decide) (by decide)).mono ?_; rintro e w' ⟨rfl, rfl⟩)
    | (go_at_call 18; refine (maskw_1 _).mono ?_; rintro e w' ⟨rfl, rfl⟩)
    | (go_at_call 19; refine (n _).mono ?_; rintro e w' ⟨rfl, rfl⟩))
  go_ret
  exact ⟨rfl, rfl⟩
set_option maxHeartbeats 400000 in
theorem implEx_1d (l c : Int) (w : World) (h0 : -1 ≤ l) (h1 : l ≤ 4611686018427387903) (c0 : 0 ≤ c) (c1 : c < 256) (ha : l + 1 + 128 < (l + 1) - (l + 1) % 256 + c) (hb : 256 ≤ (l + 1) - (l + 1) % 256 + c) :
    Calls Try.prog 9 #[.int .i64 l, .int .i64 c, .int .i64 1] w fun r w' => r = .returned (.int .i64 ((l + 1) - (l + 1) % 256 + c - 256)) ∧ w' = w := by
  have n := fun w => near_1d (l + 1) c w (by omega) (by omega) c0 c1 (by omega) (by omega)
  go_enter Try.func9, Try.ntmps9
  go_wp2_with (first
    | (go_at_call 17; refine (valid_ok 1 _ (by decide) (by decide)).mono ?_; rintro e w' ⟨rfl, rfl⟩)
    | (go_at_call 18; refine (maskw_1 _).mono ?_; rintro e w' ⟨rfl, rfl⟩)
    | (go_at_call 19; refine (n _).mono ?_; rintro e w' ⟨rfl, rfl⟩))
  go_ret
  exact ⟨rfl, rfl⟩
set_option maxHeartbeats 400000 in
theorem implEx_1e (l c : Int) (w : World) (h0 : -1 ≤ l) (h1 : l ≤ 4611686018427387903) (c0 : 0 ≤ c) (c1 : c < 256) (ha : l + 1 + 128 < (l + 1) - (l + 1) % 256 + c) (hb : (l + 1) - (l + 1) % 256 + c < 256) :
    Calls Try.prog 9 #[.int .i64 l, .int .i64 c, .int .i64 1] w fun r w' => r = .returned (.int .i64 ((l + 1) - (l + 1) % 256 + c)) ∧ w' = w := by
  have n := fun w => near_1e (l + 1) c w (by omega) (by omega) c0 c1 (by omega) (by omega)
  go_enter Try.func9, Try.ntmps9
  go_wp2_with (first
    | (go_at_call 17; refine (valid_ok 1 _ (by decide) (by decide)).mono ?_; rintro e w' ⟨rfl, rfl⟩)
    | (go_at_call 18; refine (maskw_1 _).mono ?_; rintro e w' ⟨rfl, rfl⟩)
    | (go_at_call 19; refine (n _).mono ?_; rintro e w' ⟨rfl, rfl⟩))
  go_ret
  exact ⟨rfl, rfl⟩
set_option maxHeartbeats 400000 in
theorem implEx_1f (l c : Int) (w : World) (h0 : -1 ≤ l) (h1 : l ≤ 4611686018427387903) (c0 : 0 ≤ c) (c1 : c < 256) (ha : l + 1 - 128 < (l + 1) - (l + 1) % 256 + c) (hb : (l + 1) - (l + 1) % 256 + c ≤ l + 1 + 128) (hm : 4611686018427387903 < (l + 1) - (l + 1) % 256 + c) :
    Calls Try.prog 9 #[.int .i64 l, .int .i64 c, .int .i64 1] w fun r w' => r = .returned (.int .i64 (-1)) ∧ w' = w := by
  have n := fun w => near_1c (l + 1) c w (by omega) (by omega) c0 c1 (by omega) (by omega)
  go_enter Try.func9, Try.ntmps9
  go_wp2_with (first
    | (go_at_call 17; refine (valid_ok 1 _ (by decide) (by decide)).mono ?_; rintro e w' ⟨rfl, rfl⟩)
    | (go_at_call 18; refine (maskw_1 _).mono ?_; rintro e w' ⟨rfl, rfl⟩)
    | (go_at_call 19; refine (n _).mono ?_; rintro e w' ⟨rfl, rfl⟩))
  go_ret
  exact ⟨rfl, rfl⟩
set_option maxHeartbeats 400000 in
theorem implEx_2a (l c : Int) (w : World) (h0 : -1 ≤ l) (h1 : l ≤ 4611686018427387903) (c0 : 0 ≤ c) (c1 : c < 65536) (ha : (l + 1) - (l + 1) % 65536 + c ≤ l + 1 - 32768) (hb : (l + 1) - (l + 1) % 65536 + c + 65536 ≤ 4611686018427387903) :
    Calls Try.prog 9 #[.int .i64 l, .int .i64 c, .int .i64 2] w fun r w' => r = .returned (.int .i64 ((l + 1) - (l + 1) % 65536 + c + 65536)) ∧ w' = w := by
  have n := fun w => near_2a (l + 1) c w (by omega) (by omega) c0 c1 (by omega) (by omega)
  go_enter Try.func9, Try.ntmps9
  go_wp2_with (first
    | (go_at_call 17; refine (valid_ok 2 _ (by decide) (by decide)).mono ?_; rintro e w' ⟨rfl, rfl⟩)
    | (go_at_call 18; refine (maskw_2 _).mono ?_; rintro e w' ⟨rfl, rfl⟩)
    | (go_at_call 19; refine (n _).mono ?_; rintro e w' ⟨rfl, rfl⟩))
  go_ret
  exact ⟨rfl, rfl⟩
set_option maxHeartbeats 400000 in
theorem implEx_2b (l c : Int) (w : World) (h0 : -1 ≤ l) (h1 : l ≤ 4611686018427387903) (c0 : 0 ≤ c) (c1 : c < 65536) (ha : (l + 1) - (l + 1) % 65536 + c ≤ l + 1 - 32768) (hb : 4611686018427387903 < (l + 1) - (l + 1) % 65536 + c + 65536) :
    Calls Try.prog 9 #[.int .i64 l, .int .i64 c, .int .i64 2] w fun r w' => r = .returned (.int .i64 ((l + 1) - (l + 1) % 65536 + c)) ∧ w' = w := by
  have n := fun w => near_2b (l + 1) c w (by omega) (by omega) c0 c1 (by omega) (by omega)
  go_enter Try.func9, Try.ntmps9
  go_wp2_with (first
    | (go_at_call 17; refine (valid_ok 2 _ (by decide) (by decide)).mono ?_; rintro e w' ⟨rfl, rfl⟩)
    | (go_at_call 18; refine (maskw_2 _).mono ?_; rintro e w' ⟨rfl, rfl⟩)
    | (go_at_call 19; refine (n _).mono ?_; rintro e w' ⟨rfl, rfl⟩))
  go_ret
  exact ⟨rfl, rfl⟩
set_option maxHeartbeats 400000 in
theorem implEx_2c (l c : Int) (w : World) (h0 : -1 ≤ l) (h1 : l ≤ 4611686018427387903) (c0 : 0 ≤ c) (c1 : c < 65536) (ha : l + 1 - 32768 < (l + 1) - (l + 1) % 65536 + c) (hb : (l + 1) - (l + 1) % 65536 + c ≤ l + 1 + 32768) (hm : (l + 1) - (l + 1) % 65536 + c ≤ 4611686018427387903) :
    Calls Try.prog 9 #[.int .i64 l, .int .i64 c, .int .i64 2] w fun r w' => r = .returned (.int .i64 ((l + 1) - (l + 1) % 65536 + c)) ∧ w' = w := by
  have n := fun w => near_2c (l + 1) c w (by omega) (by omega) c0 c1 (by omega) (by omega)
  go_enter Try.func9, Try.ntmps9
  go_wp2_with (first
    | (go_at_call 17; refine (valid_ok 2 _ (by decide) (by decide)).mono ?_; rintro e w' ⟨rfl, rfl⟩)
    | (go_at_call 18; refine (maskw_2 _).mono ?_; rintro e w' ⟨rfl, rfl⟩)
    | (go_at_call 19; refine (n _).mono ?_; rintro e w' ⟨rfl, rfl⟩))
  go_ret
  exact ⟨rfl, rfl⟩
set_option maxHeartbeats 400000 in
theorem implEx_2d (l c : Int) (w : World) (h0 : -1 ≤ l) (h1 : l ≤ 4611686018427387903) (c0 : 0 ≤ c) (c1 : c < 65536) (ha : l + 1 + 32768 < (l + 1) - (l + 1) % 65536 + c) (hb : 65536 ≤ (l + 1) - (l + 1) % 65536 + c) :
    Calls Try.prog 9 #[.int .i64 l, .int .i64 c, .int .i64 2] w fun r w' => r = .returned (.int .i64 ((l + 1) - (l + 1) % 65536 + c - 65536)) ∧ w' = w := by
  have n := fun w => near_2d (l + 1) c w (by omega) (by omega) c0 c1 (by omega) (by omega)
  go_enter Try.func9, Try.ntmps9
  go_wp2_with (first
    | (go_at_call 17; refine (valid_ok 2 _ (by decide) (by decide)).mono ?_; rintro e w' ⟨rfl, rfl⟩)
    | (go_at_call 18; refine (maskw_2 _).mono ?_; rintro e w' ⟨rfl, rfl⟩)
    | (go_at_call 19; refine (n _).mono ?_; rintro e w' ⟨rfl, rfl⟩))
  go_ret
  exact ⟨rfl, rfl⟩
set_option maxHeartbeats 400000 in
theorem implEx_2e (l c : Int) (w : World) (h0 : -1 ≤ l) (h1 : l ≤ 4611686018427387903) (c0 : 0 ≤ c) (c1 : c < 65536) (ha : l + 1 + 32768 < (l + 1) - (l + 1) % 65536 + c) (hb : (l + 1) - (l + 1) % 65536 + c < 65536) :
    Calls Try.prog 9 #[.int .i64 l, .int .i64 c, .int .i64 2] w fun r w' => r = .returned (.int .i64 ((l + 1) - (l + 1) % 65536 + c)) ∧ w' = w := by
  have n := fun w => near_2e (l + 1) c w (by omega) (by omega) c0 c1 (by omega) (by omega)
  go_enter Try.func9, Try.ntmps9
  go_wp2_with (first
    | (go_at_call 17; refine (valid_ok 2 _ (by decide) (by decide)).mono ?_; rintro e w' ⟨rfl, rfl⟩)
    | (go_at_call 18; refine (maskw_2 _).mono ?_; rintro e w' ⟨rfl, rfl⟩)
    | (go_at_call 19; refine (n _).mono ?_; rintro e w' ⟨rfl, rfl⟩))
  go_ret
  exact ⟨rfl, rfl⟩
set_option maxHeartbeats 400000 in
theorem implEx_2f (l c : Int) (w : World) (h0 : -1 ≤ l) (h1 : l ≤ 4611686018427387903) (c0 : 0 ≤ c) (c1 : c < 65536) (ha : l + 1 - 32768 < (l + 1) - (l + 1) % 65536 + c) (hb : (l + 1) - (l + 1) % 65536 + c ≤ l + 1 + 32768) (hm : 4611686018427387903 < (l + 1) - (l + 1) % 65536 + c) :
    Calls Try.prog 9 #[.int .i64 l, .int .i64 c, .int .i64 2] w fun r w' => r = .returned (.int .i64 (-1)) ∧ w' = w := by
  have n := fun w => near_2c (l + 1) c w (by omega) (by omega) c0 c1 (by omega) (by omega)
  go_enter Try.func9, Try.ntmps9
  go_wp2_with (first
    | (go_at_call 17; refine (valid_ok 2 _ (by decide) (by decide)).mono ?_; rintro e w' ⟨rfl, rfl⟩)
    | (go_at_call 18; refine (maskw_2 _).mono ?_; rintro e w' ⟨rfl, rfl⟩)
    | (go_at_call 19; refine (n _).mono ?_; rintro e w' ⟨rfl, rfl⟩))
  go_ret
  exact ⟨rfl, rfl⟩
set_option maxHeartbeats 400000 in
theorem implEx_3a (l c : Int) (w : World) (h0 : -1 ≤ l) (h1 : l ≤ 4611686018427387903) (c0 : 0 ≤ c) (c1 : c < 16777216) (ha : (l + 1) - (l + 1) % 16777216 + c ≤ l + 1 - 8388608) (hb : (l + 1) - (l + 1) % 16777216 + c + 16777216 ≤ 4611686018427387903) :
    Calls Try.prog 9 #[.int .i64 l, .int .i64 c, .int .i64 3] w fun r w' => r = .returned (.int .i64 ((l + 1) - (l + 1) % 16777216 + c + 16777216)) ∧ w' = w := by
  have n := fun w => near_3a (l + 1) c w (by omega) (by omega) c0 c1 (by omega) (by omega)
  go_enter Try.func9, Try.ntmps9
  go_wp2_with (first
    | (go_at_call 17; refine (valid_ok 3 _ (by decide) (by decide)).mono ?_; rintro e w' ⟨rfl, rfl⟩)
    | (go_at_call 18; refine (maskw_3 _).mono ?_; rintro e w' ⟨rfl, rfl⟩)
    | (go_at_call 19; refine (n _).mono ?_; rintro e w' ⟨rfl, rfl⟩))
  go_ret
  exact ⟨rfl, rfl⟩
set_option maxHeartbeats 400000 in
theorem implEx_3b (l c : Int) (w : World) (h0 : -1 ≤ l) (h1 : l ≤ 4611686018427387903) (c0 : 0 ≤ c) (c1 : c < 16777216) (ha : (l + 1) - (l + 1) % 16777216 + c ≤ l + 1 - 8388608) (hb : 4611686018427387903 < (l + 1) - (l + 1) % 16777216 + c + 16777216) :
    Calls Try.prog 9 #[.int .i64 l, .int .i64 c, .int .i64 3] w fun r w' => r = .returned (.int .i64 ((l + 1) - (l + 1) % 16777216 + c)) ∧ w' = w := by
  have n := fun w => near_3b (l + 1) c w (by omega) (by omega) c0 c1 (by omega) (by omega)
  go_enter Try.func9, Try.ntmps9
  go_wp2_with (first
    | (go_at_call 17; refine (valid_ok 3 _ (by decide) (by decide)).mono ?_; rintro e w' ⟨rfl, rfl⟩)
    | (go_at_call 18; refine (maskw_3 _).mono ?_; rintro e w' ⟨rfl, rfl⟩)
    | (go_at_call 19; refine (n _).mono ?_; rintro e w' ⟨rfl, rfl⟩))
  go_ret
  exact ⟨rfl, rfl⟩
set_option maxHeartbeats 400000 in
theorem implEx_3c (l c : Int) (w : World) (h0 : -1 ≤ l) (h1 : l ≤ 4611686018427387903) (c0 : 0 ≤ c) (c1 : c < 16777216) (ha : l + 1 - 8388608 < (l + 1) - (l + 1) % 16777216 + c) (hb : (l + 1) - (l + 1) % 16777216 + c ≤ l + 1 + 8388608) (hm : (l + 1) - (l + 1) % 16777216 + c ≤ 4611686018427387903) :
    Calls Try.prog 9 #[.int .i64 l, .int .i64 c, .int .i64 3] w fun r w' => r = .returned (.int .i64 ((l + 1) - (l + 1) % 16777216 + c)) ∧ w' = w := by
  have n := fun w => near_3c (l + 1) c w (by omega) (by omega) c0 c1 (by omega) (by omega)
  go_enter Try.func9, Try.ntmps9
  go_wp2_with (first
    | (go_at_call 17; refine (valid_ok 3 _ (by decide) (by decide)).mono ?_; rintro e w' ⟨rfl, rfl⟩)
    | (go_at_call 18; refine (maskw_3 _).mono ?_; rintro e w' ⟨rfl, rfl⟩)
    | (go_at_call 19; refine (n _).mono ?_; rintro e w' ⟨rfl, rfl⟩))
  go_ret
  exact ⟨rfl, rfl⟩
set_option maxHeartbeats 400000 in
theorem implEx_3d (l c : Int) (w : World) (h0 : -1 ≤ l) (h1 : l ≤ 4611686018427387903) (c0 : 0 ≤ c) (c1 : c < 16777216) (ha : l + 1 + 8388608 < (l + 1) - (l + 1) % 16777216 + c) (hb : 16777216 ≤ (l + 1) - (l + 1) % 16777216 + c) :
    Calls Try.prog 9 #[.int .i64 l, .int .i64 c, .int .i64 3] w fun r w' => r = .returned (.int .i64 ((l + 1) - (l + 1) % 16777216 + c - 16777216)) ∧ w' = w := by
  have n := fun w => near_3d (l + 1) c w (by omega) (by omega) c0 c1 (by omega) (by omega)
  go_enter Try.func9, Try.ntmps9
  go_wp2_with (first
    | (go_at_call 17; refine (valid_ok 3 _ (by decide) (by decide)).mono ?_; rintro e w' ⟨rfl, rfl⟩)
    | (go_at_call 18; refine (maskw_3 _).mono ?_; rintro e w' ⟨rfl, rfl⟩)
    | (go_at_call 19; refine (n _).mono ?_; rintro e w' ⟨rfl, rfl⟩))
  go_ret
  exact ⟨rfl, rfl⟩
set_option maxHeartbeats 400000 in
theorem implEx_3e (l c : Int) (w : World) (h0 : -1 ≤ l) (h1 : l ≤ 4611686018427387903) (c0 : 0 ≤ c) (c1 : c < 16777216) (ha : l + 1 + 8388608 < (l + 1) - (l + 1) % 16777216 + c) (hb : (l + 1) - (l + 1) % 16777216 + c < 16777216) :
    Calls Try.prog 9 #[.int .i64 l, .int .i64 c, .int .i64 3] w fun r w' => r = .returned (.int .i64 ((l + 1) - (l + 1) % 16777216 + c)) ∧ w' = w := by
  have n := fun w => near_3e (l + 1) c w (by omega) (by omega) c0 c1 (by omega) (by omega)
  go_enter Try.func9, Try.ntmps9
  go_wp2_with (first
    | (go_at_call 17; refine (valid_ok 3 _ (by decide) (by decide)).mono ?_; rintro e w' ⟨rfl, rfl⟩)
    | (go_at_call 18; refine (maskw_3 _).mono ?_; rintro e w' ⟨rfl, rfl⟩)
    | (go_at_call 19; refine (n _).mono ?_; rintro e w' ⟨rfl, rfl⟩))
  go_ret
  exact ⟨rfl, rfl⟩
set_option maxHeartbeats 400000 in
theorem implEx_3f (l c : Int) (w : World) (h0 : -1 ≤ l) (h1 : l ≤ 4611686018427387903) (c0 : 0 ≤ c) (c1 : c < 16777216) (ha : l + 1 - 8388608 < (l + 1) - (l + 1) % 16777216 + c) (hb : (l + 1) - (l + 1) % 16777216 + c ≤ l + 1 + 8388608) (hm : 4611686018427387903 < (l + 1) - (l + 1) % 16777216 + c) :
    Calls Try.prog 9 #[.int .i64 l, .int .i64 c, .int .i64 3] w fun r w' => r = .returned (.int .i64 (-1)) ∧ w' = w := by
  have n := fun w => near_3c (l + 1) c w (by omega) (by omega) c0 c1 (by omega) (by omega)
  go_enter Try.func9, Try.ntmps9
  go_wp2_with (first
    | (go_at_call 17; refine (valid_ok 3 _ (by decide) (by decide)).mono ?_; rintro e w' ⟨rfl, rfl⟩)
    | (go_at_call 18; refine (maskw_3 _).mono ?_; rintro e w' ⟨rfl, rfl⟩)
    | (go_at_call 19; refine (n _).mono ?_; rintro e w' ⟨rfl, rfl⟩))
  go_ret
  exact ⟨rfl, rfl⟩
set_option maxHeartbeats 400000 in
theorem implEx_4a (l c : Int) (w : World) (h0 : -1 ≤ l) (h1 : l ≤ 4611686018427387903) (c0 : 0 ≤ c) (c1 : c < 4294967296) (ha : (l + 1) - (l + 1) % 4294967296 + c ≤ l + 1 - 2147483648) (hb : (l + 1) - (l + 1) % 4294967296 + c + 4294967296 ≤ 4611686018427387903) :
    Calls Try.prog 9 #[.int .i64 l, .int .i64 c, .int .i64 4] w fun r w' => r = .returned (.int .i64 ((l + 1) - (l + 1) % 4294967296 + c + 4294967296)) ∧ w' = w := by
  have n := fun w => near_4a (l + 1) c w (by omega) (by omega) c0 c1 (by omega) (by omega)
  go_enter Try.func9, Try.ntmps9
  go_wp2_with (first
    | (go_at_call 17; refine (valid_ok 4 _ (by decide) (by decide)).mono ?_; rintro e w' ⟨rfl, rfl⟩)
    | (go_at_call 18; refine (maskw_4 _).mono ?_; rintro e w' ⟨rfl, rfl⟩)
    | (go_at_call 19; refine (n _).mono ?_; rintro e w' ⟨rfl, rfl⟩))
  go_ret
  exact ⟨rfl, rfl⟩
set_option maxHeartbeats 400000 in
theorem implEx_4b (l c : Int) (w : World) (h0 : -1 ≤ l) (h1 : l ≤ 4611686018427387903) (c0 : 0 ≤ c) (c1 : c < 4294967296) (ha : (l + 1) - (l + 1) % 4294967296 + c ≤ l + 1 - 2147483648) (hb : 4611686018427387903 < (l + 1) - (l + 1) % 4294967296 + c + 4294967296) :
    Calls Try.prog 9 #[.int .i64 l, .int .i64 c, .int .i64 4] w fun r w' => r = .returned (.int .i64 ((l + 1) - (l + 1) % 4294967296 + c)) ∧ w' = w := by
  have n := fun w => near_4b (l + 1) c w (by omega) (by omega) c0 c1 (by omega) (by omega)
  go_enter Try.func9, Try.ntmps9
  go_wp2_with (first
    | (go_at_call 17; refine (valid_ok 4 _ (by decide) (by decide)).mono ?_; rintro e w' ⟨rfl, rfl⟩)
    | (go_at_call 18; refine (maskw_4 _).mono ?_; rintro e w' ⟨rfl, rfl⟩)
    | (go_at_call 19; refine (n _).mono ?_; rintro e w' ⟨rfl, rfl⟩))
  go_ret
  exact ⟨rfl, rfl⟩
set_option maxHeartbeats 400000 in
theorem implEx_4c (l c : Int) (w : World) (h0 : -1 ≤ l) (h1 : l ≤ 4611686018427387903) (c0 : 0 ≤ c) (c1 : c < 4294967296) (ha : l + 1 - 2147483648 < (l + 1) - (l + 1) % 4294967296 + c) (hb : (l + 1) - (l + 1) % 4294967296 + c ≤ l + 1 + 2147483648) (hm : (l + 1) - (l + 1) % 4294967296 + c ≤ 4611686018427387903) :
    Calls Try.prog 9 #[.int .i64 l, .int .i64 c, .int .i64 4] w fun r w' => r = .returned (.int .i64 ((l + 1) - (l + 1) % 4294967296 + c)) ∧ w' = w := by
  have n := fun w => near_4c (l + 1) c w (by omega) (by omega) c0 c1 (by omega) (by omega)
  go_enter Try.func9, Try.ntmps9
  go_wp2_with (first
    | (go_at_call 17; refine (valid_ok 4 _ (by decide) (by decide)).mono ?_; rintro e w' ⟨rfl, rfl⟩)
    | (go_at_call 18; refine (maskw_4 _).mono ?_; rintro e w' ⟨rfl, rfl⟩)
    | (go_at_call 19; refine (n _).mono ?_; rintro e w' ⟨rfl, rfl⟩))
  go_ret
  exact ⟨rfl, rfl⟩
set_option maxHeartbeats 400000 in
theorem implEx_4d (l c : Int) (w : World) (h0 : -1 ≤ l) (h1 : l ≤ 4611686018427387903) (c0 : 0 ≤ c) (c1 : c < 4294967296) (ha : l + 1 + 2147483648 < (l + 1) - (l + 1) % 4294967296 + c) (hb : 4294967296 ≤ (l + 1) - (l + 1) % 4294967296 + c) :
    Calls Try.prog 9 #[.int .i64 l, .int .i64 c, .int .i64 4] w fun r w' => r = .returned (.int .i64 ((l + 1) - (l + 1) % 4294967296 + c - 4294967296)) ∧ w' = w := by
  have n := fun w => near_4d (l + 1) c w (by omega) (by omega) c0 c1 (by omega) (by omega)
  go_enter Try.func9, Try.ntmps9
  go_wp2_with (first
    | (go_at_call 17; refine (valid_ok 4 _ (by decide) (by decide)).mono ?_; rintro e w' ⟨rfl, rfl⟩)
    | (go_at_call 18; refine (maskw_4 _).mono ?_; rintro e w' ⟨rfl, rfl⟩)
    | (go_at_call 19; refine (n _).mono ?_; rintro e w' ⟨rfl, rfl⟩))
  go_ret
  exact ⟨rfl, rfl⟩
set_option maxHeartbeats 400000 in
theorem implEx_4e (l c : Int) (w : World) (h0 : -1 ≤ l) (h1 : l ≤ 4611686018427387903) (c0 : 0 ≤ c) (c1 : c < 4294967296) (ha : l + 1 + 2147483648 < (l + 1) - (l + 1) % 4294967296 + c) (hb : (l + 1) - (l + 1) % 4294967296 + c < 4294967296) :
    Calls Try.prog 9 #[.int .i64 l, .int .i64 c, .int .i64 4] w fun r w' => r = .returned (.int .i64 ((l + 1) - (l + 1) % 4294967296 + c)) ∧ w' = w := by
  have n := fun w => near_4e (l + 1) c w (by omega) (by omega) c0 c1 (by omega) (by omega)
  go_enter Try.func9, Try.ntmps9
  go_wp2_with (first
    | (go_at_call 17; refine (valid_ok 4 _ (by decide) (by decide)).mono ?_; rintro e w' ⟨rfl, rfl⟩)
    | (go_at_call 18; refine (maskw_4 _).mono ?_; rintro e w' ⟨rfl, rfl⟩)
    | (go_at_call 19; refine (n _).mono ?_; rintro e w' ⟨rfl, rfl⟩))
  go_ret
  exact ⟨rfl, rfl⟩
set_option maxHeartbeats 400000 in
theorem implEx_4f (l c : Int) (w : World) (h0 : -1 ≤ l) (h1 : l ≤ 4611686018427387903) (c0 : 0 ≤ c) (c1 : c < 4294967296) (ha : l + 1 - 2147483648 < (l + 1) - (l + 1) % 4294967296 + c) (hb : (l + 1) - (l + 1) % 4294967296 + c ≤ l + 1 + 2147483648) (hm : 4611686018427387903 < (l + 1) - (l + 1) % 4294967296 + c) :
    Calls Try.prog 9 #[.int .i64 l, .int .i64 c, .int .i64 4] w fun r w' => r = .returned (.int .i64 (-1)) ∧ w' = w := by
  have n := fun w => near_4c (l + 1) c w (by omega) (by omega) c0 c1 (by omega) (by omega)
  go_enter Try.func9, Try.ntmps9
  go_wp2_with (first
    | (go_at_call 17; refine (valid_ok 4 _ (by decide) (by decide)).mono ?_; rintro e w' ⟨rfl, rfl⟩)
    | (go_at_call 18; refine (maskw_4 _).mono ?_; rintro e w' ⟨rfl, rfl⟩)
    | (go_at_call 19; refine (n _).mono ?_; rintro e w' ⟨rfl, rfl⟩))
  go_ret
  exact ⟨rfl, rfl⟩
theorem implEx_1n (l c : Int) (w : World) (h0 : -1 ≤ l) (h1 : l ≤ 4611686018427387903) (c0 : c < 0) :
    Calls Try.prog 9 #[.int .i64 l, .int .i64 c, .int .i64 1] w fun r w' => r = .returned (.int .i64 (-1)) ∧ w' = w := by
  go_enter Try.func9, Try.ntmps9
  go_wp2_with (first
    | (go_at_call 17; refine (valid_ok 1 _ (by decide) (by decide)).mono ?_; rintro e w' ⟨rfl, rfl⟩)
    | (go_at_call 18; refine (maskw_1 _).mono ?_; rintro e w' ⟨rfl, rfl⟩))
  go_ret
  exact ⟨rfl, rfl⟩
theorem implEx_1p (l c : Int) (w : World) (h0 : -1 ≤ l) (h1 : l ≤ 4611686018427387903) (c0 : 0 ≤ c) (c1 : 256 ≤ c) (c2 : c ≤ 9223372036854775807) :
    Calls Try.prog 9 #[.int .i64 l, .int .i64 c, .int .i64 1] w fun r w' => r = .returned (.int .i64 (-1)) ∧ w' = w := by
  go_enter Try.func9, Try.ntmps9
  go_wp2_with (first
    | (go_at_call 17; refine (valid_ok 1 _ (by decide) (by decide)).mono ?_; rintro e w' ⟨rfl, rfl⟩)
    | (go_at_call 18; refine (maskw_1 _).mono ?_; rintro e w' ⟨rfl, rfl⟩))
  go_ret
  exact ⟨rfl, rfl⟩
theorem implEx_2n (l c : Int) (w : World) (h0 : -1 ≤ l) (h1 : l ≤ 4611686018427387903) (c0 : c < 0) :
    Calls Try.prog 9 #[.int .i64 l, .int .i64 c, .int .i64 2] w fun r w' => r = .returned (.int .i64 (-1)) ∧ w' = w := by
  go_enter Try.func9, Try.ntmps9
  go_wp2_with (first
    | (go_at_call 17; refine (valid_ok 2 _ (by decide) (by decide)).mono ?_; rintro e w' ⟨rfl, rfl⟩)
    | (go_at_call 18; refine (maskw_2 _).mono ?_; rintro e w' ⟨rfl, rfl⟩))
  go_ret
  exact ⟨rfl, rfl⟩
theorem implEx_2p (l c : Int) (w : World) (h0 : -1 ≤ l) (h1 : l ≤ 4611686018427387903) (c0 : 0 ≤ c) (c1 : 65536 ≤ c) (c2 : c ≤ 9223372036854775807) :
    Calls Try.prog 9 #[.int .i64 l, .int .i64 c, .int .i64 2] w fun r w' => r = .returned (.int .i64 (-1)) ∧ w' = w := by
  go_enter Try.func9, Try.ntmps9
  go_wp2_with (first
    | (go_at_call 17; refine (valid_ok 2 _ (by decide) (by decide)).mono ?_; rintro e w' ⟨rfl, rfl⟩)
    | (go_at_call 18; refine (maskw_2 _).mono ?_; rintro e w' ⟨rfl, rfl⟩))
  go_ret
  exact ⟨rfl, rfl⟩
theorem implEx_3n (l c : Int) (w : World) (h0 : -1 ≤ l) (h1 : l ≤ 4611686018427387903) (c0 : c < 0) :
    Calls Try.prog 9 #[.int .i64 l, .int .i64 c, .int .i64 3] w fun r w' => r = .returned (.int .i64 (-1)) ∧ w' = w := by
  go_enter Try.func9, Try.ntmps9
  go_wp2_with (first
    | (go_at_call 17; refine (valid_ok 3 _ (by decide) (by decide)).mono ?_; rintro e w' ⟨rfl, rfl⟩)
    | (go_at_call 18; refine (maskw_3 _).mono ?_; rintro e w' ⟨rfl, rfl⟩))
  go_ret
  exact ⟨rfl, rfl⟩
theorem implEx_3p (l c : Int) (w : World) (h0 : -1 ≤ l) (h1 : l ≤ 4611686018427387903) (c0 : 0 ≤ c) (c1 : 16777216 ≤ c) (c2 : c ≤ 9223372036854775807) :
    Calls Try.prog 9 #[.int .i64 l, .int .i64 c, .int .i64 3] w fun r w' => r = .returned (.int .i64 (-1)) ∧ w' = w := by
  go_enter Try.func9, Try.ntmps9
  go_wp2_with (first
    | (go_at_call 17; refine (valid_ok 3 _ (by decide) (by decide)).mono ?_; rintro e w' ⟨rfl, rfl⟩)
    | (go_at_call 18; refine (maskw_3 _).mono ?_; rintro e w' ⟨rfl, rfl⟩))
  go_ret
  exact ⟨rfl, rfl⟩
theorem implEx_4n (l c : Int) (w : World) (h0 : -1 ≤ l) (h1 : l ≤ 4611686018427387903) (c0 : c < 0) :
    Calls Try.prog 9 #[.int .i64 l, .int .i64 c, .int .i64 4] w fun r w' => r = .returned (.int .i64 (-1)) ∧ w' = w := by
  go_enter Try.func9, Try.ntmps9
  go_wp2_with (first
    | (go_at_call 17; refine (valid_ok 4 _ (by decide) (by decide)).mono ?_; rintro e w' ⟨rfl, rfl⟩)
    | (go_at_call 18; refine (maskw_4 _).mono ?_; rintro e w' ⟨rfl, rfl⟩))
  go_ret
  exact ⟨rfl, rfl⟩
theorem implEx_4p (l c : Int) (w : World) (h0 : -1 ≤ l) (h1 : l ≤ 4611686018427387903) (c0 : 0 ≤ c) (c1 : 4294967296 ≤ c) (c2 : c ≤ 9223372036854775807) :
    Calls Try.prog 9 #[.int .i64 l, .int .i64 c, .int .i64 4] w fun r w' => r = .returned (.int .i64 (-1)) ∧ w' = w := by
  go_enter Try.func9, Try.ntmps9
  go_wp2_with (first
    | (go_at_call 17; refine (valid_ok 4 _ (by decide) (by decide)).mono ?_; rintro e w' ⟨rfl, rfl⟩)
    | (go_at_call 18; refine (maskw_4 _).mono ?_; rintro e w' ⟨rfl, rfl⟩))
  go_ret
  exact ⟨rfl, rfl⟩
theorem implExBad (l c n : Int) (w : World) (h : l < -1 ∨ 4611686018427387903 < l ∨ n < 1 ∨ 4 < n) : Calls Try.prog 9 #[.int .i64 l, .int .i64 c, .int .i64 n] w fun r w' => r = .returned (.int .i64 (-1)) ∧ w' = w := by
  by_cases a : l < -1
  · clear h
    go_enter Try.func9, Try.ntmps9
    go_wp2
    go_ret
    exact ⟨rfl, rfl⟩
  · by_cases b : 4611686018427387903 < l
    · clear h
      go_enter Try.func9, Try.ntmps9
      go_wp2
      go_ret
      exact ⟨rfl, rfl⟩
    · have v := fun w => valid_not n w (by omega)
      clear h
      go_enter Try.func9, Try.ntmps9
      go_wp2_with (go_at_call 17; refine (v _).mono ?_; rintro e w' ⟨rfl, rfl⟩)
      go_ret
      exact ⟨rfl, rfl⟩
theorem implEx_1 (l c : Int) (w : World) (h0 : -1 ≤ l) (h1 : l ≤ 4611686018427387903) (c0 : 0 ≤ c) (c1 : c < 256) :
    Calls Try.prog 9 #[.int .i64 l, .int .i64 c, .int .i64 1] w fun r w' => r = .returned (.int .i64 (exV (l + 1) c 256)) ∧ w' = w := by
  by_cases a : (l + 1) - (l + 1) % 256 + c ≤ l + 1 - 128
  · by_cases b : (l + 1) - (l + 1) % 256 + c + 256 ≤ 4611686018427387903
    · rw [show exV (l + 1) c 256 = (l + 1) - (l + 1) % 256 + c + 256 by unfold exV; rw [if_pos (by omega)]]
      exact implEx_1a l c w h0 h1 c0 c1 a b
    · rw [show exV (l + 1) c 256 = (l + 1) - (l + 1) % 256 + c by unfold exV; rw [if_neg (by omega), if_neg (by omega), if_neg (by omega)]]
      exact implEx_1b l c w h0 h1 c0 c1 a (by omega)
  · by_cases b : (l + 1) - (l + 1) % 256 + c ≤ l + 1 + 128
    · by_cases m : (l + 1) - (l + 1) % 256 + c ≤ 4611686018427387903
      · rw [show exV (l + 1) c 256 = (l + 1) - (l + 1) % 256 + c by unfold exV; rw [if_neg (by omega), if_neg (by omega), if_neg (by omega)]]
        exact implEx_1c l c w h0 h1 c0 c1 (by omega) b m
      · rw [show exV (l + 1) c 256 = -1 by unfold exV; rw [if_neg (by omega), if_neg (by omega), if_pos (by omega)]]
        exact implEx_1f l c w h0 h1 c0 c1 (by omega) b (by omega)
    · by_cases d : 256 ≤ (l + 1) - (l + 1) % 256 + c
      · rw [show exV (l + 1) c 256 = (l + 1) - (l + 1) % 256 + c - 256 by unfold exV; rw [if_neg (by omega), if_pos (by omega)]]
        exact implEx_1d l c w h0 h1 c0 c1 (by omega) d
      · rw [show exV (l + 1) c 256 = (l + 1) - (l + 1) % 256 + c by unfold exV; rw [if_neg (by omega), if_neg (by omega), if_neg (by omega)]]
        exact implEx_1e l c w h0 h1 c0 c1 (by omega) (by omega)
theorem implEx_2 (l c : Int) (w : World) (h0 : -1 ≤ l) (h1 : l ≤ 4611686018427387903) (c0 : 0 ≤ c) (c1 : c < 65536) :
    Calls Try.prog 9 #[.int .i64 l, .int .i64 c, .int .i64 2] w fun r w' => r = .returned (.int .i64 (exV (l + 1) c 65536)) ∧ w' = w := by
  by_cases a : (l + 1) - (l + 1) % 65536 + c ≤ l + 1 - 32768
  · by_cases b : (l + 1) - (l + 1) % 65536 + c + 65536 ≤ 4611686018427387903
    · rw [show exV (l + 1) c 65536 = (l + 1) - (l + 1) % 65536 + c + 65536 by unfold exV; rw [if_pos (by omega)]]
      exact implEx_2a l c w h0 h1 c0 c1 a b
    · rw [show exV (l + 1) c 65536 = (l + 1) - (l + 1) % 65536 + c by unfold exV; rw [if_neg (by omega), if_neg (by omega), if_neg (by omega)]]
      exact implEx_2b l c w h0 h1 c0 c1 a (by omega)
  · by_cases b : (l + 1) - (l + 1) % 65536 + c ≤ l + 1 + 32768
    · by_cases m : (l + 1) - (l + 1) % 65536 + c ≤ 4611686018427387903
      · rw [show exV (l + 1) c 65536 = (l + 1) - (l + 1) % 65536 + c by unfold exV; rw [if_neg (by omega), if_neg (by omega), if_neg (by omega)]]
        exact implEx_2c l c w h0 h1 c0 c1 (by omega) b m
      · rw [show exV (l + 1) c 65536 = -1 by unfold exV; rw [if_neg (by omega), if_neg (by omega), if_pos (by omega)]]
        exact implEx_2f l c w h0 h1 c0 c1 (by omega) b (by omega)
    · by_cases d : 65536 ≤ (l + 1) - (l + 1) % 65536 + c
      · rw [show exV (l + 1) c 65536 = (l + 1) - (l + 1) % 65536 + c - 65536 by unfold exV; rw [if_neg (by omega), if_pos (by omega)]]
        exact implEx_2d l c w h0 h1 c0 c1 (by omega) d
      · rw [show exV (l + 1) c 65536 = (l + 1) - (l + 1) % 65536 + c by unfold exV; rw [if_neg (by omega), if_neg (by omega), if_neg (by omega)]]
        exact implEx_2e l c w h0 h1 c0 c1 (by omega) (by omega)
theorem implEx_3 (l c : Int) (w : World) (h0 : -1 ≤ l) (h1 : l ≤ 4611686018427387903) (c0 : 0 ≤ c) (c1 : c < 16777216) :
    Calls Try.prog 9 #[.int .i64 l, .int .i64 c, .int .i64 3] w fun r w' => r = .returned (.int .i64 (exV (l + 1) c 16777216)) ∧ w' = w := by
  by_cases a : (l + 1) - (l + 1) % 16777216 + c ≤ l + 1 - 8388608
  · by_cases b : (l + 1) - (l + 1) % 16777216 + c + 16777216 ≤ 4611686018427387903
    · rw [show exV (l + 1) c 16777216 = (l + 1) - (l + 1) % 16777216 + c + 16777216 by unfold exV; rw [if_pos (by omega)]]
      exact implEx_3a l c w h0 h1 c0 c1 a b
    · rw [show exV (l + 1) c 16777216 = (l + 1) - (l + 1) % 16777216 + c by unfold exV; rw [if_neg (by omega), if_neg (by omega), if_neg (by omega)]]
      exact implEx_3b l c w h0 h1 c0 c1 a (by omega)
  · by_cases b : (l + 1) - (l + 1) % 16777216 + c ≤ l + 1 + 8388608
    · by_cases m : (l + 1) - (l + 1) % 16777216 + c ≤ 4611686018427387903
      · rw [show exV (l + 1) c 16777216 = (l + 1) - (l + 1) % 16777216 + c by unfold exV; rw [if_neg (by omega), if_neg (by omega), if_neg (by omega)]]
        exact implEx_3c l c w h0 h1 c0 c1 (by omega) b m
      · rw [show exV (l + 1) c 16777216 = -1 by unfold exV; rw [if_neg (by omega), if_neg (by omega), if_pos (by omega)]]
        exact implEx_3f l c w h0 h1 c0 c1 (by omega) b (by omega)
    · by_cases d : 16777216 ≤ (l + 1) - (l + 1) % 16777216 + c
      · rw [show exV (l + 1) c 16777216 = (l + 1) - (l + 1) % 16777216 + c - 16777216 by unfold exV; rw [if_neg (by omega), if_pos (by omega)]]
        exact implEx_3d l c w h0 h1 c0 c1 (by omega) d
      · rw [show exV (l + 1) c 16777216 = (l + 1) - (l + 1) % 16777216 + c by unfold exV; rw [if_neg (by omega), if_neg (by omega), if_neg (by omega)]]
        exact implEx_3e l c w h0 h1 c0 c1 (by omega) (by omega)
theorem implEx_4 (l c : Int) (w : World) (h0 : -1 ≤ l) (h1 : l ≤ 4611686018427387903) (c0 : 0 ≤ c) (c1 : c < 4294967296) :
    Calls Try.prog 9 #[.int .i64 l, .int .i64 c, .int .i64 4] w fun r w' => r = .returned (.int .i64 (exV (l + 1) c 4294967296)) ∧ w' = w := by
  by_cases a : (l + 1) - (l + 1) % 4294967296 + c ≤ l + 1 - 2147483648
  · by_cases b : (l + 1) - (l + 1) % 4294967296 + c + 4294967296 ≤ 4611686018427387903
    · rw [show exV (l + 1) c 4294967296 = (l + 1) - (l + 1) % 4294967296 + c + 4294967296 by unfold exV; rw [if_pos (by omega)]]
      exact implEx_4a l c w h0 h1 c0 c1 a b
    · rw [show exV (l + 1) c 4294967296 = (l + 1) - (l + 1) % 4294967296 + c by unfold exV; rw [if_neg (by omega), if_neg (by omega), if_neg (by omega)]]
      exact implEx_4b l c w h0 h1 c0 c1 a (by omega)
  · by_cases b : (l + 1) - (l + 1) % 4294967296 + c ≤ l + 1 + 2147483648
    · by_cases m : (l + 1) - (l + 1) % 4294967296 + c ≤ 4611686018427387903
      · rw [show exV (l + 1) c 4294967296 = (l + 1) - (l + 1) % 4294967296 + c by unfold exV; rw [if_neg (by omega), if_neg (by omega), if_neg (by omega)]]
        exact implEx_4c l c w h0 h1 c0 c1 (by omega) b m
      · rw [show exV (l + 1) c 4294967296 = -1 by unfold exV; rw [if_neg (by omega), if_neg (by omega), if_pos (by omega)]]
        exact implEx_4f l c w h0 h1 c0 c1 (by omega) b (by omega)
    · by_cases d : 4294967296 ≤ (l + 1) - (l + 1) % 4294967296 + c
      · rw [show exV (l + 1) c 4294967296 = (l + 1) - (l + 1) % 4294967296 + c - 4294967296 by unfold exV; rw [if_neg (by omega), if_pos (by omega)]]
        exact implEx_4d l c w h0 h1 c0 c1 (by omega) d
      · rw [show exV (l + 1) c 4294967296 = (l + 1) - (l + 1) % 4294967296 + c by unfold exV; rw [if_neg (by omega), if_neg (by omega), if_neg (by omega)]]
        exact implEx_4e l c w h0 h1 c0 c1 (by omega) (by omega)
theorem implEx (l c n : Int) (w : World) (hc : c ≤ 9223372036854775807) : Calls Try.prog 9 #[.int .i64 l, .int .i64 c, .int .i64 n] w fun r w' => r = .returned (.int .i64 (expV l c n)) ∧ w' = w := by
  by_cases h : l < -1 ∨ 4611686018427387903 < l ∨ n < 1 ∨ 4 < n
  · rw [show expV l c n = -1 by unfold expV; rw [if_pos h]]
    exact implExBad l c n w h
  · have hk : n = 1 ∨ n = 2 ∨ n = 3 ∨ n = 4 := by omega
    rcases hk with rfl | rfl | rfl | rfl
    · by_cases d : c < 0 ∨ 256 ≤ c
      · rw [show expV l c 1 = -1 by unfold expV; rw [if_neg h, if_pos rfl, if_pos d]]
        by_cases d' : c < 0
        · exact implEx_1n l c w (by omega) (by omega) d'
        · exact implEx_1p l c w (by omega) (by omega) (by omega) (by omega) hc
      · rw [show expV l c 1 = exV (l + 1) c 256 by unfold expV; rw [if_neg h, if_pos rfl, if_neg d]]
        exact implEx_1 l c w (by omega) (by omega) (by omega) (by omega)
    · by_cases d : c < 0 ∨ 65536 ≤ c
      · rw [show expV l c 2 = -1 by unfold expV; rw [if_neg h, if_neg (by decide), if_pos rfl, if_pos d]]
        by_cases d' : c < 0
        · exact implEx_2n l c w (by omega) (by omega) d'
        · exact implEx_2p l c w (by omega) (by omega) (by omega) (by omega) hc
      · rw [show expV l c 2 = exV (l + 1) c 65536 by unfold expV; rw [if_neg h, if_neg (by decide), if_pos rfl, if_neg d]]
        exact implEx_2 l c w (by omega) (by omega) (by omega) (by omega)
    · by_cases d : c < 0 ∨ 16777216 ≤ c
      · rw [show expV l c 3 = -1 by unfold expV; rw [if_neg h, if_neg (by decide), if_neg (by decide), if_pos rfl, if_pos d]]
        by_cases d' : c < 0
        · exact implEx_3n l c w (by omega) (by omega) d'
        · exact implEx_3p l c w (by omega) (by omega) (by omega) (by omega) hc
      · rw [show expV l c 3 = exV (l + 1) c 16777216 by unfold expV; rw [if_neg h, if_neg (by decide), if_neg (by decide), if_pos rfl, if_neg d]]
        exact implEx_3 l c w (by omega) (by omega) (by omega) (by omega)
    · by_cases d : c < 0 ∨ 4294967296 ≤ c
      · rw [show expV l c 4 = -1 by unfold expV; rw [if_neg h, if_neg (by decide), if_neg (by decide), if_neg (by decide), if_pos d]]
        by_cases d' : c < 0
        · exact implEx_4n l c w (by omega) (by omega) d'
        · exact implEx_4p l c w (by omega) (by omega) (by omega) (by omega) hc
      · rw [show expV l c 4 = exV (l + 1) c 4294967296 by unfold expV; rw [if_neg h, if_neg (by decide), if_neg (by decide), if_neg (by decide), if_neg d]]
        exact implEx_4 l c w (by omega) (by omega) (by omega) (by omega)
end Go.Proofs.Ytnafmmlikmppjab
