import Derived.Test.YtnafmmlikmppjabWidth
import Derived.Test.YtnafmmlikmppjabBits64
import Derived.Test.YtnafmmlikmppjabNumV
namespace Go.Proofs.Ytnafmmlikmppjab
open Go.RowKit
set_option linter.unusedVariables false

set_option maxHeartbeats 400000 in
theorem near_1a (e c : Int) (w : World) (h0 : 0 ≤ e) (h1 : e ≤ 4611686018427387904) (c0 : 0 ≤ c) (c1 : c < 256) (ha : e - e % 256 + c ≤ e - 128) (hb : e - e % 256 + c + 256 ≤ 4611686018427387903) :
    Calls Try.prog 19 #[.int .u64 e, .int .u64 c, .int .i64 1] w fun r w' => r = .returned (.int .u64 (e - e % 256 + c + 256)) ∧ w' = w := by
  have e1 : bits .andNot .u64 e 255 = e - e % 256 := andNot_of e 255 8 h0 (by omega) (by decide) (by decide)
  have e2 : bits .or .u64 (e - e % 256) c = e - e % 256 + c := or_of (e - e % 256) c 8 (by omega) (by omega) (by omega) c0 (by omega) (by omega)
  go_enter Try.func19, Try.ntmps19
  go_wp2_with (first
    | (go_at_call 15; refine (window_1 _).mono ?_; rintro e w' ⟨rfl, rfl⟩)
    | (go_at_call 18; refine (maskw_1 _).mono ?_; rintro e w' ⟨rfl, rfl⟩))
  go_ret
  exact ⟨rfl, rfl⟩
set_option maxHeartbeats 400000 in
theorem near_1b (e c : Int) (w : World) (h0 : 0 ≤ e) (h1 : e ≤ 4611686018427387904) (c0 : 0 ≤ c) (c1 : c < 256) (ha : e - e % 256 + c ≤ e - 128) (hb : 4611686018427387903 < e - e % 256 + c + 256) :
    Calls Try.prog 19 #[.int .u64 e, .int .u64 c, .int .i64 1] w fun r w' => r = .returned (.int .u64 (e - e % 256 + c)) ∧ w' = w := by
  have e1 : bits .andNot .u64 e 255 = e - e % 256 := andNot_of e 255 8 h0 (by omega) (by decide) (by decide)
  have e2 : bits .or .u64 (e - e % 256) c = e - e % 256 + c := or_of (e - e % 256) c 8 (by omega) (by omega) (by omega) c0 (by omega) (by omega)
  go_enter Try.func19, Try.ntmps19
  go_wp2_with (first
    | (go_at_call 15; refine (window_1 _).mono ?_; rintro e w' ⟨rfl, rfl⟩)
    | (go_at_call 18; refine (maskw_1 _).mono ?_; rintro e w' ⟨rfl, rfl⟩))
  go_ret
  exact ⟨rfl, rfl⟩
set_option maxHeartbeats 400000 in
theorem near_1c (e c : Int) (w : World) (h0 : 0 ≤ e) (h1 : e ≤ 4611686018427387904) (c0 : 0 ≤ c) (c1 : c < 256) (ha : e - 128 < e - e % 256 + c) (hb : e - e % 256 + c ≤ e + 128) :
    Calls Try.prog 19 #[.int .u64 e, .int .u64 c, .int .i64 1] w fun r w' => r = .returned (.int .u64 (e - e % 256 + c)) ∧ w' = w := by
  have e1 : bits .andNot .u64 e 255 = e - e % 256 := andNot_of e 255 8 h0 (by omega) (by decide) (by decide)
  have e2 : bits .or .u64 (e - e % 256) c = e - e % 256 + c := or_of (e - e % 256) c 8 (by omega) (by omega) (by omega) c0 (by omega) (by omega)
  go_enter Try.func19, Try.ntmps19
  go_wp2_with (first
    | (go_at_call 15; refine (window_1 _).mono ?_; rintro e w' ⟨rfl, rfl⟩)
    | (go_at_call 18; refine (maskw_1 _).mono ?_; rintro e w' ⟨rfl, rfl⟩))
  go_ret
  exact ⟨rfl, rfl⟩
set_option maxHeartbeats 400000 in
theorem near_1d (e c : Int) (w : World) (h0 : 0 ≤ e) (h1 : e ≤ 4611686018427387904) (c0 : 0 ≤ c) (c1 : c < 256) (ha : e + 128 < e - e % 256 + c) (hb : 256 ≤ e - e % 256 + c) :
    Calls Try.prog 19 #[.int .u64 e, .int .u64 c, .int .i64 1] w fun r w' => r = .returned (.int .u64 (e - e % 256 + c - 256)) ∧ w' = w := by
  have e1 : bits .andNot .u64 e 255 = e - e % 256 := andNot_of e 255 8 h0 (by omega) (by decide) (by decide)
  have e2 : bits .or .u64 (e - e % 256) c = e - e % 256 + c := or_of (e - e % 256) c 8 (by omega) (by omega) (by omega) c0 (by omega) (by omega)
  go_enter Try.func19, Try.ntmps19
  go_wp2_with (first
    | (go_at_call 15; refine (window_1 _).mono ?_; rintro e w' ⟨rfl, rfl⟩)
    | (go_at_call 18; refine (maskw_1 _).mono ?_; rintro e w' ⟨rfl, rfl⟩))
  go_ret
  exact ⟨rfl, rfl⟩
set_option maxHeartbeats 400000 in
theorem near_1e (e c : Int) (w : World) (h0 : 0 ≤ e) (h1 : e ≤ 4611686018427387904) (c0 : 0 ≤ c) (c1 : c < 256) (ha : e + 128 < e - e % 256 + c) (hb : e - e % 256 + c < 256) :
    Calls Try.prog 19 #[.int .u64 e, .int .u64 c, .int .i64 1] w fun r w' => r = .returned (.int .u64 (e - e % 256 + c)) ∧ w' = w := by
  have e1 : bits .andNot .u64 e 255 = e - e % 256 := andNot_of e 255 8 h0 (by omega) (by decide) (by decide)
  have e2 : bits .or .u64 (e - e % 256) c = e - e % 256 + c := or_of (e - e % 256) c 8 (by omega) (by omega) (by omega) c0 (by omega) (by omega)
  go_enter Try.func19, Try.ntmps19
  go_wp2_with (first
    | (go_at_call 15; refine (window_1 _).mono ?_; rintro e w' ⟨rfl, rfl⟩)
    | (go_at_call 18; refine (maskw_1 _).mono ?_; rintro e w' ⟨rfl, rfl⟩))
  go_ret
  exact ⟨rfl, rfl⟩
set_option maxHeartbeats 400000 in
theorem near_2a (e c : Int) (w : World) (h0 : 0 ≤ e) (h1 : e ≤ 4611686018427387904) (c0 : 0 ≤ c) (c1 : c < 65536) (ha : e - e % 65536 + c ≤ e - 32768) (hb : e - e % 65536 + c + 65536 ≤ 4611686018427387903) :
    Calls Try.prog 19 #[.int .u64 e, .int .u64 c, .int .i64 2] w fun r w' => r = .returned (.int .u64 (e - e % 65536 + c + 65536)) ∧ w' = w := by
  have e1 : bits .andNot .u64 e 65535 = e - e % 65536 := andNot_of e 65535 16 h0 (by omega) (by decide) (by decide)
  have e2 : bits .or .u64 (e - e % 65536) c = e - e % 65536 + c := or_of (e - e % 65536) c 16 (by omega) (by omega) (by omega) c0 (by omega) (by omega)
  go_enter Try.func19, Try.ntmps19
  go_wp2_with (first
    | (go_at_call 15; refine (window_2 _).mono ?_; rintro e w' ⟨rfl, rfl⟩)
    | (go_at_call 18; refine (maskw_2 _).mono ?_; rintro e w' ⟨rfl, rfl⟩))
  go_ret
  exact ⟨rfl, rfl⟩
set_option maxHeartbeats 400000 in
theorem near_2b (e c : Int) (w : World) (h0 : 0 ≤ e) (h1 : e ≤ 4611686018427387904) (c0 : 0 ≤ c) (c1 : c < 65536) (ha : e - e % 65536 + c ≤ e - 32768) (hb : 4611686018427387903 < e - e % 65536 + c + 65536) :
    Calls Try.prog 19 #[.int .u64 e, .int .u64 c, .int .i64 2] w fun r w' => r = .returned (.int .u64 (e - e % 65536 + c)) ∧ w' = w := by
  have e1 : bits .andNot .u64 e 65535 = e - e % 65536 := andNot_of e 65535 16 h0 (by omega) (by decide) (by decide)
  have e2 : bits .or .u64 (e - e % 65536) c = e - e % 65536 + c := or_of (e - e % 65536) c 16 (by omega) (by omega) (by omega) c0 (by omega) (by omega)
  go_enter Try.func19, Try.ntmps19
  go_wp2_with (first
    | (go_at_call 15; refine (window_2 _).mono ?_; rintro e w' ⟨rfl, rfl⟩)
    | (go_at_call 18; refine (maskw_2 _).mono ?_; rintro e w' ⟨rfl, rfl⟩))
  go_ret
  exact ⟨rfl, rfl⟩
set_option maxHeartbeats 400000 in
theorem near_2c (e c : Int) (w : World) (h0 : 0 ≤ e) (h1 : e ≤ 4611686018427387904) (c0 : 0 ≤ c) (c1 : c < 65536) (ha : e - 32768 < e - e % 65536 + c) (hb : e - e % 65536 + c ≤ e + 32768) :
    Calls Try.prog 19 #[.int .u64 e, .int .u64 c, .int .i64 2] w fun r w' => r = .returned (.int .u64 (e - e % 65536 + c)) ∧ w' = w := by
  have e1 : bits .andNot .u64 e 65535 = e - e % 65536 := andNot_of e 65535 16 h0 (by omega) (by decide) (by decide)
  have e2 : bits .or .u64 (e - e % 65536) c = e - e % 65536 + c := or_of (e - e % 65536) c 16 (by omega) (by omega) (by omega) c0 (by omega) (by omega)
  go_enter Try.func19, Try.ntmps19
  go_wp2_with (first
    | (go_at_call 15; refine (window_2 _).mono ?_; rintro e w' ⟨rfl, rfl⟩)
    | (go_at_call 18; refine (maskw_2 _).mono ?_; rintro e w' ⟨rfl, rfl⟩))
  go_ret
  exact ⟨rfl, rfl⟩
set_option maxHeartbeats 400000 in
theorem near_2d (e c : Int) (w : World) (h0 : 0 ≤ e) (h1 : e ≤ 4611686018427387904) (c0 : 0 ≤ c) (c1 : c < 65536) (ha : e + 32768 < e - e % 65536 + c) (hb : 65536 ≤ e - e % 65536 + c) :
    Calls Try.prog 19 #[.int .u64 e, .int .u64 c, .int .i64 2] w fun r w' => r = .returned (.int .u64 (e - e % 65536 + c - 65536)) ∧ w' = w := by
  have e1 : bits .andNot .u64 e 65535 = e - e % 65536 := andNot_of e 65535 16 h0 (by omega) (by decide) (by decide)
  have e2 : bits .or .u64 (e - e % 65536) c = e - e % 65536 + c := or_of (e - e % 65536) c 16 (by omega) (by omega) (by omega) c0 (by omega) (by omega)
  go_enter Try.func19, Try.ntmps19
  go_wp2_with (first
    | (go_at_call 15; refine (window_2 _).mono ?_; rintro e w' ⟨rfl, rfl⟩)
    | (go_at_call 18; refine (maskw_2 _).mono ?_; rintro e w' ⟨rfl, rfl⟩))
  go_ret
  exact ⟨rfl, rfl⟩
set_option maxHeartbeats 400000 in
theorem near_2e (e c : Int) (w : World) (h0 : 0 ≤ e) (h1 : e ≤ 4611686018427387904) (c0 : 0 ≤ c) (c1 : c < 65536) (ha : e + 32768 < e - e % 65536 + c) (hb : e - e % 65536 + c < 65536) :
    Calls Try.prog 19 #[.int .u64 e, .int .u64 c, .int .i64 2] w fun r w' => r = .returned (.int .u64 (e - e % 65536 + c)) ∧ w' = w := by
  have e1 : bits .andNot .u64 e 65535 = e - e % 65536 := andNot_of e 65535 16 h0 (by omega) (by decide) (by decide)
  have e2 : bits .or .u64 (e - e % 65536) c = e - e % 65536 + c := or_of (e - e % 65536) c 16 (by omega) (by omega) (by omega) c0 (by omega) (by omega)
  go_enter Try.func19, Try.ntmps19
  go_wp2_with (first
    | (go_at_call 15; refine (window_2 _).mono ?_; rintro e w' ⟨rfl, rfl⟩)
    | (go_at_call 18; refine (maskw_2 _).mono ?_; rintro e w' ⟨rfl, rfl⟩))
  go_ret
  exact ⟨rfl, rfl⟩
set_option maxHeartbeats 400000 in
theorem near_3a (e c : Int) (w : World) (h0 : 0 ≤ e) (h1 : e ≤ 4611686018427387904) (c0 : 0 ≤ c) (c1 : c < 16777216) (ha : e - e % 16777216 + c ≤ e - 8388608) (hb : e - e % 16777216 + c + 16777216 ≤ 4611686018427387903) :
    Calls Try.prog 19 #[.int .u64 e, .int .u64 c, .int .i64 3] w fun r w' => r = .returned (.int .u64 (e - e % 16777216 + c + 16777216)) ∧ w' = w := by
  have e1 : bits .andNot .u64 e 16777215 = e - e % 16777216 := andNot_of e 16777215 24 h0 (by omega) (by decide) (by decide)
  have e2 : bits .or .u64 (e - e % 16777216) c = e - e % 16777216 + c := or_of (e - e % 16777216) c 24 (by omega) (by omega) (by omega) c0 (by omega) (by omega)
  go_enter Try.func19, Try.ntmps19
  go_wp2_with (first
    | (go_at_call 15; refine (window_3 _).mono ?_; rintro e w' ⟨rfl, rfl⟩)
    | (go_at_call 18; refine (maskw_3 _).mono ?_; rintro e w' ⟨rfl, rfl⟩))
  go_ret
  exact ⟨rfl, rfl⟩
set_option maxHeartbeats 400000 in
theorem near_3b (e c : Int) (w : World) (h0 : 0 ≤ e) (h1 : e ≤ 4611686018427387904) (c0 : 0 ≤ c) (c1 : c < 16777216) (ha : e - e % 16777216 + c ≤ e - 8388608) (hb : 4611686018427387903 < e - e % 16777216 + c + 16777216) :
    Calls Try.prog 19 #[.int .u64 e, .int .u64 c, .int .i64 3] w fun r w' => r = .returned (.int .u64 (e - e % 16777216 + c)) ∧ w' = w := by
  have e1 : bits .andNot .u64 e 16777215 = e - e % 16777216 := andNot_of e 16777215 24 h0 (by omega) (by decide) (by decide)
  have e2 : bits .or .u64 (e - e % 16777216) c = e - e % 16777216 + c := or_of (e - e % 16777216) c 24 (by omega) (by omega) (by omega) c0 (by omega) (by omega)
  go_enter Try.func19, Try.ntmps19
  go_wp2_with (first
    | (go_at_call 15; refine (window_3 _).mono ?_; rintro e w' ⟨rfl, rfl⟩)
    | (go_at_call 18; refine (maskw_3 _).mono ?_; rintro e w' ⟨rfl, rfl⟩))
  go_ret
  exact ⟨rfl, rfl⟩
set_option maxHeartbeats 400000 in
theorem near_3c (e c : Int) (w : World) (h0 : 0 ≤ e) (h1 : e ≤ 4611686018427387904) (c0 : 0 ≤ c) (c1 : c < 16777216) (ha : e - 8388608 < e - e % 16777216 + c) (hb : e - e % 16777216 + c ≤ e + 8388608) :
    Calls Try.prog 19 #[.int .u64 e, .int .u64 c, .int .i64 3] w fun r w' => r = .returned (.int .u64 (e - e % 16777216 + c)) ∧ w' = w := by
  have e1 : bits .andNot .u64 e 16777215 = e - e % 16777216 := andNot_of e 16777215 24 h0 (by omega) (by decide) (by decide)
  have e2 : bits .or .u64 (e - e % 16777216) c = e - e % 16777216 + c := or_of (e - e % 16777216) c 24 (by omega) (by omega) (by omega) c0 (by omega) (by omega)
  go_enter Try.func19, Try.ntmps19
  go_wp2_with (first
    | (go_at_call 15; refine (window_3 _).mono ?_; rintro e w' ⟨rfl, rfl⟩)
    | (go_at_call 18; refine (maskw_3 _).mono ?_; rintro e w' ⟨rfl, rfl⟩))
  go_ret
  exact ⟨rfl, rfl⟩
set_option maxHeartbeats 400000 in
theorem near_3d (e c : Int) (w : World) (h0 : 0 ≤ e) (h1 : e ≤ 4611686018427387904) (c0 : 0 ≤ c) (c1 : c < 16777216) (ha : e + 8388608 < e - e % 16777216 + c) (hb : 16777216 ≤ e - e % 16777216 + c) :
    Calls Try.prog 19 #[.int .u64 e, .int .u64 c, .int .i64 3] w fun r w' => r = .returned (.int .u64 (e - e % 16777216 + c - 16777216)) ∧ w' = w := by
  have e1 : bits .andNot .u64 e 16777215 = e - e % 16777216 := andNot_of e 16777215 24 h0 (by omega) (by decide) (by decide)
  have e2 : bits .or .u64 (e - e % 16777216) c = e - e % 16777216 + c := or_of (e - e % 16777216) c 24 (by omega) (by omega) (by omega) c0 (by omega) (by omega)
  go_enter Try.func19, Try.ntmps19
  go_wp2_with (first
    | (go_at_call 15; refine (window_3 _).mono ?_; rintro e w' ⟨rfl, rfl⟩)
    | (go_at_call 18; refine (maskw_3 _).mono ?_; rintro e w' ⟨rfl, rfl⟩))
  go_ret
  exact ⟨rfl, rfl⟩
set_option maxHeartbeats 400000 in
theorem near_3e (e c : Int) (w : World) (h0 : 0 ≤ e) (h1 : e ≤ 4611686018427387904) (c0 : 0 ≤ c) (c1 : c < 16777216) (ha : e + 8388608 < e - e % 16777216 + c) (hb : e - e % 16777216 + c < 16777216) :
    Calls Try.prog 19 #[.int .u64 e, .int .u64 c, .int .i64 3] w fun r w' => r = .returned (.int .u64 (e - e % 16777216 + c)) ∧ w' = w := by
  have e1 : bits .andNot .u64 e 16777215 = e - e % 16777216 := andNot_of e 16777215 24 h0 (by omega) (by decide) (by decide)
  have e2 : bits .or .u64 (e - e % 16777216) c = e - e % 16777216 + c := or_of (e - e % 16777216) c 24 (by omega) (by omega) (by omega) c0 (by omega) (by omega)
  go_enter Try.func19, Try.ntmps19
  go_wp2_with (first
    | (go_at_call 15; refine (window_3 _).mono ?_; rintro e w' ⟨rfl, rfl⟩)
    | (go_at_call 18; refine (maskw_3 _).mono ?_; rintro e w' ⟨rfl, rfl⟩))
  go_ret
  exact ⟨rfl, rfl⟩
set_option maxHeartbeats 400000 in
theorem near_4a (e c : Int) (w : World) (h0 : 0 ≤ e) (h1 : e ≤ 4611686018427387904) (c0 : 0 ≤ c) (c1 : c < 4294967296) (ha : e - e % 4294967296 + c ≤ e - 2147483648) (hb : e - e % 4294967296 + c + 4294967296 ≤ 4611686018427387903) :
    Calls Try.prog 19 #[.int .u64 e, .int .u64 c, .int .i64 4] w fun r w' => r = .returned (.int .u64 (e - e % 4294967296 + c + 4294967296)) ∧ w' = w := by
  have e1 : bits .andNot .u64 e 4294967295 = e - e % 4294967296 := andNot_of e 4294967295 32 h0 (by omega) (by decide) (by decide)
  have e2 : bits .or .u64 (e - e % 4294967296) c = e - e % 4294967296 + c := or_of (e - e % 4294967296) c 32 (by omega) (by omega) (by omega) c0 (by omega) (by omega)
  go_enter Try.func19, Try.ntmps19
  go_wp2_with (first
    | (go_at_call 15; refine (window_4 _).mono ?_; rintro e w' ⟨rfl, rfl⟩)
    | (go_at_call 18; refine (maskw_4 _).mono ?_; rintro e w' ⟨rfl, rfl⟩))
  go_ret
  exact ⟨rfl, rfl⟩
set_option maxHeartbeats 400000 in
theorem near_4b (e c : Int) (w : World) (h0 : 0 ≤ e) (h1 : e ≤ 4611686018427387904) (c0 : 0 ≤ c) (c1 : c < 4294967296) (ha : e - e % 4294967296 + c ≤ e - 2147483648) (hb : 4611686018427387903 < e - e % 4294967296 + c + 4294967296) :
    Calls Try.prog 19 #[.int .u64 e, .int .u64 c, .int .i64 4] w fun r w' => r = .returned (.int .u64 (e - e % 4294967296 + c)) ∧ w' = w := by
  have e1 : bits .andNot .u64 e 4294967295 = e - e % 4294967296 := andNot_of e 4294967295 32 h0 (by omega) (by decide) (by decide)
  have e2 : bits .or .u64 (e - e % 4294967296) c = e - e % 4294967296 + c := or_of (e - e % 4294967296) c 32 (by omega) (by omega) (by omega) c0 (by omega) (by omega)
  go_enter Try.func19, Try.ntmps19
  go_wp2_with (first
    | (go_at_call 15; refine (window_4 _).mono ?_; rintro e w' ⟨rfl, rfl⟩)
    | (go_at_call 18; refine (maskw_4 _).mono ?_; rintro e w' ⟨rfl, rfl⟩))
  go_ret
  exact ⟨rfl, rfl⟩
set_option maxHeartbeats 400000 in
theorem near_4c (e c : Int) (w : World) (h0 : 0 ≤ e) (h1 : e ≤ 4611686018427387904) (c0 : 0 ≤ c) (c1 : c < 4294967296) (ha : e - 2147483648 < e - e % 4294967296 + c) (hb : e - e % 4294967296 + c ≤ e + 2147483648) :
    Calls Try.prog 19 #[.int .u64 e, .int .u64 c, .int .i64 4] w fun r w' => r = .returned (.int .u64 (e - e % 4294967296 + c)) ∧ w' = w := by
  have e1 : bits .andNot .u64 e 4294967295 = e - e % 4294967296 := andNot_of e 4294967295 32 h0 (by omega) (by decide) (by decide)
  have e2 : bits .or .u64 (e - e % 4294967296) c = e - e % 4294967296 + c := or_of (e - e % 4294967296) c 32 (by omega) (by omega) (by omega) c0 (by omega) (by omega)
  go_enter Try.func19, Try.ntmps19
  go_wp2_with (first
    | (go_at_call 15; refine (window_4 _).mono ?_; rintro e w' ⟨rfl, rfl⟩)
    | (go_at_call 18; refine (maskw_4 _).mono ?_; rintro e w' ⟨rfl, rfl⟩))
  go_ret
  exact ⟨rfl, rfl⟩
set_option maxHeartbeats 400000 in
theorem near_4d (e c : Int) (w : World) (h0 : 0 ≤ e) (h1 : e ≤ 4611686018427387904) (c0 : 0 ≤ c) (c1 : c < 4294967296) (ha : e + 2147483648 < e - e % 4294967296 + c) (hb : 4294967296 ≤ e - e % 4294967296 + c) :
    Calls Try.prog 19 #[.int .u64 e, .int .u64 c, .int .i64 4] w fun r w' => r = .returned (.int .u64 (e - e % 4294967296 + c - 4294967296)) ∧ w' = w := by
  have e1 : bits .andNot .u64 e 4294967295 = e - e % 4294967296 := andNot_of e 4294967295 32 h0 (by omega) (by decide) (by decide)
  have e2 : bits .or .u64 (e - e % 4294967296) c = e - e % 4294967296 + c := or_of (e - e % 4294967296) c 32 (by omega) (by omega) (by omega) c0 (by omega) (by omega)
  go_enter Try.func19, Try.ntmps19
  go_wp2_with (first
    | (go_at_call 15; refine (window_4 _).mono ?_; rintro e w' ⟨rfl, rfl⟩)
    | (go_at_call 18; refine (maskw_4 _).mono ?_; rintro e w' ⟨rfl, rfl⟩))
  go_ret
  exact ⟨rfl, rfl⟩
set_option maxHeartbeats 400000 in
theorem near_4e (e c : Int) (w : World) (h0 : 0 ≤ e) (h1 : e ≤ 4611686018427387904) (c0 : 0 ≤ c) (c1 : c < 4294967296) (ha : e + 2147483648 < e - e % 4294967296 + c) (hb : e - e % 4294967296 + c < 4294967296) :
    Calls Try.prog 19 #[.int .u64 e, .int .u64 c, .int .i64 4] w fun r w' => r = .returned (.int .u64 (e - e % 4294967296 + c)) ∧ w' = w := by
  have e1 : bits .andNot .u64 e 4294967295 = e - e % 4294967296 := andNot_of e 4294967295 32 h0 (by omega) (by decide) (by decide)
  have e2 : bits .or .u64 (e - e % 4294967296) c = e - e % 4294967296 + c := or_of (e - e % 4294967296) c 32 (by omega) (by omega) (by omega) c0 (by omega) (by omega)
  go_enter Try.func19, Try.ntmps19
  go_wp2_with (first
    | (go_at_call 15; refine (window_4 _).mono ?_; rintro e w' ⟨rfl, rfl⟩)
    | (go_at_call 18; refine (maskw_4 _).mono ?_; rintro e w' ⟨rfl, rfl⟩))
  go_ret
  exact ⟨rfl, rfl⟩
end Go.Proofs.Ytnafmmlikmppjab
