import Derived.Test.YthokfbgpoffafaaGreatDoorMem
import Derived.Lib.EndianBits
namespace Go.Proofs.YthokfbgpoffafaaGreatDoor
open Go.RowKit
set_option linter.unusedVariables false

def cutV (num n : Int) : Int := if num < 0 ∨ 4611686018427387903 < num ∨ n < 1 ∨ 4 < n then -1 else if n = 1 then num % 256 else if n = 2 then num % 65536 else if n = 3 then num % 16777216 else num % 4294967296
/-- The number that is meant, for one whose next is e. -/
def exV (e c W : Int) : Int :=
  if e - e % W + c ≤ e - W / 2 ∧ e - e % W + c + W ≤ 4611686018427387903 then e - e % W + c + W
  else if e + W / 2 < e - e % W + c ∧ W ≤ e - e % W + c then e - e % W + c - W
  else if 4611686018427387903 < e - e % W + c then -1 else e - e % W + c
def expV (l c n : Int) : Int :=
  if l < -1 ∨ 4611686018427387903 < l ∨ n < 1 ∨ 4 < n then -1 else
  if n = 1 then (if c < 0 ∨ 256 ≤ c then -1 else exV (l + 1) c 256)
  else if n = 2 then (if c < 0 ∨ 65536 ≤ c then -1 else exV (l + 1) c 65536)
  else if n = 3 then (if c < 0 ∨ 16777216 ≤ c then -1 else exV (l + 1) c 16777216)
  else (if c < 0 ∨ 4294967296 ≤ c then -1 else exV (l + 1) c 4294967296)
end Go.Proofs.YthokfbgpoffafaaGreatDoor

namespace Go.Proofs.YthokfbgpoffafaaGreatDoor
open Go.RowKit
set_option linter.unusedVariables false

theorem window_1 (w : World) : Calls Tryz.prog 98 #[.int .i64 1] w fun e w' => e = .returned (.int .u64 256) ∧ w' = w := by
  go_enter Tryz.func98, Tryz.ntmps98
  go_wp2
  go_ret
  exact ⟨rfl, rfl⟩
theorem window_2 (w : World) : Calls Tryz.prog 98 #[.int .i64 2] w fun e w' => e = .returned (.int .u64 65536) ∧ w' = w := by
  go_enter Tryz.func98, Tryz.ntmps98
  go_wp2
  go_ret
  exact ⟨rfl, rfl⟩
theorem window_3 (w : World) : Calls Tryz.prog 98 #[.int .i64 3] w fun e w' => e = .returned (.int .u64 16777216) ∧ w' = w := by
  go_enter Tryz.func98, Tryz.ntmps98
  go_wp2
  go_ret
  exact ⟨rfl, rfl⟩
theorem window_4 (w : World) : Calls Tryz.prog 98 #[.int .i64 4] w fun e w' => e = .returned (.int .u64 4294967296) ∧ w' = w := by
  go_enter Tryz.func98, Tryz.ntmps98
  go_wp2
  go_ret
  exact ⟨rfl, rfl⟩
theorem num_low (n : Int) (w : World) (h : n < 0) : Calls Tryz.prog 84 #[.int .i64 n] w fun e w' => e = .returned (.bool false) ∧ w' = w := by
  go_enter Tryz.func84, Tryz.ntmps84
  go_wp2
  go_ret
  exact ⟨rfl, rfl⟩
theorem num_high (n : Int) (w : World) (h0 : 0 ≤ n) (h : 4611686018427387903 < n) : Calls Tryz.prog 84 #[.int .i64 n] w fun e w' => e = .returned (.bool false) ∧ w' = w := by
  have hd : decide (n ≤ 4611686018427387903) = false := by simp; omega
  go_enter Tryz.func84, Tryz.ntmps84
  go_wp2
  go_ret
  exact ⟨rfl, rfl⟩
theorem num_ok (n : Int) (w : World) (h0 : 0 ≤ n) (h : n ≤ 4611686018427387903) : Calls Tryz.prog 84 #[.int .i64 n] w fun e w' => e = .returned (.bool true) ∧ w' = w := by
  go_enter Tryz.func84, Tryz.ntmps84
  go_wp2
  go_ret
  exact ⟨rfl, rfl⟩
theorem num_not (n : Int) (w : World) (h : n < 0 ∨ 4611686018427387903 < n) : Calls Tryz.prog 84 #[.int .i64 n] w fun e w' => e = .returned (.bool false) ∧ w' = w := by
  by_cases a : n < 0
  · exact num_low n w a
  · exact num_high n w (by omega) (by omega)
end Go.Proofs.YthokfbgpoffafaaGreatDoor

namespace Go.Proofs.YthokfbgpoffafaaGreatDoor
open Go.RowKit
set_option linter.unusedVariables false

theorem maskw_1 (w : World) : Calls Tryz.prog 82 #[.int .i64 1] w fun e w' => e = .returned (.int .u64 255) ∧ w' = w := by
  go_enter Tryz.func82, Tryz.ntmps82
  go_wp2_with (go_at_call 98; refine (window_1 _).mono ?_; rintro e w' ⟨rfl, rfl⟩)
  go_ret
  exact ⟨rfl, rfl⟩
theorem maskw_2 (w : World) : Calls Tryz.prog 82 #[.int .i64 2] w fun e w' => e = .returned (.int .u64 65535) ∧ w' = w := by
  go_enter Tryz.func82, Tryz.ntmps82
  go_wp2_with (go_at_call 98; refine (window_2 _).mono ?_; rintro e w' ⟨rfl, rfl⟩)
  go_ret
  exact ⟨rfl, rfl⟩
theorem maskw_3 (w : World) : Calls Tryz.prog 82 #[.int .i64 3] w fun e w' => e = .returned (.int .u64 16777215) ∧ w' = w := by
  go_enter Tryz.func82, Tryz.ntmps82
  go_wp2_with (go_at_call 98; refine (window_3 _).mono ?_; rintro e w' ⟨rfl, rfl⟩)
  go_ret
  exact ⟨rfl, rfl⟩
theorem maskw_4 (w : World) : Calls Tryz.prog 82 #[.int .i64 4] w fun e w' => e = .returned (.int .u64 4294967295) ∧ w' = w := by
  go_enter Tryz.func82, Tryz.ntmps82
  go_wp2_with (go_at_call 98; refine (window_4 _).mono ?_; rintro e w' ⟨rfl, rfl⟩)
  go_ret
  exact ⟨rfl, rfl⟩
theorem valid_low (n : Int) (w : World) (h : n < 1) : Calls Tryz.prog 81 #[.int .i64 n] w fun e w' => e = .returned (.bool false) ∧ w' = w := by
  go_enter Tryz.func81, Tryz.ntmps81
  go_wp2
  go_ret
  exact ⟨rfl, rfl⟩
theorem valid_high (n : Int) (w : World) (h0 : 1 ≤ n) (h : 4 < n) : Calls Tryz.prog 81 #[.int .i64 n] w fun e w' => e = .returned (.bool false) ∧ w' = w := by
  have hd : decide (n < 5) = false := by simp; omega
  go_enter Tryz.func81, Tryz.ntmps81
  go_wp2
  go_ret
  exact ⟨rfl, rfl⟩
theorem valid_ok (n : Int) (w : World) (h0 : 1 ≤ n) (h : n ≤ 4) : Calls Tryz.prog 81 #[.int .i64 n] w fun e w' => e = .returned (.bool true) ∧ w' = w := by
  have hd : decide (n < 5) = true := by simp; omega
  go_enter Tryz.func81, Tryz.ntmps81
  go_wp2
  go_ret
  exact ⟨rfl, rfl⟩
theorem valid_not (n : Int) (w : World) (h : n < 1 ∨ 4 < n) : Calls Tryz.prog 81 #[.int .i64 n] w fun e w' => e = .returned (.bool false) ∧ w' = w := by
  by_cases a : n < 1
  · exact valid_low n w a
  · exact valid_high n w (by omega) (by omega)
end Go.Proofs.YthokfbgpoffafaaGreatDoor

namespace Go.Proofs.YthokfbgpoffafaaGreatDoor
open Go.RowKit
set_option linter.unusedVariables false

theorem and_msk (n k : Nat) (hn : n < 18446744073709551616) (hk : k ≤ 63) : bits .and .u64 (n : Int) ((2 ^ k - 1 : Nat) : Int) = ((n % 2 ^ k : Nat) : Int) := by
  have h2 : 2 ^ k - 1 < 18446744073709551616 := by
    have : 2 ^ k ≤ 2 ^ 63 := Nat.pow_le_pow_right (by decide) hk
    have e : (2 : Nat) ^ 63 = 9223372036854775808 := by decide
    omega
  have hm : n % 2 ^ k < 18446744073709551616 := Nat.lt_of_le_of_lt (Nat.mod_le _ _) hn
  have e1 : (BitVec.ofInt IntKind.u64.bits (n : Int)).toNat = n := by
    show (BitVec.ofInt 64 (n : Int)).toNat = n
    rw [BitVec.ofInt_natCast, BitVec.toNat_ofNat]
    exact Nat.mod_eq_of_lt hn
  have e2 : (BitVec.ofInt IntKind.u64.bits ((2 ^ k - 1 : Nat) : Int)).toNat = 2 ^ k - 1 := by
    show (BitVec.ofInt 64 ((2 ^ k - 1 : Nat) : Int)).toNat = 2 ^ k - 1
    rw [BitVec.ofInt_natCast, BitVec.toNat_ofNat]
    exact Nat.mod_eq_of_lt h2
  show IntKind.u64.wrap (((BitVec.ofInt IntKind.u64.bits (n : Int)) &&& (BitVec.ofInt IntKind.u64.bits ((2 ^ k - 1 : Nat) : Int))).toNat : Int) = _
  rw [BitVec.toNat_and, e1, e2, Nat.and_two_pow_sub_one_eq_mod]
  generalize n % 2 ^ k = m at hm
  simp [IntKind.wrap, IntKind.bits, IntKind.signed]
  omega
theorem msk_of (s m : Int) (k : Nat) (h0 : 0 ≤ s) (h1 : s < 18446744073709551616) (hk : k ≤ 63) (hm : m = ((2 ^ k - 1 : Nat) : Int)) : bits .and .u64 s m = s % ((2 ^ k : Nat) : Int) := by
  obtain ⟨n, rfl⟩ := Int.eq_ofNat_of_zero_le h0
  subst hm
  rw [and_msk n k (by omega) hk]
  exact Int.natCast_emod n (2 ^ k)
theorem nat_andNot (n k : Nat) (hn : n < 18446744073709551616) (hk : k ≤ 63) : (BitVec.ofNat 64 n &&& ~~~ (BitVec.ofNat 64 (2 ^ k - 1))).toNat = n - n % 2 ^ k := by
  have hp : 2 ^ k ≤ 2 ^ 63 := Nat.pow_le_pow_right (by decide) hk
  have e63 : (2 : Nat) ^ 63 = 9223372036854775808 := by decide
  obtain ⟨x, hx⟩ : ∃ x, x = BitVec.ofNat 64 n := ⟨_, rfl⟩
  obtain ⟨m, hm⟩ : ∃ m, m = BitVec.ofNat 64 (2 ^ k - 1) := ⟨_, rfl⟩
  rw [← hx, ← hm]
  have hxn : x.toNat = n := by rw [hx, BitVec.toNat_ofNat]; exact Nat.mod_eq_of_lt hn
  have hmn : m.toNat = 2 ^ k - 1 := by rw [hm, BitVec.toNat_ofNat]; exact Nat.mod_eq_of_lt (by omega)
  have hand : (x &&& m).toNat = n % 2 ^ k := by rw [BitVec.toNat_and, hxn, hmn, Nat.and_two_pow_sub_one_eq_mod]
  have hz : (x &&& ~~~ m) &&& (x &&& m) = 0#64 := by
    ext i hi
    simp only [BitVec.getElem_and, BitVec.getElem_not, BitVec.getElem_zero]
    cases x[i] <;> cases m[i] <;> rfl
  have ho : (x &&& ~~~ m) ||| (x &&& m) = x := by
    ext i hi
    simp only [BitVec.getElem_and, BitVec.getElem_not, BitVec.getElem_or]
    cases x[i] <;> cases m[i] <;> rfl
  have hs : (x &&& ~~~ m) + (x &&& m) = x := by rw [BitVec.add_eq_or_of_and_eq_zero _ _ hz, ho]
  have hle : (x &&& ~~~ m).toNat ≤ n := by rw [BitVec.toNat_and, hxn]; exact Nat.and_le_left
  have h2 := congrArg BitVec.toNat hs
  rw [BitVec.toNat_add, hand, hxn] at h2
  have h3 : n % 2 ^ k < 2 ^ k := Nat.mod_lt _ (Nat.two_pow_pos k)
  have h4 : n % 2 ^ k ≤ n := Nat.mod_le _ _
  generalize (x &&& ~~~ m).toNat = y at *
  have e64 : (2 : Nat) ^ 64 = 18446744073709551616 := by decide
  rw [e64] at h2
  omega
theorem andNot_of (s m : Int) (k : Nat) (h0 : 0 ≤ s) (h1 : s < 18446744073709551616) (hk : k ≤ 63) (hm : m = ((2 ^ k - 1 : Nat) : Int)) : bits .andNot .u64 s m = s - s % ((2 ^ k : Nat) : Int) := by
  obtain ⟨n, rfl⟩ := Int.eq_ofNat_of_zero_le h0
  subst hm
  have h := nat_andNot n k (by omega) hk
  have hl : n % 2 ^ k ≤ n := Nat.mod_le _ _
  have e : bits .andNot .u64 (n : Int) ((2 ^ k - 1 : Nat) : Int) = IntKind.u64.wrap ((BitVec.ofNat 64 n &&& ~~~ (BitVec.ofNat 64 (2 ^ k - 1))).toNat : Int) := by
    show IntKind.u64.wrap (((BitVec.ofInt 64 (n : Int)) &&& ~~~ (BitVec.ofInt 64 ((2 ^ k - 1 : Nat) : Int))).toNat : Int) = _
    rw [BitVec.ofInt_natCast, BitVec.ofInt_natCast]
  rw [e]
  rw [h, ← Int.natCast_emod]
  generalize n % 2 ^ k = m at hl
  simp [IntKind.wrap, IntKind.bits, IntKind.signed]
  omega
theorem or_of (s c : Int) (k : Nat) (h0 : 0 ≤ s) (h1 : s < 18446744073709551616) (hs : s % 2 ^ k = 0) (hc0 : 0 ≤ c) (hc1 : c < 2 ^ k) (hc2 : c < 18446744073709551616) : bits .or .u64 s c = s + c :=
  bits_join .u64 64 (by decide) wraps_u64 k s c h0 hs (by omega) hc0 hc1 (by omega)
end Go.Proofs.YthokfbgpoffafaaGreatDoor

namespace Go.Proofs.YthokfbgpoffafaaGreatDoor
open Go.RowKit
set_option linter.unusedVariables false

set_option maxHeartbeats 400000 in
theorem near_1a (e c : Int) (w : World) (h0 : 0 ≤ e) (h1 : e ≤ 4611686018427387904) (c0 : 0 ≤ c) (c1 : c < 256) (ha : e - e % 256 + c ≤ e - 128) (hb : e - e % 256 + c + 256 ≤ 4611686018427387903) :
    Calls Tryz.prog 83 #[.int .u64 e, .int .u64 c, .int .i64 1] w fun r w' => r = .returned (.int .u64 (e - e % 256 + c + 256)) ∧ w' = w := by
  have e1 : bits .andNot .u64 e 255 = e - e % 256 := andNot_of e 255 8 h0 (by omega) (by decide) (by decide)
  have e2 : bits .or .u64 (e - e % 256) c = e - e % 256 + c := or_of (e - e % 256) c 8 (by omega) (by omega) (by omega) c0 (by omega) (by omega)
  go_enter Tryz.func83, Tryz.ntmps83
  go_wp2_with (first
    | (go_at_call 98; refine (window_1 _).mono ?_; rintro e w' ⟨rfl, rfl⟩)
    | (go_at_call 82; refine (maskw_1 _).mono ?_; rintro e w' ⟨rfl, rfl⟩))
  go_ret
  exact ⟨rfl, rfl⟩
set_option maxHeartbeats 400000 in
theorem near_1b (e c : Int) (w : World) (h0 : 0 ≤ e) (h1 : e ≤ 4611686018427387904) (c0 : 0 ≤ c) (c1 : c < 256) (ha : e - e % 256 + c ≤ e - 128) (hb : 4611686018427387903 < e - e % 256 + c + 256) :
    Calls Tryz.prog 83 #[.int .u64 e, .int .u64 c, .int .i64 1] w fun r w' => r = .returned (.int .u64 (e - e % 256 + c)) ∧ w' = w := by
  have e1 : bits .andNot .u64 e 255 = e - e % 256 := andNot_of e 255 8 h0 (by omega) (by decide) (by decide)
  have e2 : bits .or .u64 (e - e % 256) c = e - e % 256 + c := or_of (e - e % 256) c 8 (by omega) (by omega) (by omega) c0 (by omega) (by omega)
  go_enter Tryz.func83, Tryz.ntmps83
  go_wp2_with (first
    | (go_at_call 98; refine (window_1 _).mono ?_; rintro e w' ⟨rfl, rfl⟩)
    | (go_at_call 82; refine (maskw_1 _).mono ?_; rintro e w' ⟨rfl, rfl⟩))
  go_ret
  exact ⟨rfl, rfl⟩
set_option maxHeartbeats 400000 in
theorem near_1c (e c : Int) (w : World) (h0 : 0 ≤ e) (h1 : e ≤ 4611686018427387904) (c0 : 0 ≤ c) (c1 : c < 256) (ha : e - 128 < e - e % 256 + c) (hb : e - e % 256 + c ≤ e + 128) :
    Calls Tryz.prog 83 #[.int .u64 e, .int .u64 c, .int .i64 1] w fun r w' => r = .returned (.int .u64 (e - e % 256 + c)) ∧ w' = w := by
  have e1 : bits .andNot .u64 e 255 = e - e % 256 := andNot_of e 255 8 h0 (by omega) (by decide) (by decide)
  have e2 : bits .or .u64 (e - e % 256) c = e - e % 256 + c := or_of (e - e % 256) c 8 (by omega) (by omega) (by omega) c0 (by omega) (by omega)
  go_enter Tryz.func83, Tryz.ntmps83
  go_wp2_with (first
    | (go_at_call 98; refine (window_1 _).mono ?_; rintro e w' ⟨rfl, rfl⟩)
    | (go_at_call 82; refine (maskw_1 _).mono ?_; rintro e w' ⟨rfl, rfl⟩))
  go_ret
  exact ⟨rfl, rfl⟩
set_option maxHeartbeats 400000 in
theorem near_1d (e c : Int) (w : World) (h0 : 0 ≤ e) (h1 : e ≤ 4611686018427387904) (c0 : 0 ≤ c) (c1 : c < 256) (ha : e + 128 < e - e % 256 + c) (hb : 256 ≤ e - e % 256 + c) :
    Calls Tryz.prog 83 #[.int .u64 e, .int .u64 c, .int .i64 1] w fun r w' => r = .returned (.int .u64 (e - e % 256 + c - 256)) ∧ w' = w := by
  have e1 : bits .andNot .u64 e 255 = e - e % 256 := andNot_of e 255 8 h0 (by omega) (by decide) (by decide)
  have e2 : bits .or .u64 (e - e % 256) c = e - e % 256 + c := or_of (e - e % 256) c 8 (by omega) (by omega) (by omega) c0 (by omega) (by omega)
  go_enter Tryz.func83, Tryz.ntmps83
  go_wp2_with (first
    | (go_at_call 98; refine (window_1 _).mono ?_; rintro e w' ⟨rfl, rfl⟩)
    | (go_at_call 82; refine (maskw_1 _).mono ?_; rintro e w' ⟨rfl, rfl⟩))
  go_ret
  exact ⟨rfl, rfl⟩
set_option maxHeartbeats 400000 in
theorem near_1e (e c : Int) (w : World) (h0 : 0 ≤ e) (h1 : e ≤ 4611686018427387904) (c0 : 0 ≤ c) (c1 : c < 256) (ha : e + 128 < e - e % 256 + c) (hb : e - e % 256 + c < 256) :
    Calls Tryz.prog 83 #[.int .u64 e, .int .u64 c, .int .i64 1] w fun r w' => r = .returned (.int .u64 (e - e % 256 + c)) ∧ w' = w := by
  have e1 : bits .andNot .u64 e 255 = e - e % 256 := andNot_of e 255 8 h0 (by omega) (by decide) (by decide)
  have e2 : bits .or .u64 (e - e % 256) c = e - e % 256 + c := or_of (e - e % 256) c 8 (by omega) (by omega) (by omega) c0 (by omega) (by omega)
  go_enter Tryz.func83, Tryz.ntmps83
  go_wp2_with (first
    | (go_at_call 98; refine (window_1 _).mono ?_; rintro e w' ⟨rfl, rfl⟩)
    | (go_at_call 82; refine (maskw_1 _).mono ?_; rintro e w' ⟨rfl, rfl⟩))
  go_ret
  exact ⟨rfl, rfl⟩
set_option maxHeartbeats 400000 in
theorem near_2a (e c : Int) (w : World) (h0 : 0 ≤ e) (h1 : e ≤ 4611686018427387904) (c0 : 0 ≤ c) (c1 : c < 65536) (ha : e - e % 65536 + c ≤ e - 32768) (hb : e - e % 65536 + c + 65536 ≤ 4611686018427387903) :
    Calls Tryz.prog 83 #[.int .u64 e, .int .u64 c, .int .i64 2] w fun r w' => r = .returned (.int .u64 (e - e % 65536 + c + 65536)) ∧ w' = w := by
  have e1 : bits .andNot .u64 e 65535 = e - e % 65536 := andNot_of e 65535 16 h0 (by omega) (by decide) (by decide)
  have e2 : bits .or .u64 (e - e % 65536) c = e - e % 65536 + c := or_of (e - e % 65536) c 16 (by omega) (by omega) (by omega) c0 (by omega) (by omega)
  go_enter Tryz.func83, Tryz.ntmps83
  go_wp2_with (first
    | (go_at_call 98; refine (window_2 _).mono ?_; rintro e w' ⟨rfl, rfl⟩)
    | (go_at_call 82; refine (maskw_2 _).mono ?_; rintro e w' ⟨rfl, rfl⟩))
  go_ret
  exact ⟨rfl, rfl⟩
set_option maxHeartbeats 400000 in
theorem near_2b (e c : Int) (w : World) (h0 : 0 ≤ e) (h1 : e ≤ 4611686018427387904) (c0 : 0 ≤ c) (c1 : c < 65536) (ha : e - e % 65536 + c ≤ e - 32768) (hb : 4611686018427387903 < e - e % 65536 + c + 65536) :
    Calls Tryz.prog 83 #[.int .u64 e, .int .u64 c, .int .i64 2] w fun r w' => r = .returned (.int .u64 (e - e % 65536 + c)) ∧ w' = w := by
  have e1 : bits .andNot .u64 e 65535 = e - e % 65536 := andNot_of e 65535 16 h0 (by omega) (by decide) (by decide)
  have e2 : bits .or .u64 (e - e % 65536) c = e - e % 65536 + c := or_of (e - e % 65536) c 16 (by omega) (by omega) (by omega) c0 (by omega) (by omega)
  go_enter Tryz.func83, Tryz.ntmps83
  go_wp2_with (first
    | (go_at_call 98; refine (window_2 _).mono ?_; rintro e w' ⟨rfl, rfl⟩)
    | (go_at_call 82; refine (maskw_2 _).mono ?_; rintro e w' ⟨rfl, rfl⟩))
  go_ret
  exact ⟨rfl, rfl⟩
set_option maxHeartbeats 400000 in
theorem near_2c (e c : Int) (w : World) (h0 : 0 ≤ e) (h1 : e ≤ 4611686018427387904) (c0 : 0 ≤ c) (c1 : c < 65536) (ha : e - 32768 < e - e % 65536 + c) (hb : e - e % 65536 + c ≤ e + 32768) :
    Calls Tryz.prog 83 #[.int .u64 e, .int .u64 c, .int .i64 2] w fun r w' => r = .returned (.int .u64 (e - e % 65536 + c)) ∧ w' = w := by
  have e1 : bits .andNot .u64 e 65535 = e - e % 65536 := andNot_of e 65535 16 h0 (by omega) (by decide) (by decide)
  have e2 : bits .or .u64 (e - e % 65536) c = e - e % 65536 + c := or_of (e - e % 65536) c 16 (by omega) (by omega) (by omega) c0 (by omega) (by omega)
  go_enter Tryz.func83, Tryz.ntmps83
  go_wp2_with (first
    | (go_at_call 98; refine (window_2 _).mono ?_; rintro e w' ⟨rfl, rfl⟩)
    | (go_at_call 82; refine (maskw_2 _).mono ?_; rintro e w' ⟨rfl, rfl⟩))
  go_ret
  exact ⟨rfl, rfl⟩
set_option maxHeartbeats 400000 in
theorem near_2d (e c : Int) (w : World) (h0 : 0 ≤ e) (h1 : e ≤ 4611686018427387904) (c0 : 0 ≤ c) (c1 : c < 65536) (ha : e + 32768 < e - e % 65536 + c) (hb : 65536 ≤ e - e % 65536 + c) :
    Calls Tryz.prog 83 #[.int .u64 e, .int .u64 c, .int .i64 2] w fun r w' => r = .returned (.int .u64 (e - e % 65536 + c - 65536)) ∧ w' = w := by
  have e1 : bits .andNot .u64 e 65535 = e - e % 65536 := andNot_of e 65535 16 h0 (by omega) (by decide) (by decide)
  have e2 : bits .or .u64 (e - e % 65536) c = e - e % 65536 + c := or_of (e - e % 65536) c 16 (by omega) (by omega) (by omega) c0 (by omega) (by omega)
  go_enter Tryz.func83, Tryz.ntmps83
  go_wp2_with (first
    | (go_at_call 98; refine (window_2 _).mono ?_; rintro e w' ⟨rfl, rfl⟩)
    | (go_at_call 82; refine (maskw_2 _).mono ?_; rintro e w' ⟨rfl, rfl⟩))
  go_ret
  exact ⟨rfl, rfl⟩
set_option maxHeartbeats 400000 in
theorem near_2e (e c : Int) (w : World) (h0 : 0 ≤ e) (h1 : e ≤ 4611686018427387904) (c0 : 0 ≤ c) (c1 : c < 65536) (ha : e + 32768 < e - e % 65536 + c) (hb : e - e % 65536 + c < 65536) :
    Calls Tryz.prog 83 #[.int .u64 e, .int .u64 c, .int .i64 2] w fun r w' => r = .returned (.int .u64 (e - e % 65536 + c)) ∧ w' = w := by
  have e1 : bits .andNot .u64 e 65535 = e - e % 65536 := andNot_of e 65535 16 h0 (by omega) (by decide) (by decide)
  have e2 : bits .or .u64 (e - e % 65536) c = e - e % 65536 + c := or_of (e - e % 65536) c 16 (by omega) (by omega) (by omega) c0 (by omega) (by omega)
  go_enter Tryz.func83, Tryz.ntmps83
  go_wp2_with (first
    | (go_at_call 98; refine (window_2 _).mono ?_; rintro e w' ⟨rfl, rfl⟩)
    | (go_at_call 82; refine (maskw_2 _).mono ?_; rintro e w' ⟨rfl, rfl⟩))
  go_ret
  exact ⟨rfl, rfl⟩
set_option maxHeartbeats 400000 in
theorem near_3a (e c : Int) (w : World) (h0 : 0 ≤ e) (h1 : e ≤ 4611686018427387904) (c0 : 0 ≤ c) (c1 : c < 16777216) (ha : e - e % 16777216 + c ≤ e - 8388608) (hb : e - e % 16777216 + c + 16777216 ≤ 4611686018427387903) :
    Calls Tryz.prog 83 #[.int .u64 e, .int .u64 c, .int .i64 3] w fun r w' => r = .returned (.int .u64 (e - e % 16777216 + c + 16777216)) ∧ w' = w := by
  have e1 : bits .andNot .u64 e 16777215 = e - e % 16777216 := andNot_of e 16777215 24 h0 (by omega) (by decide) (by decide)
  have e2 : bits .or .u64 (e - e % 16777216) c = e - e % 16777216 + c := or_of (e - e % 16777216) c 24 (by omega) (by omega) (by omega) c0 (by omega) (by omega)
  go_enter Tryz.func83, Tryz.ntmps83
  go_wp2_with (first
    | (go_at_call 98; refine (window_3 _).mono ?_; rintro e w' ⟨rfl, rfl⟩)
    | (go_at_call 82; refine (maskw_3 _).mono ?_; rintro e w' ⟨rfl, rfl⟩))
  go_ret
  exact ⟨rfl, rfl⟩
set_option maxHeartbeats 400000 in
theorem near_3b (e c : Int) (w : World) (h0 : 0 ≤ e) (h1 : e ≤ 4611686018427387904) (c0 : 0 ≤ c) (c1 : c < 16777216) (ha : e - e % 16777216 + c ≤ e - 8388608) (hb : 4611686018427387903 < e - e % 16777216 + c + 16777216) :
    Calls Tryz.prog 83 #[.int .u64 e, .int .u64 c, .int .i64 3] w fun r w' => r = .returned (.int .u64 (e - e % 16777216 + c)) ∧ w' = w := by
  have e1 : bits .andNot .u64 e 16777215 = e - e % 16777216 := andNot_of e 16777215 24 h0 (by omega) (by decide) (by decide)
  have e2 : bits .or .u64 (e - e % 16777216) c = e - e % 16777216 + c := or_of (e - e % 16777216) c 24 (by omega) (by omega) (by omega) c0 (by omega) (by omega)
  go_enter Tryz.func83, Tryz.ntmps83
  go_wp2_with (first
    | (go_at_call 98; refine (window_3 _).mono ?_; rintro e w' ⟨rfl, rfl⟩)
    | (go_at_call 82; refine (maskw_3 _).mono ?_; rintro e w' ⟨rfl, rfl⟩))
  go_ret
  exact ⟨rfl, rfl⟩
set_option maxHeartbeats 400000 in
theorem near_3c (e c : Int) (w : World) (h0 : 0 ≤ e) (h1 : e ≤ 4611686018427387904) (c0 : 0 ≤ c) (c1 : c < 16777216) (ha : e - 8388608 < e - e % 16777216 + c) (hb : e - e % 16777216 + c ≤ e + 8388608) :
    Calls Tryz.prog 83 #[.int .u64 e, .int .u64 c, .int .i64 3] w fun r w' => r = .returned (.int .u64 (e - e % 16777216 + c)) ∧ w' = w := by
  have e1 : bits .andNot .u64 e 16777215 = e - e % 16777216 := andNot_of e 16777215 24 h0 (by omega) (by decide) (by decide)
  have e2 : bits .or .u64 (e - e % 16777216) c = e - e % 16777216 + c := or_of (e - e % 16777216) c 24 (by omega) (by omega) (by omega) c0 (by omega) (by omega)
  go_enter Tryz.func83, Tryz.ntmps83
  go_wp2_with (first
    | (go_at_call 98; refine (window_3 _).mono ?_; rintro e w' ⟨rfl, rfl⟩)
    | (go_at_call 82; refine (maskw_3 _).mono ?_; rintro e w' ⟨rfl, rfl⟩))
  go_ret
  exact ⟨rfl, rfl⟩
set_option maxHeartbeats 400000 in
theorem near_3d (e c : Int) (w : World) (h0 : 0 ≤ e) (h1 : e ≤ 4611686018427387904) (c0 : 0 ≤ c) (c1 : c < 16777216) (ha : e + 8388608 < e - e % 16777216 + c) (hb : 16777216 ≤ e - e % 16777216 + c) :
    Calls Tryz.prog 83 #[.int .u64 e, .int .u64 c, .int .i64 3] w fun r w' => r = .returned (.int .u64 (e - e % 16777216 + c - 16777216)) ∧ w' = w := by
  have e1 : bits .andNot .u64 e 16777215 = e - e % 16777216 := andNot_of e 16777215 24 h0 (by omega) (by decide) (by decide)
  have e2 : bits .or .u64 (e - e % 16777216) c = e - e % 16777216 + c := or_of (e - e % 16777216) c 24 (by omega) (by omega) (by omega) c0 (by omega) (by omega)
  go_enter Tryz.func83, Tryz.ntmps83
  go_wp2_with (first
    | (go_at_call 98; refine (window_3 _).mono ?_; rintro e w' ⟨rfl, rfl⟩)
    | (go_at_call 82; refine (maskw_3 _).mono ?_; rintro e w' ⟨rfl, rfl⟩))
  go_ret
  exact ⟨rfl, rfl⟩
set_option maxHeartbeats 400000 in
theorem near_3e (e c : Int) (w : World) (h0 : 0 ≤ e) (h1 : e ≤ 4611686018427387904) (c0 : 0 ≤ c) (c1 : c < 16777216) (ha : e + 8388608 < e - e % 16777216 + c) (hb : e - e % 16777216 + c < 16777216) :
    Calls Tryz.prog 83 #[.int .u64 e, .int .u64 c, .int .i64 3] w fun r w' => r = .returned (.int .u64 (e - e % 16777216 + c)) ∧ w' = w := by
  have e1 : bits .andNot .u64 e 16777215 = e - e % 16777216 := andNot_of e 16777215 24 h0 (by omega) (by decide) (by decide)
  have e2 : bits .or .u64 (e - e % 16777216) c = e - e % 16777216 + c := or_of (e - e % 16777216) c 24 (by omega) (by omega) (by omega) c0 (by omega) (by omega)
  go_enter Tryz.func83, Tryz.ntmps83
  go_wp2_with (first
    | (go_at_call 98; refine (window_3 _).mono ?_; rintro e w' ⟨rfl, rfl⟩)
    | (go_at_call 82; refine (maskw_3 _).mono ?_; rintro e w' ⟨rfl, rfl⟩))
  go_ret
  exact ⟨rfl, rfl⟩
set_option maxHeartbeats 400000 in
theorem near_4a (e c : Int) (w : World) (h0 : 0 ≤ e) (h1 : e ≤ 4611686018427387904) (c0 : 0 ≤ c) (c1 : c < 4294967296) (ha : e - e % 4294967296 + c ≤ e - 2147483648) (hb : e - e % 4294967296 + c + 4294967296 ≤ 4611686018427387903) :
    Calls Tryz.prog 83 #[.int .u64 e, .int .u64 c, .int .i64 4] w fun r w' => r = .returned (.int .u64 (e - e % 4294967296 + c + 4294967296)) ∧ w' = w := by
  have e1 : bits .andNot .u64 e 4294967295 = e - e % 4294967296 := andNot_of e 4294967295 32 h0 (by omega) (by decide) (by decide)
  have e2 : bits .or .u64 (e - e % 4294967296) c = e - e % 4294967296 + c := or_of (e - e % 4294967296) c 32 (by omega) (by omega) (by omega) c0 (by omega) (by omega)
  go_enter Tryz.func83, Tryz.ntmps83
  go_wp2_with (first
    | (go_at_call 98; refine (window_4 _).mono ?_; rintro e w' ⟨rfl, rfl⟩)
    | (go_at_call 82; refine (maskw_4 _).mono ?_; rintro e w' ⟨rfl, rfl⟩))
  go_ret
  exact ⟨rfl, rfl⟩
set_option maxHeartbeats 400000 in
theorem near_4b (e c : Int) (w : World) (h0 : 0 ≤ e) (h1 : e ≤ 4611686018427387904) (c0 : 0 ≤ c) (c1 : c < 4294967296) (ha : e - e % 4294967296 + c ≤ e - 2147483648) (hb : 4611686018427387903 < e - e % 4294967296 + c + 4294967296) :
    Calls Tryz.prog 83 #[.int .u64 e, .int .u64 c, .int .i64 4] w fun r w' => r = .returned (.int .u64 (e - e % 4294967296 + c)) ∧ w' = w := by
  have e1 : bits .andNot .u64 e 4294967295 = e - e % 4294967296 := andNot_of e 4294967295 32 h0 (by omega) (by decide) (by decide)
  have e2 : bits .or .u64 (e - e % 4294967296) c = e - e % 4294967296 + c := or_of (e - e % 4294967296) c 32 (by omega) (by omega) (by omega) c0 (by omega) (by omega)
  go_enter Tryz.func83, Tryz.ntmps83
  go_wp2_with (first
    | (go_at_call 98; refine (window_4 _).mono ?_; rintro e w' ⟨rfl, rfl⟩)
    | (go_at_call 82; refine (maskw_4 _).mono ?_; rintro e w' ⟨rfl, rfl⟩))
  go_ret
  exact ⟨rfl, rfl⟩
set_option maxHeartbeats 400000 in
theorem near_4c (e c : Int) (w : World) (h0 : 0 ≤ e) (h1 : e ≤ 4611686018427387904) (c0 : 0 ≤ c) (c1 : c < 4294967296) (ha : e - 2147483648 < e - e % 4294967296 + c) (hb : e - e % 4294967296 + c ≤ e + 2147483648) :
    Calls Tryz.prog 83 #[.int .u64 e, .int .u64 c, .int .i64 4] w fun r w' => r = .returned (.int .u64 (e - e % 4294967296 + c)) ∧ w' = w := by
  have e1 : bits .andNot .u64 e 4294967295 = e - e % 4294967296 := andNot_of e 4294967295 32 h0 (by omega) (by decide) (by decide)
  have e2 : bits .or .u64 (e - e % 4294967296) c = e - e % 4294967296 + c := or_of (e - e % 4294967296) c 32 (by omega) (by omega) (by omega) c0 (by omega) (by omega)
  go_enter Tryz.func83, Tryz.ntmps83
  go_wp2_with (first
    | (go_at_call 98; refine (window_4 _).mono ?_; rintro e w' ⟨rfl, rfl⟩)
    | (go_at_call 82; refine (maskw_4 _).mono ?_; rintro e w' ⟨rfl, rfl⟩))
  go_ret
  exact ⟨rfl, rfl⟩
set_option maxHeartbeats 400000 in
theorem near_4d (e c : Int) (w : World) (h0 : 0 ≤ e) (h1 : e ≤ 4611686018427387904) (c0 : 0 ≤ c) (c1 : c < 4294967296) (ha : e + 2147483648 < e - e % 4294967296 + c) (hb : 4294967296 ≤ e - e % 4294967296 + c) :
    Calls Tryz.prog 83 #[.int .u64 e, .int .u64 c, .int .i64 4] w fun r w' => r = .returned (.int .u64 (e - e % 4294967296 + c - 4294967296)) ∧ w' = w := by
  have e1 : bits .andNot .u64 e 4294967295 = e - e % 4294967296 := andNot_of e 4294967295 32 h0 (by omega) (by decide) (by decide)
  have e2 : bits .or .u64 (e - e % 4294967296) c = e - e % 4294967296 + c := or_of (e - e % 4294967296) c 32 (by omega) (by omega) (by omega) c0 (by omega) (by omega)
  go_enter Tryz.func83, Tryz.ntmps83
  go_wp2_with (first
    | (go_at_call 98; refine (window_4 _).mono ?_; rintro e w' ⟨rfl, rfl⟩)
    | (go_at_call 82; refine (maskw_4 _).mono ?_; rintro e w' ⟨rfl, rfl⟩))
  go_ret
  exact ⟨rfl, rfl⟩
set_option maxHeartbeats 400000 in
theorem near_4e (e c : Int) (w : World) (h0 : 0 ≤ e) (h1 : e ≤ 4611686018427387904) (c0 : 0 ≤ c) (c1 : c < 4294967296) (ha : e + 2147483648 < e - e % 4294967296 + c) (hb : e - e % 4294967296 + c < 4294967296) :
    Calls Tryz.prog 83 #[.int .u64 e, .int .u64 c, .int .i64 4] w fun r w' => r = .returned (.int .u64 (e - e % 4294967296 + c)) ∧ w' = w := by
  have e1 : bits .andNot .u64 e 4294967295 = e - e % 4294967296 := andNot_of e 4294967295 32 h0 (by omega) (by decide) (by decide)
  have e2 : bits .or .u64 (e - e % 4294967296) c = e - e % 4294967296 + c := or_of (e - e % 4294967296) c 32 (by omega) (by omega) (by omega) c0 (by omega) (by omega)
  go_enter Tryz.func83, Tryz.ntmps83
  go_wp2_with (first
    | (go_at_call 98; refine (window_4 _).mono ?_; rintro e w' ⟨rfl, rfl⟩)
    | (go_at_call 82; refine (maskw_4 _).mono ?_; rintro e w' ⟨rfl, rfl⟩))
  go_ret
  exact ⟨rfl, rfl⟩
end Go.Proofs.YthokfbgpoffafaaGreatDoor

namespace Go.Proofs.YthokfbgpoffafaaGreatDoor
open Go.RowKit
set_option linter.unusedVariables false

set_option maxHeartbeats 400000 in
theorem implEx_1a (l c : Int) (w : World) (h0 : -1 ≤ l) (h1 : l ≤ 4611686018427387903) (c0 : 0 ≤ c) (c1 : c < 256) (ha : (l + 1) - (l + 1) % 256 + c ≤ l + 1 - 128) (hb : (l + 1) - (l + 1) % 256 + c + 256 ≤ 4611686018427387903) :
    Calls Tryz.prog 58 #[.int .i64 l, .int .i64 c, .int .i64 1] w fun r w' => r = .returned (.int .i64 ((l + 1) - (l + 1) % 256 + c + 256)) ∧ w' = w := by
  have n := fun w => near_1a (l + 1) c w (by omega) (by omega) c0 c1 (by omega) (by omega)
  go_enter Tryz.func58, Tryz.ntmps58
  go_wp2_with (first
    | (go_at_call 81; refine (valid_ok 1 _ (by decide) (by decide)).mono ?_; rintro e w' ⟨rfl, rfl⟩)
    | (go_at_call 82; refine (maskw_1 _).mono ?_; rintro e w' ⟨rfl, rfl⟩)
    | (go_at_call 83; refine (n _).mono ?_; rintro e w' ⟨rfl, rfl⟩))
  go_ret
  exact ⟨rfl, rfl⟩
set_option maxHeartbeats 400000 in
theorem implEx_1b (l c : Int) (w : World) (h0 : -1 ≤ l) (h1 : l ≤ 4611686018427387903) (c0 : 0 ≤ c) (c1 : c < 256) (ha : (l + 1) - (l + 1) % 256 + c ≤ l + 1 - 128) (hb : 4611686018427387903 < (l + 1) - (l + 1) % 256 + c + 256) :
    Calls Tryz.prog 58 #[.int .i64 l, .int .i64 c, .int .i64 1] w fun r w' => r = .returned (.int .i64 ((l + 1) - (l + 1) % 256 + c)) ∧ w' = w := by
  have n := fun w => near_1b (l + 1) c w (by omega) (by omega) c0 c1 (by omega) (by omega)
  go_enter Tryz.func58, Tryz.ntmps58
  go_wp2_with (first
    | (go_at_call 81; refine (valid_ok 1 _ (by decide) (by decide)).mono ?_; rintro e w' ⟨rfl, rfl⟩)
    | (go_at_call 82; refine (maskw_1 _).mono ?_; rintro e w' ⟨rfl, rfl⟩)
    | (go_at_call 83; refine (n _).mono ?_; rintro e w' ⟨rfl, rfl⟩))
  go_ret
  exact ⟨rfl, rfl⟩
set_option maxHeartbeats 400000 in
theorem implEx_1c (l c : Int) (w : World) (h0 : -1 ≤ l) (h1 : l ≤ 4611686018427387903) (c0 : 0 ≤ c) (c1 : c < 256) (ha : l + 1 - 128 < (l + 1) - (l + 1) % 256 + c) (hb : (l + 1) - (l + 1) % 256 + c ≤ l + 1 + 128) (hm : (l + 1) - (l + 1) % 256 + c ≤ 4611686018427387903) :
    Calls Tryz.prog 58 #[.int .i64 l, .int .i64 c, .int .i64 1] w fun r w' => r = .returned (.int .i64 ((l + 1) - (l + 1) % 256 + c)) ∧ w' = w := by
  have n := fun w => near_1c (l + 1) c w (by omega) (by omega) c0 c1 (by omega) (by omega)
  go_enter Tryz.func58, Tryz.ntmps58
  go_wp2_with (first
    | (go_at_call 81; refine (valid_ok 1 _ (by decide) (by decide)).mono ?_; rintro e w' ⟨rfl, rfl⟩)
    | (go_at_call 82; refine (maskw_1 _).mono ?_; rintro e w' ⟨rfl, rfl⟩)
    | (go_at_call 83; refine (n _).mono ?_; rintro e w' ⟨rfl, rfl⟩))
  go_ret
  exact ⟨rfl, rfl⟩
set_option maxHeartbeats 400000 in
theorem implEx_1d (l c : Int) (w : World) (h0 : -1 ≤ l) (h1 : l ≤ 4611686018427387903) (c0 : 0 ≤ c) (c1 : c < 256) (ha : l + 1 + 128 < (l + 1) - (l + 1) % 256 + c) (hb : 256 ≤ (l + 1) - (l + 1) % 256 + c) :
    Calls Tryz.prog 58 #[.int .i64 l, .int .i64 c, .int .i64 1] w fun r w' => r = .returned (.int .i64 ((l + 1) - (l + 1) % 256 + c - 256)) ∧ w' = w := by
  have n := fun w => near_1d (l + 1) c w (by omega) (by omega) c0 c1 (by omega) (by omega)
  go_enter Tryz.func58, Tryz.ntmps58
  go_wp2_with (first
    | (go_at_call 81; refine (valid_ok 1 _ (by decide) (by decide)).mono ?_; rintro e w' ⟨rfl, rfl⟩)
    | (go_at_call 82; refine (maskw_1 _).mono ?_; rintro e w' ⟨rfl, rfl⟩)
    | (go_at_call 83; refine (n _).mono ?_; rintro e w' ⟨rfl, rfl⟩))
  go_ret
  exact ⟨rfl, rfl⟩
set_option maxHeartbeats 400000 in
theorem implEx_1e (l c : Int) (w : World) (h0 : -1 ≤ l) (h1 : l ≤ 4611686018427387903) (c0 : 0 ≤ c) (c1 : c < 256) (ha : l + 1 + 128 < (l + 1) - (l + 1) % 256 + c) (hb : (l + 1) - (l + 1) % 256 + c < 256) :
    Calls Tryz.prog 58 #[.int .i64 l, .int .i64 c, .int .i64 1] w fun r w' => r = .returned (.int .i64 ((l + 1) - (l + 1) % 256 + c)) ∧ w' = w := by
  have n := fun w => near_1e (l + 1) c w (by omega) (by omega) c0 c1 (by omega) (by omega)
  go_enter Tryz.func58, Tryz.ntmps58
  go_wp2_with (first
    | (go_at_call 81; refine (valid_ok 1 _ (by decide) (by decide)).mono ?_; rintro e w' ⟨rfl, rfl⟩)
    | (go_at_call 82; refine (maskw_1 _).mono ?_; rintro e w' ⟨rfl, rfl⟩)
    | (go_at_call 83; refine (n _).mono ?_; rintro e w' ⟨rfl, rfl⟩))
  go_ret
  exact ⟨rfl, rfl⟩
set_option maxHeartbeats 400000 in
theorem implEx_1f (l c : Int) (w : World) (h0 : -1 ≤ l) (h1 : l ≤ 4611686018427387903) (c0 : 0 ≤ c) (c1 : c < 256) (ha : l + 1 - 128 < (l + 1) - (l + 1) % 256 + c) (hb : (l + 1) - (l + 1) % 256 + c ≤ l + 1 + 128) (hm : 4611686018427387903 < (l + 1) - (l + 1) % 256 + c) :
    Calls Tryz.prog 58 #[.int .i64 l, .int .i64 c, .int .i64 1] w fun r w' => r = .returned (.int .i64 (-1)) ∧ w' = w := by
  have n := fun w => near_1c (l + 1) c w (by omega) (by omega) c0 c1 (by omega) (by omega)
  go_enter Tryz.func58, Tryz.ntmps58
  go_wp2_with (first
    | (go_at_call 81; refine (valid_ok 1 _ (by decide) (by decide)).mono ?_; rintro e w' ⟨rfl, rfl⟩)
    | (go_at_call 82; refine (maskw_1 _).mono ?_; rintro e w' ⟨rfl, rfl⟩)
    | (go_at_call 83; refine (n _).mono ?_; rintro e w' ⟨rfl, rfl⟩))
  go_ret
  exact ⟨rfl, rfl⟩
set_option maxHeartbeats 400000 in
theorem implEx_2a (l c : Int) (w : World) (h0 : -1 ≤ l) (h1 : l ≤ 4611686018427387903) (c0 : 0 ≤ c) (c1 : c < 65536) (ha : (l + 1) - (l + 1) % 65536 + c ≤ l + 1 - 32768) (hb : (l + 1) - (l + 1) % 65536 + c + 65536 ≤ 4611686018427387903) :
    Calls Tryz.prog 58 #[.int .i64 l, .int .i64 c, .int .i64 2] w fun r w' => r = .returned (.int .i64 ((l + 1) - (l + 1) % 65536 + c + 65536)) ∧ w' = w := by
  have n := fun w => near_2a (l + 1) c w (by omega) (by omega) c0 c1 (by omega) (by omega)
  go_enter Tryz.func58, Tryz.ntmps58
  go_wp2_with (first
    | (go_at_call 81; refine (valid_ok 2 _ (by decide) (by decide)).mono ?_; rintro e w' ⟨rfl, rfl⟩)
    | (go_at_call 82; refine (maskw_2 _).mono ?_; rintro e w' ⟨rfl, rfl⟩)
    | (go_at_call 83; refine (n _).mono ?_; rintro e w' ⟨rfl, rfl⟩))
  go_ret
  exact ⟨rfl, rfl⟩
set_option maxHeartbeats 400000 in
theorem implEx_2b (l c : Int) (w : World) (h0 : -1 ≤ l) (h1 : l ≤ 4611686018427387903) (c0 : 0 ≤ c) (c1 : c < 65536) (ha : (l + 1) - (l + 1) % 65536 + c ≤ l + 1 - 32768) (hb : 4611686018427387903 < (l + 1) - (l + 1) % 65536 + c + 65536) :
    Calls Tryz.prog 58 #[.int .i64 l, .int .i64 c, .int .i64 2] w fun r w' => r = .returned (.int .i64 ((l + 1) - (l + 1) % 65536 + c)) ∧ w' = w := by
  have n := fun w => near_2b (l + 1) c w (by omega) (by omega) c0 c1 (by omega) (by omega)
  go_enter Tryz.func58, Tryz.ntmps58
  go_wp2_with (first
    | (go_at_call 81; refine (valid_ok 2 _ (by decide) (by decide)).mono ?_; rintro e w' ⟨rfl, rfl⟩)
    | (go_at_call 82; refine (maskw_2 _).mono ?_; rintro e w' ⟨rfl, rfl⟩)
    | (go_at_call 83; refine (n _).mono ?_; rintro e w' ⟨rfl, rfl⟩))
  go_ret
  exact ⟨rfl, rfl⟩
set_option maxHeartbeats 400000 in
theorem implEx_2c (l c : Int) (w : World) (h0 : -1 ≤ l) (h1 : l ≤ 4611686018427387903) (c0 : 0 ≤ c) (c1 : c < 65536) (ha : l + 1 - 32768 < (l + 1) - (l + 1) % 65536 + c) (hb : (l + 1) - (l + 1) % 65536 + c ≤ l + 1 + 32768) (hm : (l + 1) - (l + 1) % 65536 + c ≤ 4611686018427387903) :
    Calls Tryz.prog 58 #[.int .i64 l, .int .i64 c, .int .i64 2] w fun r w' => r = .returned (.int .i64 ((l + 1) - (l + 1) % 65536 + c)) ∧ w' = w := by
  have n := fun w => near_2c (l + 1) c w (by omega) (by omega) c0 c1 (by omega) (by omega)
  go_enter Tryz.func58, Tryz.ntmps58
  go_wp2_with (first
    | (go_at_call 81; refine (valid_ok 2 _ (by decide) (by decide)).mono ?_; rintro e w' ⟨rfl, rfl⟩)
    | (go_at_call 82; refine (maskw_2 _).mono ?_; rintro e w' ⟨rfl, rfl⟩)
    | (go_at_call 83; refine (n _).mono ?_; rintro e w' ⟨rfl, rfl⟩))
  go_ret
  exact ⟨rfl, rfl⟩
set_option maxHeartbeats 400000 in
theorem implEx_2d (l c : Int) (w : World) (h0 : -1 ≤ l) (h1 : l ≤ 4611686018427387903) (c0 : 0 ≤ c) (c1 : c < 65536) (ha : l + 1 + 32768 < (l + 1) - (l + 1) % 65536 + c) (hb : 65536 ≤ (l + 1) - (l + 1) % 65536 + c) :
    Calls Tryz.prog 58 #[.int .i64 l, .int .i64 c, .int .i64 2] w fun r w' => r = .returned (.int .i64 ((l + 1) - (l + 1) % 65536 + c - 65536)) ∧ w' = w := by
  have n := fun w => near_2d (l + 1) c w (by omega) (by omega) c0 c1 (by omega) (by omega)
  go_enter Tryz.func58, Tryz.ntmps58
  go_wp2_with (first
    | (go_at_call 81; refine (valid_ok 2 _ (by decide) (by decide)).mono ?_; rintro e w' ⟨rfl, rfl⟩)
    | (go_at_call 82; refine (maskw_2 _).mono ?_; rintro e w' ⟨rfl, rfl⟩)
    | (go_at_call 83; refine (n _).mono ?_; rintro e w' ⟨rfl, rfl⟩))
  go_ret
  exact ⟨rfl, rfl⟩
set_option maxHeartbeats 400000 in
theorem implEx_2e (l c : Int) (w : World) (h0 : -1 ≤ l) (h1 : l ≤ 4611686018427387903) (c0 : 0 ≤ c) (c1 : c < 65536) (ha : l + 1 + 32768 < (l + 1) - (l + 1) % 65536 + c) (hb : (l + 1) - (l + 1) % 65536 + c < 65536) :
    Calls Tryz.prog 58 #[.int .i64 l, .int .i64 c, .int .i64 2] w fun r w' => r = .returned (.int .i64 ((l + 1) - (l + 1) % 65536 + c)) ∧ w' = w := by
  have n := fun w => near_2e (l + 1) c w (by omega) (by omega) c0 c1 (by omega) (by omega)
  go_enter Tryz.func58, Tryz.ntmps58
  go_wp2_with (first
    | (go_at_call 81; refine (valid_ok 2 _ (by decide) (by decide)).mono ?_; rintro e w' ⟨rfl, rfl⟩)
    | (go_at_call 82; refine (maskw_2 _).mono ?_; rintro e w' ⟨rfl, rfl⟩)
    | (go_at_call 83; refine (n _).mono ?_; rintro e w' ⟨rfl, rfl⟩))
  go_ret
  exact ⟨rfl, rfl⟩
set_option maxHeartbeats 400000 in
theorem implEx_2f (l c : Int) (w : World) (h0 : -1 ≤ l) (h1 : l ≤ 4611686018427387903) (c0 : 0 ≤ c) (c1 : c < 65536) (ha : l + 1 - 32768 < (l + 1) - (l + 1) % 65536 + c) (hb : (l + 1) - (l + 1) % 65536 + c ≤ l + 1 + 32768) (hm : 4611686018427387903 < (l + 1) - (l + 1) % 65536 + c) :
    Calls Tryz.prog 58 #[.int .i64 l, .int .i64 c, .int .i64 2] w fun r w' => r = .returned (.int .i64 (-1)) ∧ w' = w := by
  have n := fun w => near_2c (l + 1) c w (by omega) (by omega) c0 c1 (by omega) (by omega)
  go_enter Tryz.func58, Tryz.ntmps58
  go_wp2_with (first
    | (go_at_call 81; refine (valid_ok 2 _ (by decide) (by decide)).mono ?_; rintro e w' ⟨rfl, rfl⟩)
    | (go_at_call 82; refine (maskw_2 _).mono ?_; rintro e w' ⟨rfl, rfl⟩)
    | (go_at_call 83; refine (n _).mono ?_; rintro e w' ⟨rfl, rfl⟩))
  go_ret
  exact ⟨rfl, rfl⟩
set_option maxHeartbeats 400000 in
theorem implEx_3a (l c : Int) (w : World) (h0 : -1 ≤ l) (h1 : l ≤ 4611686018427387903) (c0 : 0 ≤ c) (c1 : c < 16777216) (ha : (l + 1) - (l + 1) % 16777216 + c ≤ l + 1 - 8388608) (hb : (l + 1) - (l + 1) % 16777216 + c + 16777216 ≤ 4611686018427387903) :
    Calls Tryz.prog 58 #[.int .i64 l, .int .i64 c, .int .i64 3] w fun r w' => r = .returned (.int .i64 ((l + 1) - (l + 1) % 16777216 + c + 16777216)) ∧ w' = w := by
  have n := fun w => near_3a (l + 1) c w (by omega) (by omega) c0 c1 (by omega) (by omega)
  go_enter Tryz.func58, Tryz.ntmps58
  go_wp2_with (first
    | (go_at_call 81; refine (valid_ok 3 _ (by decide) (by decide)).mono ?_; rintro e w' ⟨rfl, rfl⟩)
    | (go_at_call 82; refine (maskw_3 _).mono ?_; rintro e w' ⟨rfl, rfl⟩)
    | (go_at_call 83; refine (n _).mono ?_; rintro e w' ⟨rfl, rfl⟩))
  go_ret
  exact ⟨rfl, rfl⟩
set_option maxHeartbeats 400000 in
theorem implEx_3b (l c : Int) (w : World) (h0 : -1 ≤ l) (h1 : l ≤ 4611686018427387903) (c0 : 0 ≤ c) (c1 : c < 16777216) (ha : (l + 1) - (l + 1) % 16777216 + c ≤ l + 1 - 8388608) (hb : 4611686018427387903 < (l + 1) - (l + 1) % 16777216 + c + 16777216) :
    Calls Tryz.prog 58 #[.int .i64 l, .int .i64 c, .int .i64 3] w fun r w' => r = .returned (.int .i64 ((l + 1) - (l + 1) % 16777216 + c)) ∧ w' = w := by
  have n := fun w => near_3b (l + 1) c w (by omega) (by omega) c0 c1 (by omega) (by omega)
  go_enter Tryz.func58, Tryz.ntmps58
  go_wp2_with (first
    | (go_at_call 81; refine (valid_ok 3 _ (by decide) (by decide)).mono ?_; rintro e w' ⟨rfl, rfl⟩)
    | (go_at_call 82; refine (maskw_3 _).mono ?_; rintro e w' ⟨rfl, rfl⟩)
    | (go_at_call 83; refine (n _).mono ?_; rintro e w' ⟨rfl, rfl⟩))
  go_ret
  exact ⟨rfl, rfl⟩
set_option maxHeartbeats 400000 in
theorem implEx_3c (l c : Int) (w : World) (h0 : -1 ≤ l) (h1 : l ≤ 4611686018427387903) (c0 : 0 ≤ c) (c1 : c < 16777216) (ha : l + 1 - 8388608 < (l + 1) - (l + 1) % 16777216 + c) (hb : (l + 1) - (l + 1) % 16777216 + c ≤ l + 1 + 8388608) (hm : (l + 1) - (l + 1) % 16777216 + c ≤ 4611686018427387903) :
    Calls Tryz.prog 58 #[.int .i64 l, .int .i64 c, .int .i64 3] w fun r w' => r = .returned (.int .i64 ((l + 1) - (l + 1) % 16777216 + c)) ∧ w' = w := by
  have n := fun w => near_3c (l + 1) c w (by omega) (by omega) c0 c1 (by omega) (by omega)
  go_enter Tryz.func58, Tryz.ntmps58
  go_wp2_with (first
    | (go_at_call 81; refine (valid_ok 3 _ (by decide) (by decide)).mono ?_; rintro e w' ⟨rfl, rfl⟩)
    | (go_at_call 82; refine (maskw_3 _).mono ?_; rintro e w' ⟨rfl, rfl⟩)
    | (go_at_call 83; refine (n _).mono ?_; rintro e w' ⟨rfl, rfl⟩))
  go_ret
  exact ⟨rfl, rfl⟩
set_option maxHeartbeats 400000 in
theorem implEx_3d (l c : Int) (w : World) (h0 : -1 ≤ l) (h1 : l ≤ 4611686018427387903) (c0 : 0 ≤ c) (c1 : c < 16777216) (ha : l + 1 + 8388608 < (l + 1) - (l + 1) % 16777216 + c) (hb : 16777216 ≤ (l + 1) - (l + 1) % 16777216 + c) :
    Calls Tryz.prog 58 #[.int .i64 l, .int .i64 c, .int .i64 3] w fun r w' => r = .returned (.int .i64 ((l + 1) - (l + 1) % 16777216 + c - 16777216)) ∧ w' = w := by
  have n := fun w => near_3d (l + 1) c w (by omega) (by omega) c0 c1 (by omega) (by omega)
  go_enter Tryz.func58, Tryz.ntmps58
  go_wp2_with (first
    | (go_at_call 81; refine (valid_ok 3 _ (by decide) (by decide)).mono ?_; rintro e w' ⟨rfl, rfl⟩)
    | (go_at_call 82; refine (maskw_3 _).mono ?_; rintro e w' ⟨rfl, rfl⟩)
    | (go_at_call 83; refine (n _).mono ?_; rintro e w' ⟨rfl, rfl⟩))
  go_ret
  exact ⟨rfl, rfl⟩
set_option maxHeartbeats 400000 in
theorem implEx_3e (l c : Int) (w : World) (h0 : -1 ≤ l) (h1 : l ≤ 4611686018427387903) (c0 : 0 ≤ c) (c1 : c < 16777216) (ha : l + 1 + 8388608 < (l + 1) - (l + 1) % 16777216 + c) (hb : (l + 1) - (l + 1) % 16777216 + c < 16777216) :
    Calls Tryz.prog 58 #[.int .i64 l, .int .i64 c, .int .i64 3] w fun r w' => r = .returned (.int .i64 ((l + 1) - (l + 1) % 16777216 + c)) ∧ w' = w := by
  have n := fun w => near_3e (l + 1) c w (by omega) (by omega) c0 c1 (by omega) (by omega)
  go_enter Tryz.func58, Tryz.ntmps58
  go_wp2_with (first
    | (go_at_call 81; refine (valid_ok 3 _ (by decide) (by decide)).mono ?_; rintro e w' ⟨rfl, rfl⟩)
    | (go_at_call 82; refine (maskw_3 _).mono ?_; rintro e w' ⟨rfl, rfl⟩)
    | (go_at_call 83; refine (n _).mono ?_; rintro e w' ⟨rfl, rfl⟩))
  go_ret
  exact ⟨rfl, rfl⟩
set_option maxHeartbeats 400000 in
theorem implEx_3f (l c : Int) (w : World) (h0 : -1 ≤ l) (h1 : l ≤ 4611686018427387903) (c0 : 0 ≤ c) (c1 : c < 16777216) (ha : l + 1 - 8388608 < (l + 1) - (l + 1) % 16777216 + c) (hb : (l + 1) - (l + 1) % 16777216 + c ≤ l + 1 + 8388608) (hm : 4611686018427387903 < (l + 1) - (l + 1) % 16777216 + c) :
    Calls Tryz.prog 58 #[.int .i64 l, .int .i64 c, .int .i64 3] w fun r w' => r = .returned (.int .i64 (-1)) ∧ w' = w := by
  have n := fun w => near_3c (l + 1) c w (by omega) (by omega) c0 c1 (by omega) (by omega)
  go_enter Tryz.func58, Tryz.ntmps58
  go_wp2_with (first
    | (go_at_call 81; refine (valid_ok 3 _ (by decide) (by decide)).mono ?_; rintro e w' ⟨rfl, rfl⟩)
    | (go_at_call 82; refine (maskw_3 _).mono ?_; rintro e w' ⟨rfl, rfl⟩)
    | (go_at_call 83; refine (n _).mono ?_; rintro e w' ⟨rfl, rfl⟩))
  go_ret
  exact ⟨rfl, rfl⟩
set_option maxHeartbeats 400000 in
theorem implEx_4a (l c : Int) (w : World) (h0 : -1 ≤ l) (h1 : l ≤ 4611686018427387903) (c0 : 0 ≤ c) (c1 : c < 4294967296) (ha : (l + 1) - (l + 1) % 4294967296 + c ≤ l + 1 - 2147483648) (hb : (l + 1) - (l + 1) % 4294967296 + c + 4294967296 ≤ 4611686018427387903) :
    Calls Tryz.prog 58 #[.int .i64 l, .int .i64 c, .int .i64 4] w fun r w' => r = .returned (.int .i64 ((l + 1) - (l + 1) % 4294967296 + c + 4294967296)) ∧ w' = w := by
  have n := fun w => near_4a (l + 1) c w (by omega) (by omega) c0 c1 (by omega) (by omega)
  go_enter Tryz.func58, Tryz.ntmps58
  go_wp2_with (first
    | (go_at_call 81; refine (valid_ok 4 _ (by decide) (by decide)).mono ?_; rintro e w' ⟨rfl, rfl⟩)
    | (go_at_call 82; refine (maskw_4 _).mono ?_; rintro e w' ⟨rfl, rfl⟩)
    | (go_at_call 83; refine (n _).mono ?_; rintro e w' ⟨rfl, rfl⟩))
  go_ret
  exact ⟨rfl, rfl⟩
set_option maxHeartbeats 400000 in
theorem implEx_4b (l c : Int) (w : World) (h0 : -1 ≤ l) (h1 : l ≤ 4611686018427387903) (c0 : 0 ≤ c) (c1 : c < 4294967296) (ha : (l + 1) - (l + 1) % 4294967296 + c ≤ l + 1 - 2147483648) (hb : 4611686018427387903 < (l + 1) - (l + 1) % 4294967296 + c + 4294967296) :
    Calls Tryz.prog 58 #[.int .i64 l, .int .i64 c, .int .i64 4] w fun r w' => r = .returned (.int .i64 ((l + 1) - (l + 1) % 4294967296 + c)) ∧ w' = w := by
  have n := fun w => near_4b (l + 1) c w (by omega) (by omega) c0 c1 (by omega) (by omega)
  go_enter Tryz.func58, Tryz.ntmps58
  go_wp2_with (first
    | (go_at_call 81; refine (valid_ok 4 _ (by decide) (by decide)).mono ?_; rintro e w' ⟨rfl, rfl⟩)
    | (go_at_call 82; refine (maskw_4 _).mono ?_; rintro e w' ⟨rfl, rfl⟩)
    | (go_at_call 83; refine (n _).mono ?_; rintro e w' ⟨rfl, rfl⟩))
  go_ret
  exact ⟨rfl, rfl⟩
set_option maxHeartbeats 400000 in
theorem implEx_4c (l c : Int) (w : World) (h0 : -1 ≤ l) (h1 : l ≤ 4611686018427387903) (c0 : 0 ≤ c) (c1 : c < 4294967296) (ha : l + 1 - 2147483648 < (l + 1) - (l + 1) % 4294967296 + c) (hb : (l + 1) - (l + 1) % 4294967296 + c ≤ l + 1 + 2147483648) (hm : (l + 1) - (l + 1) % 4294967296 + c ≤ 4611686018427387903) :
    Calls Tryz.prog 58 #[.int .i64 l, .int .i64 c, .int .i64 4] w fun r w' => r = .returned (.int .i64 ((l + 1) - (l + 1) % 4294967296 + c)) ∧ w' = w := by
  have n := fun w => near_4c (l + 1) c w (by omega) (by omega) c0 c1 (by omega) (by omega)
  go_enter Tryz.func58, Tryz.ntmps58
  go_wp2_with (first
    | (go_at_call 81; refine (valid_ok 4 _ (by decide) (by decide)).mono ?_; rintro e w' ⟨rfl, rfl⟩)
    | (go_at_call 82; refine (maskw_4 _).mono ?_; rintro e w' ⟨rfl, rfl⟩)
    | (go_at_call 83; refine (n _).mono ?_; rintro e w' ⟨rfl, rfl⟩))
  go_ret
  exact ⟨rfl, rfl⟩
set_option maxHeartbeats 400000 in
theorem implEx_4d (l c : Int) (w : World) (h0 : -1 ≤ l) (h1 : l ≤ 4611686018427387903) (c0 : 0 ≤ c) (c1 : c < 4294967296) (ha : l + 1 + 2147483648 < (l + 1) - (l + 1) % 4294967296 + c) (hb : 4294967296 ≤ (l + 1) - (l + 1) % 4294967296 + c) :
    Calls Tryz.prog 58 #[.int .i64 l, .int .i64 c, .int .i64 4] w fun r w' => r = .returned (.int .i64 ((l + 1) - (l + 1) % 4294967296 + c - 4294967296)) ∧ w' = w := by
  have n := fun w => near_4d (l + 1) c w (by omega) (by omega) c0 c1 (by omega) (by omega)
  go_enter Tryz.func58, Tryz.ntmps58
  go_wp2_with (first
    | (go_at_call 81; refine (valid_ok 4 _ (by decide) (by decide)).mono ?_; rintro e w' ⟨rfl, rfl⟩)
    | (go_at_call 82; refine (maskw_4 _).mono ?_; rintro e w' ⟨rfl, rfl⟩)
    | (go_at_call 83; refine (n _).mono ?_; rintro e w' ⟨rfl, rfl⟩))
  go_ret
  exact ⟨rfl, rfl⟩
set_option maxHeartbeats 400000 in
theorem implEx_4e (l c : Int) (w : World) (h0 : -1 ≤ l) (h1 : l ≤ 4611686018427387903) (c0 : 0 ≤ c) (c1 : c < 4294967296) (ha : l + 1 + 2147483648 < (l + 1) - (l + 1) % 4294967296 + c) (hb : (l + 1) - (l + 1) % 4294967296 + c < 4294967296) :
    Calls Tryz.prog 58 #[.int .i64 l, .int .i64 c, .int .i64 4] w fun r w' => r = .returned (.int .i64 ((l + 1) - (l + 1) % 4294967296 + c)) ∧ w' = w := by
  have n := fun w => near_4e (l + 1) c w (by omega) (by omega) c0 c1 (by omega) (by omega)
  go_enter Tryz.func58, Tryz.ntmps58
  go_wp2_with (first
    | (go_at_call 81; refine (valid_ok 4 _ (by decide) (by decide)).mono ?_; rintro e w' ⟨rfl, rfl⟩)
    | (go_at_call 82; refine (maskw_4 _).mono ?_; rintro e w' ⟨rfl, rfl⟩)
    | (go_at_call 83; refine (n _).mono ?_; rintro e w' ⟨rfl, rfl⟩))
  go_ret
  exact ⟨rfl, rfl⟩
set_option maxHeartbeats 400000 in
theorem implEx_4f (l c : Int) (w : World) (h0 : -1 ≤ l) (h1 : l ≤ 4611686018427387903) (c0 : 0 ≤ c) (c1 : c < 4294967296) (ha : l + 1 - 2147483648 < (l + 1) - (l + 1) % 4294967296 + c) (hb : (l + 1) - (l + 1) % 4294967296 + c ≤ l + 1 + 2147483648) (hm : 4611686018427387903 < (l + 1) - (l + 1) % 4294967296 + c) :
    Calls Tryz.prog 58 #[.int .i64 l, .int .i64 c, .int .i64 4] w fun r w' => r = .returned (.int .i64 (-1)) ∧ w' = w := by
  have n := fun w => near_4c (l + 1) c w (by omega) (by omega) c0 c1 (by omega) (by omega)
  go_enter Tryz.func58, Tryz.ntmps58
  go_wp2_with (first
    | (go_at_call 81; refine (valid_ok 4 _ (by decide) (by decide)).mono ?_; rintro e w' ⟨rfl, rfl⟩)
    | (go_at_call 82; refine (maskw_4 _).mono ?_; rintro e w' ⟨rfl, rfl⟩)
    | (go_at_call 83; refine (n _).mono ?_; rintro e w' ⟨rfl, rfl⟩))
  go_ret
  exact ⟨rfl, rfl⟩
theorem implEx_1n (l c : Int) (w : World) (h0 : -1 ≤ l) (h1 : l ≤ 4611686018427387903) (c0 : c < 0) :
    Calls Tryz.prog 58 #[.int .i64 l, .int .i64 c, .int .i64 1] w fun r w' => r = .returned (.int .i64 (-1)) ∧ w' = w := by
  go_enter Tryz.func58, Tryz.ntmps58
  go_wp2_with (first
    | (go_at_call 81; refine (valid_ok 1 _ (by decide) (by decide)).mono ?_; rintro e w' ⟨rfl, rfl⟩)
    | (go_at_call 82; refine (maskw_1 _).mono ?_; rintro e w' ⟨rfl, rfl⟩))
  go_ret
  exact ⟨rfl, rfl⟩
theorem implEx_1p (l c : Int) (w : World) (h0 : -1 ≤ l) (h1 : l ≤ 4611686018427387903) (c0 : 0 ≤ c) (c1 : 256 ≤ c) (c2 : c ≤ 9223372036854775807) :
    Calls Tryz.prog 58 #[.int .i64 l, .int .i64 c, .int .i64 1] w fun r w' => r = .returned (.int .i64 (-1)) ∧ w' = w := by
  go_enter Tryz.func58, Tryz.ntmps58
  go_wp2_with (first
    | (go_at_call 81; refine (valid_ok 1 _ (by decide) (by decide)).mono ?_; rintro e w' ⟨rfl, rfl⟩)
    | (go_at_call 82; refine (maskw_1 _).mono ?_; rintro e w' ⟨rfl, rfl⟩))
  go_ret
  exact ⟨rfl, rfl⟩
theorem implEx_2n (l c : Int) (w : World) (h0 : -1 ≤ l) (h1 : l ≤ 4611686018427387903) (c0 : c < 0) :
    Calls Tryz.prog 58 #[.int .i64 l, .int .i64 c, .int .i64 2] w fun r w' => r = .returned (.int .i64 (-1)) ∧ w' = w := by
  go_enter Tryz.func58, Tryz.ntmps58
  go_wp2_with (first
    | (go_at_call 81; refine (valid_ok 2 _ (by decide) (by decide)).mono ?_; rintro e w' ⟨rfl, rfl⟩)
    | (go_at_call 82; refine (maskw_2 _).mono ?_; rintro e w' ⟨rfl, rfl⟩))
  go_ret
  exact ⟨rfl, rfl⟩
theorem implEx_2p (l c : Int) (w : World) (h0 : -1 ≤ l) (h1 : l ≤ 4611686018427387903) (c0 : 0 ≤ c) (c1 : 65536 ≤ c) (c2 : c ≤ 9223372036854775807) :
    Calls Tryz.prog 58 #[.int .i64 l, .int .i64 c, .int .i64 2] w fun r w' => r = .returned (.int .i64 (-1)) ∧ w' = w := by
  go_enter Tryz.func58, Tryz.ntmps58
  go_wp2_with (first
    | (go_at_call 81; refine (valid_ok 2 _ (by decide) (by decide)).mono ?_; rintro e w' ⟨rfl, rfl⟩)
    | (go_at_call 82; refine (maskw_2 _).mono ?_; rintro e w' ⟨rfl, rfl⟩))
  go_ret
  exact ⟨rfl, rfl⟩
theorem implEx_3n (l c : Int) (w : World) (h0 : -1 ≤ l) (h1 : l ≤ 4611686018427387903) (c0 : c < 0) :
    Calls Tryz.prog 58 #[.int .i64 l, .int .i64 c, .int .i64 3] w fun r w' => r = .returned (.int .i64 (-1)) ∧ w' = w := by
  go_enter Tryz.func58, Tryz.ntmps58
  go_wp2_with (first
    | (go_at_call 81; refine (valid_ok 3 _ (by decide) (by decide)).mono ?_; rintro e w' ⟨rfl, rfl⟩)
    | (go_at_call 82; refine (maskw_3 _).mono ?_; rintro e w' ⟨rfl, rfl⟩))
  go_ret
  exact ⟨rfl, rfl⟩
theorem implEx_3p (l c : Int) (w : World) (h0 : -1 ≤ l) (h1 : l ≤ 4611686018427387903) (c0 : 0 ≤ c) (c1 : 16777216 ≤ c) (c2 : c ≤ 9223372036854775807) :
    Calls Tryz.prog 58 #[.int .i64 l, .int .i64 c, .int .i64 3] w fun r w' => r = .returned (.int .i64 (-1)) ∧ w' = w := by
  go_enter Tryz.func58, Tryz.ntmps58
  go_wp2_with (first
    | (go_at_call 81; refine (valid_ok 3 _ (by decide) (by decide)).mono ?_; rintro e w' ⟨rfl, rfl⟩)
    | (go_at_call 82; refine (maskw_3 _).mono ?_; rintro e w' ⟨rfl, rfl⟩))
  go_ret
  exact ⟨rfl, rfl⟩
theorem implEx_4n (l c : Int) (w : World) (h0 : -1 ≤ l) (h1 : l ≤ 4611686018427387903) (c0 : c < 0) :
    Calls Tryz.prog 58 #[.int .i64 l, .int .i64 c, .int .i64 4] w fun r w' => r = .returned (.int .i64 (-1)) ∧ w' = w := by
  go_enter Tryz.func58, Tryz.ntmps58
  go_wp2_with (first
    | (go_at_call 81; refine (valid_ok 4 _ (by decide) (by decide)).mono ?_; rintro e w' ⟨rfl, rfl⟩)
    | (go_at_call 82; refine (maskw_4 _).mono ?_; rintro e w' ⟨rfl, rfl⟩))
  go_ret
  exact ⟨rfl, rfl⟩
theorem implEx_4p (l c : Int) (w : World) (h0 : -1 ≤ l) (h1 : l ≤ 4611686018427387903) (c0 : 0 ≤ c) (c1 : 4294967296 ≤ c) (c2 : c ≤ 9223372036854775807) :
    Calls Tryz.prog 58 #[.int .i64 l, .int .i64 c, .int .i64 4] w fun r w' => r = .returned (.int .i64 (-1)) ∧ w' = w := by
  go_enter Tryz.func58, Tryz.ntmps58
  go_wp2_with (first
    | (go_at_call 81; refine (valid_ok 4 _ (by decide) (by decide)).mono ?_; rintro e w' ⟨rfl, rfl⟩)
    | (go_at_call 82; refine (maskw_4 _).mono ?_; rintro e w' ⟨rfl, rfl⟩))
  go_ret
  exact ⟨rfl, rfl⟩
theorem implExBad (l c n : Int) (w : World) (h : l < -1 ∨ 4611686018427387903 < l ∨ n < 1 ∨ 4 < n) : Calls Tryz.prog 58 #[.int .i64 l, .int .i64 c, .int .i64 n] w fun r w' => r = .returned (.int .i64 (-1)) ∧ w' = w := by
  by_cases a : l < -1
  · clear h
    go_enter Tryz.func58, Tryz.ntmps58
    go_wp2
    go_ret
    exact ⟨rfl, rfl⟩
  · by_cases b : 4611686018427387903 < l
    · clear h
      go_enter Tryz.func58, Tryz.ntmps58
      go_wp2
      go_ret
      exact ⟨rfl, rfl⟩
    · have v := fun w => valid_not n w (by omega)
      clear h
      go_enter Tryz.func58, Tryz.ntmps58
      go_wp2_with (go_at_call 81; refine (v _).mono ?_; rintro e w' ⟨rfl, rfl⟩)
      go_ret
      exact ⟨rfl, rfl⟩
theorem implEx_1 (l c : Int) (w : World) (h0 : -1 ≤ l) (h1 : l ≤ 4611686018427387903) (c0 : 0 ≤ c) (c1 : c < 256) :
    Calls Tryz.prog 58 #[.int .i64 l, .int .i64 c, .int .i64 1] w fun r w' => r = .returned (.int .i64 (exV (l + 1) c 256)) ∧ w' = w := by
  by_cases a : (l + 1) - (l + 1) % 256 + c ≤ l + 1 - 128
  · by_cases b : (l + 1) - (l + 1) % 256 + c + 256 ≤ 4611686018427387903
    · rw [show exV (l + 1) c 256 = (l + 1) - (l + 1) % 256 + c + 256 by unfold exV; rw [if_pos (by omega)]]
      exact implEx_1a l c w h0 h1 c0 c1 a b
    · rw [show exV (l + 1) c 256 = (l + 1) - (l + 1) % 256 + c by unfold exV; rw [if_neg (by omega), if_neg (by omega), if_neg (by omega)]]
      exact implEx_1b l c w h0 h1 c0 c1 a (by omega)
  · by_cases b : (l + 1) - (l + 1) % 256 + c ≤ l + 1 + 128
    · by_cases m : (l + 1) - (l + 1) % 256 + c ≤ 4611686018427387903
      · rw [show exV (l + 1) c 256 = (l + 1) - (l + 1) % 256 + c by unfold exV; rw [if_neg (by omega), if_neg (by omega), if_neg (by omega)]]
        exact implEx_1c l c w h0 h1 c0 c1 (by omega) b m
      · rw [show exV (l + 1) c 256 = -1 by unfold exV; rw [if_neg (by omega), if_neg (by omega), if_pos (by omega)]]
        exact implEx_1f l c w h0 h1 c0 c1 (by omega) b (by omega)
    · by_cases d : 256 ≤ (l + 1) - (l + 1) % 256 + c
      · rw [show exV (l + 1) c 256 = (l + 1) - (l + 1) % 256 + c - 256 by unfold exV; rw [if_neg (by omega), if_pos (by omega)]]
        exact implEx_1d l c w h0 h1 c0 c1 (by omega) d
      · rw [show exV (l + 1) c 256 = (l + 1) - (l + 1) % 256 + c by unfold exV; rw [if_neg (by omega), if_neg (by omega), if_neg (by omega)]]
        exact implEx_1e l c w h0 h1 c0 c1 (by omega) (by omega)
theorem implEx_2 (l c : Int) (w : World) (h0 : -1 ≤ l) (h1 : l ≤ 4611686018427387903) (c0 : 0 ≤ c) (c1 : c < 65536) :
    Calls Tryz.prog 58 #[.int .i64 l, .int .i64 c, .int .i64 2] w fun r w' => r = .returned (.int .i64 (exV (l + 1) c 65536)) ∧ w' = w := by
  by_cases a : (l + 1) - (l + 1) % 65536 + c ≤ l + 1 - 32768
  · by_cases b : (l + 1) - (l + 1) % 65536 + c + 65536 ≤ 4611686018427387903
    · rw [show exV (l + 1) c 65536 = (l + 1) - (l + 1) % 65536 + c + 65536 by unfold exV; rw [if_pos (by omega)]]
      exact implEx_2a l c w h0 h1 c0 c1 a b
    · rw [show exV (l + 1) c 65536 = (l + 1) - (l + 1) % 65536 + c by unfold exV; rw [if_neg (by omega), if_neg (by omega), if_neg (by omega)]]
      exact implEx_2b l c w h0 h1 c0 c1 a (by omega)
  · by_cases b : (l + 1) - (l + 1) % 65536 + c ≤ l + 1 + 32768
    · by_cases m : (l + 1) - (l + 1) % 65536 + c ≤ 4611686018427387903
      · rw [show exV (l + 1) c 65536 = (l + 1) - (l + 1) % 65536 + c by unfold exV; rw [if_neg (by omega), if_neg (by omega), if_neg (by omega)]]
        exact implEx_2c l c w h0 h1 c0 c1 (by omega) b m
      · rw [show exV (l + 1) c 65536 = -1 by unfold exV; rw [if_neg (by omega), if_neg (by omega), if_pos (by omega)]]
        exact implEx_2f l c w h0 h1 c0 c1 (by omega) b (by omega)
    · by_cases d : 65536 ≤ (l + 1) - (l + 1) % 65536 + c
      · rw [show exV (l + 1) c 65536 = (l + 1) - (l + 1) % 65536 + c - 65536 by unfold exV; rw [if_neg (by omega), if_pos (by omega)]]
        exact implEx_2d l c w h0 h1 c0 c1 (by omega) d
      · rw [show exV (l + 1) c 65536 = (l + 1) - (l + 1) % 65536 + c by unfold exV; rw [if_neg (by omega), if_neg (by omega), if_neg (by omega)]]
        exact implEx_2e l c w h0 h1 c0 c1 (by omega) (by omega)
theorem implEx_3 (l c : Int) (w : World) (h0 : -1 ≤ l) (h1 : l ≤ 4611686018427387903) (c0 : 0 ≤ c) (c1 : c < 16777216) :
    Calls Tryz.prog 58 #[.int .i64 l, .int .i64 c, .int .i64 3] w fun r w' => r = .returned (.int .i64 (exV (l + 1) c 16777216)) ∧ w' = w := by
  by_cases a : (l + 1) - (l + 1) % 16777216 + c ≤ l + 1 - 8388608
  · by_cases b : (l + 1) - (l + 1) % 16777216 + c + 16777216 ≤ 4611686018427387903
    · rw [show exV (l + 1) c 16777216 = (l + 1) - (l + 1) % 16777216 + c + 16777216 by unfold exV; rw [if_pos (by omega)]]
      exact implEx_3a l c w h0 h1 c0 c1 a b
    · rw [show exV (l + 1) c 16777216 = (l + 1) - (l + 1) % 16777216 + c by unfold exV; rw [if_neg (by omega), if_neg (by omega), if_neg (by omega)]]
      exact implEx_3b l c w h0 h1 c0 c1 a (by omega)
  · by_cases b : (l + 1) - (l + 1) % 16777216 + c ≤ l + 1 + 8388608
    · by_cases m : (l + 1) - (l + 1) % 16777216 + c ≤ 4611686018427387903
      · rw [show exV (l + 1) c 16777216 = (l + 1) - (l + 1) % 16777216 + c by unfold exV; rw [if_neg (by omega), if_neg (by omega), if_neg (by omega)]]
        exact implEx_3c l c w h0 h1 c0 c1 (by omega) b m
      · rw [show exV (l + 1) c 16777216 = -1 by unfold exV; rw [if_neg (by omega), if_neg (by omega), if_pos (by omega)]]
        exact implEx_3f l c w h0 h1 c0 c1 (by omega) b (by omega)
    · by_cases d : 16777216 ≤ (l + 1) - (l + 1) % 16777216 + c
      · rw [show exV (l + 1) c 16777216 = (l + 1) - (l + 1) % 16777216 + c - 16777216 by unfold exV; rw [if_neg (by omega), if_pos (by omega)]]
        exact implEx_3d l c w h0 h1 c0 c1 (by omega) d
      · rw [show exV (l + 1) c 16777216 = (l + 1) - (l + 1) % 16777216 + c by unfold exV; rw [if_neg (by omega), if_neg (by omega), if_neg (by omega)]]
        exact implEx_3e l c w h0 h1 c0 c1 (by omega) (by omega)
theorem implEx_4 (l c : Int) (w : World) (h0 : -1 ≤ l) (h1 : l ≤ 4611686018427387903) (c0 : 0 ≤ c) (c1 : c < 4294967296) :
    Calls Tryz.prog 58 #[.int .i64 l, .int .i64 c, .int .i64 4] w fun r w' => r = .returned (.int .i64 (exV (l + 1) c 4294967296)) ∧ w' = w := by
  by_cases a : (l + 1) - (l + 1) % 4294967296 + c ≤ l + 1 - 2147483648
  · by_cases b : (l + 1) - (l + 1) % 4294967296 + c + 4294967296 ≤ 4611686018427387903
    · rw [show exV (l + 1) c 4294967296 = (l + 1) - (l + 1) % 4294967296 + c + 4294967296 by unfold exV; rw [if_pos (by omega)]]
      exact implEx_4a l c w h0 h1 c0 c1 a b
    · rw [show exV (l + 1) c 4294967296 = (l + 1) - (l + 1) % 4294967296 + c by unfold exV; rw [if_neg (by omega), if_neg (by omega), if_neg (by omega)]]
      exact implEx_4b l c w h0 h1 c0 c1 a (by omega)
  · by_cases b : (l + 1) - (l + 1) % 4294967296 + c ≤ l + 1 + 2147483648
    · by_cases m : (l + 1) - (l + 1) % 4294967296 + c ≤ 4611686018427387903
      · rw [show exV (l + 1) c 4294967296 = (l + 1) - (l + 1) % 4294967296 + c by unfold exV; rw [if_neg (by omega), if_neg (by omega), if_neg (by omega)]]
        exact implEx_4c l c w h0 h1 c0 c1 (by omega) b m
      · rw [show exV (l + 1) c 4294967296 = -1 by unfold exV; rw [if_neg (by omega), if_neg (by omega), if_pos (by omega)]]
        exact implEx_4f l c w h0 h1 c0 c1 (by omega) b (by omega)
    · by_cases d : 4294967296 ≤ (l + 1) - (l + 1) % 4294967296 + c
      · rw [show exV (l + 1) c 4294967296 = (l + 1) - (l + 1) % 4294967296 + c - 4294967296 by unfold exV; rw [if_neg (by omega), if_pos (by omega)]]
        exact implEx_4d l c w h0 h1 c0 c1 (by omega) d
      · rw [show exV (l + 1) c 4294967296 = (l + 1) - (l + 1) % 4294967296 + c by unfold exV; rw [if_neg (by omega), if_neg (by omega), if_neg (by omega)]]
        exact implEx_4e l c w h0 h1 c0 c1 (by omega) (by omega)
theorem implEx (l c n : Int) (w : World) (hc : c ≤ 9223372036854775807) : Calls Tryz.prog 58 #[.int .i64 l, .int .i64 c, .int .i64 n] w fun r w' => r = .returned (.int .i64 (expV l c n)) ∧ w' = w := by
  by_cases h : l < -1 ∨ 4611686018427387903 < l ∨ n < 1 ∨ 4 < n
  · rw [show expV l c n = -1 by unfold expV; rw [if_pos h]]
    exact implExBad l c n w h
  · have hk : n = 1 ∨ n = 2 ∨ n = 3 ∨ n = 4 := by omega
    rcases hk with rfl | rfl | rfl | rfl
    · by_cases d : c < 0 ∨ 256 ≤ c
      · rw [show expV l c 1 = -1 by unfold expV; rw [if_neg h, if_pos rfl, if_pos d]]
        by_cases d' : c < 0
        · exact implEx_1n l c w (by omega) (by omega) d'
        · exact implEx_1p l c w (by omega) (by omega) (by omega) (by omega) hc
      · rw [show expV l c 1 = exV (l + 1) c 256 by unfold expV; rw [if_neg h, if_pos rfl, if_neg d]]
        exact implEx_1 l c w (by omega) (by omega) (by omega) (by omega)
    · by_cases d : c < 0 ∨ 65536 ≤ c
      · rw [show expV l c 2 = -1 by unfold expV; rw [if_neg h, if_neg (by decide), if_pos rfl, if_pos d]]
        by_cases d' : c < 0
        · exact implEx_2n l c w (by omega) (by omega) d'
        · exact implEx_2p l c w (by omega) (by omega) (by omega) (by omega) hc
      · rw [show expV l c 2 = exV (l + 1) c 65536 by unfold expV; rw [if_neg h, if_neg (by decide), if_pos rfl, if_neg d]]
        exact implEx_2 l c w (by omega) (by omega) (by omega) (by omega)
    · by_cases d : c < 0 ∨ 16777216 ≤ c
      · rw [show expV l c 3 = -1 by unfold expV; rw [if_neg h, if_neg (by decide), if_neg (by decide), if_pos rfl, if_pos d]]
        by_cases d' : c < 0
        · exact implEx_3n l c w (by omega) (by omega) d'
        · exact implEx_3p l c w (by omega) (by omega) (by omega) (by omega) hc
      · rw [show expV l c 3 = exV (l + 1) c 16777216 by unfold expV; rw [if_neg h, if_neg (by decide), if_neg (by decide), if_pos rfl, if_neg d]]
        exact implEx_3 l c w (by omega) (by omega) (by omega) (by omega)
    · by_cases d : c < 0 ∨ 4294967296 ≤ c
      · rw [show expV l c 4 = -1 by unfold expV; rw [if_neg h, if_neg (by decide), if_neg (by decide), if_neg (by decide), if_pos d]]
        by_cases d' : c < 0
        · exact implEx_4n l c w (by omega) (by omega) d'
        · exact implEx_4p l c w (by omega) (by omega) (by omega) (by omega) hc
      · rw [show expV l c 4 = exV (l + 1) c 4294967296 by unfold expV; rw [if_neg h, if_neg (by decide), if_neg (by decide), if_neg (by decide), if_neg d]]
        exact implEx_4 l c w (by omega) (by omega) (by omega) (by omega)
end Go.Proofs.YthokfbgpoffafaaGreatDoor

namespace Go.Proofs.YthokfbgpoffafaaGreatDoor
open Go.RowKit
set_option linter.unusedVariables false

theorem pw_1 (w : World) : Calls Tryz.prog 40 #[.int .i64 1] w fun e w' => e = .returned (.int .i64 256) ∧ w' = w := by
  go_enter Tryz.func40, Tryz.ntmps40
  go_wp2
  refine wp_loop_rounds 2 ?_
  rw [rounds_succ]
  go_wp2
  rw [rounds_succ]
  go_wp2
  go_ret
  exact ⟨rfl, rfl⟩

theorem pw_2 (w : World) : Calls Tryz.prog 40 #[.int .i64 2] w fun e w' => e = .returned (.int .i64 65536) ∧ w' = w := by
  go_enter Tryz.func40, Tryz.ntmps40
  go_wp2
  refine wp_loop_rounds 3 ?_
  rw [rounds_succ]
  go_wp2
  rw [rounds_succ]
  go_wp2
  rw [rounds_succ]
  go_wp2
  go_ret
  exact ⟨rfl, rfl⟩

theorem pw_3 (w : World) : Calls Tryz.prog 40 #[.int .i64 3] w fun e w' => e = .returned (.int .i64 16777216) ∧ w' = w := by
  go_enter Tryz.func40, Tryz.ntmps40
  go_wp2
  refine wp_loop_rounds 4 ?_
  rw [rounds_succ]
  go_wp2
  rw [rounds_succ]
  go_wp2
  rw [rounds_succ]
  go_wp2
  rw [rounds_succ]
  go_wp2
  go_ret
  exact ⟨rfl, rfl⟩

theorem pw_4 (w : World) : Calls Tryz.prog 40 #[.int .i64 4] w fun e w' => e = .returned (.int .i64 4294967296) ∧ w' = w := by
  go_enter Tryz.func40, Tryz.ntmps40
  go_wp2
  refine wp_loop_rounds 5 ?_
  rw [rounds_succ]
  go_wp2
  rw [rounds_succ]
  go_wp2
  rw [rounds_succ]
  go_wp2
  rw [rounds_succ]
  go_wp2
  rw [rounds_succ]
  go_wp2
  go_ret
  exact ⟨rfl, rfl⟩

end Go.Proofs.YthokfbgpoffafaaGreatDoor

namespace Go.Proofs.YthokfbgpoffafaaGreatDoor
open Go.RowKit
set_option linter.unusedVariables false

set_option maxHeartbeats 400000 in
theorem specEx_1a (l c : Int) (w : World) (h0 : -1 ≤ l) (h1 : l ≤ 4611686018427387903) (c0 : 0 ≤ c) (c1 : c < 256) (ha : (l + 1) - (l + 1) % 256 + c ≤ l + 1 - 128) (hb : (l + 1) - (l + 1) % 256 + c + 256 ≤ 4611686018427387903) :
    Calls Tryz.prog 24 #[.int .i64 l, .int .i64 c, .int .i64 1] w fun r w' => r = .returned (.int .i64 ((l + 1) - (l + 1) % 256 + c + 256)) ∧ w' = w := by
  go_enter Tryz.func24, Tryz.ntmps24
  go_wp2_with (go_at_call 40; refine (pw_1 _).mono ?_; rintro e w' ⟨rfl, rfl⟩)
  go_ret
  exact ⟨rfl, rfl⟩
set_option maxHeartbeats 400000 in
theorem specEx_1b (l c : Int) (w : World) (h0 : -1 ≤ l) (h1 : l ≤ 4611686018427387903) (c0 : 0 ≤ c) (c1 : c < 256) (ha : (l + 1) - (l + 1) % 256 + c ≤ l + 1 - 128) (hb : 4611686018427387903 < (l + 1) - (l + 1) % 256 + c + 256) :
    Calls Tryz.prog 24 #[.int .i64 l, .int .i64 c, .int .i64 1] w fun r w' => r = .returned (.int .i64 ((l + 1) - (l + 1) % 256 + c)) ∧ w' = w := by
  go_enter Tryz.func24, Tryz.ntmps24
  go_wp2_with (go_at_call 40; refine (pw_1 _).mono ?_; rintro e w' ⟨rfl, rfl⟩)
  go_ret
  exact ⟨rfl, rfl⟩
set_option maxHeartbeats 400000 in
theorem specEx_1c (l c : Int) (w : World) (h0 : -1 ≤ l) (h1 : l ≤ 4611686018427387903) (c0 : 0 ≤ c) (c1 : c < 256) (ha : l + 1 - 128 < (l + 1) - (l + 1) % 256 + c) (hb : (l + 1) - (l + 1) % 256 + c ≤ l + 1 + 128) (hm : (l + 1) - (l + 1) % 256 + c ≤ 4611686018427387903) :
    Calls Tryz.prog 24 #[.int .i64 l, .int .i64 c, .int .i64 1] w fun r w' => r = .returned (.int .i64 ((l + 1) - (l + 1) % 256 + c)) ∧ w' = w := by
  go_enter Tryz.func24, Tryz.ntmps24
  go_wp2_with (go_at_call 40; refine (pw_1 _).mono ?_; rintro e w' ⟨rfl, rfl⟩)
  go_ret
  exact ⟨rfl, rfl⟩
set_option maxHeartbeats 400000 in
theorem specEx_1d (l c : Int) (w : World) (h0 : -1 ≤ l) (h1 : l ≤ 4611686018427387903) (c0 : 0 ≤ c) (c1 : c < 256) (ha : l + 1 + 128 < (l + 1) - (l + 1) % 256 + c) (hb : 256 ≤ (l + 1) - (l + 1) % 256 + c) :
    Calls Tryz.prog 24 #[.int .i64 l, .int .i64 c, .int .i64 1] w fun r w' => r = .returned (.int .i64 ((l + 1) - (l + 1) % 256 + c - 256)) ∧ w' = w := by
  go_enter Tryz.func24, Tryz.ntmps24
  go_wp2_with (go_at_call 40; refine (pw_1 _).mono ?_; rintro e w' ⟨rfl, rfl⟩)
  go_ret
  exact ⟨rfl, rfl⟩
set_option maxHeartbeats 400000 in
theorem specEx_1e (l c : Int) (w : World) (h0 : -1 ≤ l) (h1 : l ≤ 4611686018427387903) (c0 : 0 ≤ c) (c1 : c < 256) (ha : l + 1 + 128 < (l + 1) - (l + 1) % 256 + c) (hb : (l + 1) - (l + 1) % 256 + c < 256) :
    Calls Tryz.prog 24 #[.int .i64 l, .int .i64 c, .int .i64 1] w fun r w' => r = .returned (.int .i64 ((l + 1) - (l + 1) % 256 + c)) ∧ w' = w := by
  go_enter Tryz.func24, Tryz.ntmps24
  go_wp2_with (go_at_call 40; refine (pw_1 _).mono ?_; rintro e w' ⟨rfl, rfl⟩)
  go_ret
  exact ⟨rfl, rfl⟩
set_option maxHeartbeats 400000 in
theorem specEx_1f (l c : Int) (w : World) (h0 : -1 ≤ l) (h1 : l ≤ 4611686018427387903) (c0 : 0 ≤ c) (c1 : c < 256) (ha : l + 1 - 128 < (l + 1) - (l + 1) % 256 + c) (hb : (l + 1) - (l + 1) % 256 + c ≤ l + 1 + 128) (hm : 4611686018427387903 < (l + 1) - (l + 1) % 256 + c) :
    Calls Tryz.prog 24 #[.int .i64 l, .int .i64 c, .int .i64 1] w fun r w' => r = .returned (.int .i64 (-1)) ∧ w' = w := by
  go_enter Tryz.func24, Tryz.ntmps24
  go_wp2_with (go_at_call 40; refine (pw_1 _).mono ?_; rintro e w' ⟨rfl, rfl⟩)
  go_ret
  exact ⟨rfl, rfl⟩
set_option maxHeartbeats 400000 in
theorem specEx_2a (l c : Int) (w : World) (h0 : -1 ≤ l) (h1 : l ≤ 4611686018427387903) (c0 : 0 ≤ c) (c1 : c < 65536) (ha : (l + 1) - (l + 1) % 65536 + c ≤ l + 1 - 32768) (hb : (l + 1) - (l + 1) % 65536 + c + 65536 ≤ 4611686018427387903) :
    Calls Tryz.prog 24 #[.int .i64 l, .int .i64 c, .int .i64 2] w fun r w' => r = .returned (.int .i64 ((l + 1) - (l + 1) % 65536 + c + 65536)) ∧ w' = w := by
  go_enter Tryz.func24, Tryz.ntmps24
  go_wp2_with (go_at_call 40; refine (pw_2 _).mono ?_; rintro e w' ⟨rfl, rfl⟩)
  go_ret
  exact ⟨rfl, rfl⟩
set_option maxHeartbeats 400000 in
theorem specEx_2b (l c : Int) (w : World) (h0 : -1 ≤ l) (h1 : l ≤ 4611686018427387903) (c0 : 0 ≤ c) (c1 : c < 65536) (ha : (l + 1) - (l + 1) % 65536 + c ≤ l + 1 - 32768) (hb : 4611686018427387903 < (l + 1) - (l + 1) % 65536 + c + 65536) :
    Calls Tryz.prog 24 #[.int .i64 l, .int .i64 c, .int .i64 2] w fun r w' => r = .returned (.int .i64 ((l + 1) - (l + 1) % 65536 + c)) ∧ w' = w := by
  go_enter Tryz.func24, Tryz.ntmps24
  go_wp2_with (go_at_call 40; refine (pw_2 _).mono ?_; rintro e w' ⟨rfl, rfl⟩)
  go_ret
  exact ⟨rfl, rfl⟩
set_option maxHeartbeats 400000 in
theorem specEx_2c (l c : Int) (w : World) (h0 : -1 ≤ l) (h1 : l ≤ 4611686018427387903) (c0 : 0 ≤ c) (c1 : c < 65536) (ha : l + 1 - 32768 < (l + 1) - (l + 1) % 65536 + c) (hb : (l + 1) - (l + 1) % 65536 + c ≤ l + 1 + 32768) (hm : (l + 1) - (l + 1) % 65536 + c ≤ 4611686018427387903) :
    Calls Tryz.prog 24 #[.int .i64 l, .int .i64 c, .int .i64 2] w fun r w' => r = .returned (.int .i64 ((l + 1) - (l + 1) % 65536 + c)) ∧ w' = w := by
  go_enter Tryz.func24, Tryz.ntmps24
  go_wp2_with (go_at_call 40; refine (pw_2 _).mono ?_; rintro e w' ⟨rfl, rfl⟩)
  go_ret
  exact ⟨rfl, rfl⟩
set_option maxHeartbeats 400000 in
theorem specEx_2d (l c : Int) (w : World) (h0 : -1 ≤ l) (h1 : l ≤ 4611686018427387903) (c0 : 0 ≤ c) (c1 : c < 65536) (ha : l + 1 + 32768 < (l + 1) - (l + 1) % 65536 + c) (hb : 65536 ≤ (l + 1) - (l + 1) % 65536 + c) :
    Calls Tryz.prog 24 #[.int .i64 l, .int .i64 c, .int .i64 2] w fun r w' => r = .returned (.int .i64 ((l + 1) - (l + 1) % 65536 + c - 65536)) ∧ w' = w := by
  go_enter Tryz.func24, Tryz.ntmps24
  go_wp2_with (go_at_call 40; refine (pw_2 _).mono ?_; rintro e w' ⟨rfl, rfl⟩)
  go_ret
  exact ⟨rfl, rfl⟩
set_option maxHeartbeats 400000 in
theorem specEx_2e (l c : Int) (w : World) (h0 : -1 ≤ l) (h1 : l ≤ 4611686018427387903) (c0 : 0 ≤ c) (c1 : c < 65536) (ha : l + 1 + 32768 < (l + 1) - (l + 1) % 65536 + c) (hb : (l + 1) - (l + 1) % 65536 + c < 65536) :
    Calls Tryz.prog 24 #[.int .i64 l, .int .i64 c, .int .i64 2] w fun r w' => r = .returned (.int .i64 ((l + 1) - (l + 1) % 65536 + c)) ∧ w' = w := by
  go_enter Tryz.func24, Tryz.ntmps24
  go_wp2_with (go_at_call 40; refine (pw_2 _).mono ?_; rintro e w' ⟨rfl, rfl⟩)
  go_ret
  exact ⟨rfl, rfl⟩
set_option maxHeartbeats 400000 in
theorem specEx_2f (l c : Int) (w : World) (h0 : -1 ≤ l) (h1 : l ≤ 4611686018427387903) (c0 : 0 ≤ c) (c1 : c < 65536) (ha : l + 1 - 32768 < (l + 1) - (l + 1) % 65536 + c) (hb : (l + 1) - (l + 1) % 65536 + c ≤ l + 1 + 32768) (hm : 4611686018427387903 < (l + 1) - (l + 1) % 65536 + c) :
    Calls Tryz.prog 24 #[.int .i64 l, .int .i64 c, .int .i64 2] w fun r w' => r = .returned (.int .i64 (-1)) ∧ w' = w := by
  go_enter Tryz.func24, Tryz.ntmps24
  go_wp2_with (go_at_call 40; refine (pw_2 _).mono ?_; rintro e w' ⟨rfl, rfl⟩)
  go_ret
  exact ⟨rfl, rfl⟩
set_option maxHeartbeats 400000 in
theorem specEx_3a (l c : Int) (w : World) (h0 : -1 ≤ l) (h1 : l ≤ 4611686018427387903) (c0 : 0 ≤ c) (c1 : c < 16777216) (ha : (l + 1) - (l + 1) % 16777216 + c ≤ l + 1 - 8388608) (hb : (l + 1) - (l + 1) % 16777216 + c + 16777216 ≤ 4611686018427387903) :
    Calls Tryz.prog 24 #[.int .i64 l, .int .i64 c, .int .i64 3] w fun r w' => r = .returned (.int .i64 ((l + 1) - (l + 1) % 16777216 + c + 16777216)) ∧ w' = w := by
  go_enter Tryz.func24, Tryz.ntmps24
  go_wp2_with (go_at_call 40; refine (pw_3 _).mono ?_; rintro e w' ⟨rfl, rfl⟩)
  go_ret
  exact ⟨rfl, rfl⟩
set_option maxHeartbeats 400000 in
theorem specEx_3b (l c : Int) (w : World) (h0 : -1 ≤ l) (h1 : l ≤ 4611686018427387903) (c0 : 0 ≤ c) (c1 : c < 16777216) (ha : (l + 1) - (l + 1) % 16777216 + c ≤ l + 1 - 8388608) (hb : 4611686018427387903 < (l + 1) - (l + 1) % 16777216 + c + 16777216) :
    Calls Tryz.prog 24 #[.int .i64 l, .int .i64 c, .int .i64 3] w fun r w' => r = .returned (.int .i64 ((l + 1) - (l + 1) % 16777216 + c)) ∧ w' = w := by
  go_enter Tryz.func24, Tryz.ntmps24
  go_wp2_with (go_at_call 40; refine (pw_3 _).mono ?_; rintro e w' ⟨rfl, rfl⟩)
  go_ret
  exact ⟨rfl, rfl⟩
set_option maxHeartbeats 400000 in
theorem specEx_3c (l c : Int) (w : World) (h0 : -1 ≤ l) (h1 : l ≤ 4611686018427387903) (c0 : 0 ≤ c) (c1 : c < 16777216) (ha : l + 1 - 8388608 < (l + 1) - (l + 1) % 16777216 + c) (hb : (l + 1) - (l + 1) % 16777216 + c ≤ l + 1 + 8388608) (hm : (l + 1) - (l + 1) % 16777216 + c ≤ 4611686018427387903) :
    Calls Tryz.prog 24 #[.int .i64 l, .int .i64 c, .int .i64 3] w fun r w' => r = .returned (.int .i64 ((l + 1) - (l + 1) % 16777216 + c)) ∧ w' = w := by
  go_enter Tryz.func24, Tryz.ntmps24
  go_wp2_with (go_at_call 40; refine (pw_3 _).mono ?_; rintro e w' ⟨rfl, rfl⟩)
  go_ret
  exact ⟨rfl, rfl⟩
set_option maxHeartbeats 400000 in
theorem specEx_3d (l c : Int) (w : World) (h0 : -1 ≤ l) (h1 : l ≤ 4611686018427387903) (c0 : 0 ≤ c) (c1 : c < 16777216) (ha : l + 1 + 8388608 < (l + 1) - (l + 1) % 16777216 + c) (hb : 16777216 ≤ (l + 1) - (l + 1) % 16777216 + c) :
    Calls Tryz.prog 24 #[.int .i64 l, .int .i64 c, .int .i64 3] w fun r w' => r = .returned (.int .i64 ((l + 1) - (l + 1) % 16777216 + c - 16777216)) ∧ w' = w := by
  go_enter Tryz.func24, Tryz.ntmps24
  go_wp2_with (go_at_call 40; refine (pw_3 _).mono ?_; rintro e w' ⟨rfl, rfl⟩)
  go_ret
  exact ⟨rfl, rfl⟩
set_option maxHeartbeats 400000 in
theorem specEx_3e (l c : Int) (w : World) (h0 : -1 ≤ l) (h1 : l ≤ 4611686018427387903) (c0 : 0 ≤ c) (c1 : c < 16777216) (ha : l + 1 + 8388608 < (l + 1) - (l + 1) % 16777216 + c) (hb : (l + 1) - (l + 1) % 16777216 + c < 16777216) :
    Calls Tryz.prog 24 #[.int .i64 l, .int .i64 c, .int .i64 3] w fun r w' => r = .returned (.int .i64 ((l + 1) - (l + 1) % 16777216 + c)) ∧ w' = w := by
  go_enter Tryz.func24, Tryz.ntmps24
  go_wp2_with (go_at_call 40; refine (pw_3 _).mono ?_; rintro e w' ⟨rfl, rfl⟩)
  go_ret
  exact ⟨rfl, rfl⟩
set_option maxHeartbeats 400000 in
theorem specEx_3f (l c : Int) (w : World) (h0 : -1 ≤ l) (h1 : l ≤ 4611686018427387903) (c0 : 0 ≤ c) (c1 : c < 16777216) (ha : l + 1 - 8388608 < (l + 1) - (l + 1) % 16777216 + c) (hb : (l + 1) - (l + 1) % 16777216 + c ≤ l + 1 + 8388608) (hm : 4611686018427387903 < (l + 1) - (l + 1) % 16777216 + c) :
    Calls Tryz.prog 24 #[.int .i64 l, .int .i64 c, .int .i64 3] w fun r w' => r = .returned (.int .i64 (-1)) ∧ w' = w := by
  go_enter Tryz.func24, Tryz.ntmps24
  go_wp2_with (go_at_call 40; refine (pw_3 _).mono ?_; rintro e w' ⟨rfl, rfl⟩)
  go_ret
  exact ⟨rfl, rfl⟩
set_option maxHeartbeats 400000 in
theorem specEx_4a (l c : Int) (w : World) (h0 : -1 ≤ l) (h1 : l ≤ 4611686018427387903) (c0 : 0 ≤ c) (c1 : c < 4294967296) (ha : (l + 1) - (l + 1) % 4294967296 + c ≤ l + 1 - 2147483648) (hb : (l + 1) - (l + 1) % 4294967296 + c + 4294967296 ≤ 4611686018427387903) :
    Calls Tryz.prog 24 #[.int .i64 l, .int .i64 c, .int .i64 4] w fun r w' => r = .returned (.int .i64 ((l + 1) - (l + 1) % 4294967296 + c + 4294967296)) ∧ w' = w := by
  go_enter Tryz.func24, Tryz.ntmps24
  go_wp2_with (go_at_call 40; refine (pw_4 _).mono ?_; rintro e w' ⟨rfl, rfl⟩)
  go_ret
  exact ⟨rfl, rfl⟩
set_option maxHeartbeats 400000 in
theorem specEx_4b (l c : Int) (w : World) (h0 : -1 ≤ l) (h1 : l ≤ 4611686018427387903) (c0 : 0 ≤ c) (c1 : c < 4294967296) (ha : (l + 1) - (l + 1) % 4294967296 + c ≤ l + 1 - 2147483648) (hb : 4611686018427387903 < (l + 1) - (l + 1) % 4294967296 + c + 4294967296) :
    Calls Tryz.prog 24 #[.int .i64 l, .int .i64 c, .int .i64 4] w fun r w' => r = .returned (.int .i64 ((l + 1) - (l + 1) % 4294967296 + c)) ∧ w' = w := by
  go_enter Tryz.func24, Tryz.ntmps24
  go_wp2_with (go_at_call 40; refine (pw_4 _).mono ?_; rintro e w' ⟨rfl, rfl⟩)
  go_ret
  exact ⟨rfl, rfl⟩
set_option maxHeartbeats 400000 in
theorem specEx_4c (l c : Int) (w : World) (h0 : -1 ≤ l) (h1 : l ≤ 4611686018427387903) (c0 : 0 ≤ c) (c1 : c < 4294967296) (ha : l + 1 - 2147483648 < (l + 1) - (l + 1) % 4294967296 + c) (hb : (l + 1) - (l + 1) % 4294967296 + c ≤ l + 1 + 2147483648) (hm : (l + 1) - (l + 1) % 4294967296 + c ≤ 4611686018427387903) :
    Calls Tryz.prog 24 #[.int .i64 l, .int .i64 c, .int .i64 4] w fun r w' => r = .returned (.int .i64 ((l + 1) - (l + 1) % 4294967296 + c)) ∧ w' = w := by
  go_enter Tryz.func24, Tryz.ntmps24
  go_wp2_with (go_at_call 40; refine (pw_4 _).mono ?_; rintro e w' ⟨rfl, rfl⟩)
  go_ret
  exact ⟨rfl, rfl⟩
set_option maxHeartbeats 400000 in
theorem specEx_4d (l c : Int) (w : World) (h0 : -1 ≤ l) (h1 : l ≤ 4611686018427387903) (c0 : 0 ≤ c) (c1 : c < 4294967296) (ha : l + 1 + 2147483648 < (l + 1) - (l + 1) % 4294967296 + c) (hb : 4294967296 ≤ (l + 1) - (l + 1) % 4294967296 + c) :
    Calls Tryz.prog 24 #[.int .i64 l, .int .i64 c, .int .i64 4] w fun r w' => r = .returned (.int .i64 ((l + 1) - (l + 1) % 4294967296 + c - 4294967296)) ∧ w' = w := by
  go_enter Tryz.func24, Tryz.ntmps24
  go_wp2_with (go_at_call 40; refine (pw_4 _).mono ?_; rintro e w' ⟨rfl, rfl⟩)
  go_ret
  exact ⟨rfl, rfl⟩
set_option maxHeartbeats 400000 in
theorem specEx_4e (l c : Int) (w : World) (h0 : -1 ≤ l) (h1 : l ≤ 4611686018427387903) (c0 : 0 ≤ c) (c1 : c < 4294967296) (ha : l + 1 + 2147483648 < (l + 1) - (l + 1) % 4294967296 + c) (hb : (l + 1) - (l + 1) % 4294967296 + c < 4294967296) :
    Calls Tryz.prog 24 #[.int .i64 l, .int .i64 c, .int .i64 4] w fun r w' => r = .returned (.int .i64 ((l + 1) - (l + 1) % 4294967296 + c)) ∧ w' = w := by
  go_enter Tryz.func24, Tryz.ntmps24
  go_wp2_with (go_at_call 40; refine (pw_4 _).mono ?_; rintro e w' ⟨rfl, rfl⟩)
  go_ret
  exact ⟨rfl, rfl⟩
set_option maxHeartbeats 400000 in
theorem specEx_4f (l c : Int) (w : World) (h0 : -1 ≤ l) (h1 : l ≤ 4611686018427387903) (c0 : 0 ≤ c) (c1 : c < 4294967296) (ha : l + 1 - 2147483648 < (l + 1) - (l + 1) % 4294967296 + c) (hb : (l + 1) - (l + 1) % 4294967296 + c ≤ l + 1 + 2147483648) (hm : 4611686018427387903 < (l + 1) - (l + 1) % 4294967296 + c) :
    Calls Tryz.prog 24 #[.int .i64 l, .int .i64 c, .int .i64 4] w fun r w' => r = .returned (.int .i64 (-1)) ∧ w' = w := by
  go_enter Tryz.func24, Tryz.ntmps24
  go_wp2_with (go_at_call 40; refine (pw_4 _).mono ?_; rintro e w' ⟨rfl, rfl⟩)
  go_ret
  exact ⟨rfl, rfl⟩
theorem specEx_1n (l c : Int) (w : World) (h0 : -1 ≤ l) (h1 : l ≤ 4611686018427387903) (c0 : c < 0) :
    Calls Tryz.prog 24 #[.int .i64 l, .int .i64 c, .int .i64 1] w fun r w' => r = .returned (.int .i64 (-1)) ∧ w' = w := by
  go_enter Tryz.func24, Tryz.ntmps24
  go_wp2_with (go_at_call 40; refine (pw_1 _).mono ?_; rintro e w' ⟨rfl, rfl⟩)
  go_ret
  exact ⟨rfl, rfl⟩
theorem specEx_1p (l c : Int) (w : World) (h0 : -1 ≤ l) (h1 : l ≤ 4611686018427387903) (c0 : 0 ≤ c) (c1 : 256 ≤ c) (c2 : c ≤ 9223372036854775807) :
    Calls Tryz.prog 24 #[.int .i64 l, .int .i64 c, .int .i64 1] w fun r w' => r = .returned (.int .i64 (-1)) ∧ w' = w := by
  go_enter Tryz.func24, Tryz.ntmps24
  go_wp2_with (go_at_call 40; refine (pw_1 _).mono ?_; rintro e w' ⟨rfl, rfl⟩)
  go_ret
  exact ⟨rfl, rfl⟩
theorem specEx_2n (l c : Int) (w : World) (h0 : -1 ≤ l) (h1 : l ≤ 4611686018427387903) (c0 : c < 0) :
    Calls Tryz.prog 24 #[.int .i64 l, .int .i64 c, .int .i64 2] w fun r w' => r = .returned (.int .i64 (-1)) ∧ w' = w := by
  go_enter Tryz.func24, Tryz.ntmps24
  go_wp2_with (go_at_call 40; refine (pw_2 _).mono ?_; rintro e w' ⟨rfl, rfl⟩)
  go_ret
  exact ⟨rfl, rfl⟩
theorem specEx_2p (l c : Int) (w : World) (h0 : -1 ≤ l) (h1 : l ≤ 4611686018427387903) (c0 : 0 ≤ c) (c1 : 65536 ≤ c) (c2 : c ≤ 9223372036854775807) :
    Calls Tryz.prog 24 #[.int .i64 l, .int .i64 c, .int .i64 2] w fun r w' => r = .returned (.int .i64 (-1)) ∧ w' = w := by
  go_enter Tryz.func24, Tryz.ntmps24
  go_wp2_with (go_at_call 40; refine (pw_2 _).mono ?_; rintro e w' ⟨rfl, rfl⟩)
  go_ret
  exact ⟨rfl, rfl⟩
theorem specEx_3n (l c : Int) (w : World) (h0 : -1 ≤ l) (h1 : l ≤ 4611686018427387903) (c0 : c < 0) :
    Calls Tryz.prog 24 #[.int .i64 l, .int .i64 c, .int .i64 3] w fun r w' => r = .returned (.int .i64 (-1)) ∧ w' = w := by
  go_enter Tryz.func24, Tryz.ntmps24
  go_wp2_with (go_at_call 40; refine (pw_3 _).mono ?_; rintro e w' ⟨rfl, rfl⟩)
  go_ret
  exact ⟨rfl, rfl⟩
theorem specEx_3p (l c : Int) (w : World) (h0 : -1 ≤ l) (h1 : l ≤ 4611686018427387903) (c0 : 0 ≤ c) (c1 : 16777216 ≤ c) (c2 : c ≤ 9223372036854775807) :
    Calls Tryz.prog 24 #[.int .i64 l, .int .i64 c, .int .i64 3] w fun r w' => r = .returned (.int .i64 (-1)) ∧ w' = w := by
  go_enter Tryz.func24, Tryz.ntmps24
  go_wp2_with (go_at_call 40; refine (pw_3 _).mono ?_; rintro e w' ⟨rfl, rfl⟩)
  go_ret
  exact ⟨rfl, rfl⟩
theorem specEx_4n (l c : Int) (w : World) (h0 : -1 ≤ l) (h1 : l ≤ 4611686018427387903) (c0 : c < 0) :
    Calls Tryz.prog 24 #[.int .i64 l, .int .i64 c, .int .i64 4] w fun r w' => r = .returned (.int .i64 (-1)) ∧ w' = w := by
  go_enter Tryz.func24, Tryz.ntmps24
  go_wp2_with (go_at_call 40; refine (pw_4 _).mono ?_; rintro e w' ⟨rfl, rfl⟩)
  go_ret
  exact ⟨rfl, rfl⟩
theorem specEx_4p (l c : Int) (w : World) (h0 : -1 ≤ l) (h1 : l ≤ 4611686018427387903) (c0 : 0 ≤ c) (c1 : 4294967296 ≤ c) (c2 : c ≤ 9223372036854775807) :
    Calls Tryz.prog 24 #[.int .i64 l, .int .i64 c, .int .i64 4] w fun r w' => r = .returned (.int .i64 (-1)) ∧ w' = w := by
  go_enter Tryz.func24, Tryz.ntmps24
  go_wp2_with (go_at_call 40; refine (pw_4 _).mono ?_; rintro e w' ⟨rfl, rfl⟩)
  go_ret
  exact ⟨rfl, rfl⟩
theorem specExBad (l c n : Int) (w : World) (h : l < -1 ∨ 4611686018427387903 < l ∨ n < 1 ∨ 4 < n) : Calls Tryz.prog 24 #[.int .i64 l, .int .i64 c, .int .i64 n] w fun r w' => r = .returned (.int .i64 (-1)) ∧ w' = w := by
  by_cases a : l < -1
  · clear h
    go_enter Tryz.func24, Tryz.ntmps24
    go_wp2
    go_ret
    exact ⟨rfl, rfl⟩
  · by_cases b : 4611686018427387903 < l
    · clear h
      go_enter Tryz.func24, Tryz.ntmps24
      go_wp2
      go_ret
      exact ⟨rfl, rfl⟩
    · by_cases c : n < 1
      · clear h
        go_enter Tryz.func24, Tryz.ntmps24
        go_wp2
        go_ret
        exact ⟨rfl, rfl⟩
      · have d : 4 < n := by omega
        clear h
        go_enter Tryz.func24, Tryz.ntmps24
        go_wp2
        go_ret
        exact ⟨rfl, rfl⟩
theorem specEx_1 (l c : Int) (w : World) (h0 : -1 ≤ l) (h1 : l ≤ 4611686018427387903) (c0 : 0 ≤ c) (c1 : c < 256) :
    Calls Tryz.prog 24 #[.int .i64 l, .int .i64 c, .int .i64 1] w fun r w' => r = .returned (.int .i64 (exV (l + 1) c 256)) ∧ w' = w := by
  by_cases a : (l + 1) - (l + 1) % 256 + c ≤ l + 1 - 128
  · by_cases b : (l + 1) - (l + 1) % 256 + c + 256 ≤ 4611686018427387903
    · rw [show exV (l + 1) c 256 = (l + 1) - (l + 1) % 256 + c + 256 by unfold exV; rw [if_pos (by omega)]]
      exact specEx_1a l c w h0 h1 c0 c1 a b
    · rw [show exV (l + 1) c 256 = (l + 1) - (l + 1) % 256 + c by unfold exV; rw [if_neg (by omega), if_neg (by omega), if_neg (by omega)]]
      exact specEx_1b l c w h0 h1 c0 c1 a (by omega)
  · by_cases b : (l + 1) - (l + 1) % 256 + c ≤ l + 1 + 128
    · by_cases m : (l + 1) - (l + 1) % 256 + c ≤ 4611686018427387903
      · rw [show exV (l + 1) c 256 = (l + 1) - (l + 1) % 256 + c by unfold exV; rw [if_neg (by omega), if_neg (by omega), if_neg (by omega)]]
        exact specEx_1c l c w h0 h1 c0 c1 (by omega) b m
      · rw [show exV (l + 1) c 256 = -1 by unfold exV; rw [if_neg (by omega), if_neg (by omega), if_pos (by omega)]]
        exact specEx_1f l c w h0 h1 c0 c1 (by omega) b (by omega)
    · by_cases d : 256 ≤ (l + 1) - (l + 1) % 256 + c
      · rw [show exV (l + 1) c 256 = (l + 1) - (l + 1) % 256 + c - 256 by unfold exV; rw [if_neg (by omega), if_pos (by omega)]]
        exact specEx_1d l c w h0 h1 c0 c1 (by omega) d
      · rw [show exV (l + 1) c 256 = (l + 1) - (l + 1) % 256 + c by unfold exV; rw [if_neg (by omega), if_neg (by omega), if_neg (by omega)]]
        exact specEx_1e l c w h0 h1 c0 c1 (by omega) (by omega)
theorem specEx_2 (l c : Int) (w : World) (h0 : -1 ≤ l) (h1 : l ≤ 4611686018427387903) (c0 : 0 ≤ c) (c1 : c < 65536) :
    Calls Tryz.prog 24 #[.int .i64 l, .int .i64 c, .int .i64 2] w fun r w' => r = .returned (.int .i64 (exV (l + 1) c 65536)) ∧ w' = w := by
  by_cases a : (l + 1) - (l + 1) % 65536 + c ≤ l + 1 - 32768
  · by_cases b : (l + 1) - (l + 1) % 65536 + c + 65536 ≤ 4611686018427387903
    · rw [show exV (l + 1) c 65536 = (l + 1) - (l + 1) % 65536 + c + 65536 by unfold exV; rw [if_pos (by omega)]]
      exact specEx_2a l c w h0 h1 c0 c1 a b
    · rw [show exV (l + 1) c 65536 = (l + 1) - (l + 1) % 65536 + c by unfold exV; rw [if_neg (by omega), if_neg (by omega), if_neg (by omega)]]
      exact specEx_2b l c w h0 h1 c0 c1 a (by omega)
  · by_cases b : (l + 1) - (l + 1) % 65536 + c ≤ l + 1 + 32768
    · by_cases m : (l + 1) - (l + 1) % 65536 + c ≤ 4611686018427387903
      · rw [show exV (l + 1) c 65536 = (l + 1) - (l + 1) % 65536 + c by unfold exV; rw [if_neg (by omega), if_neg (by omega), if_neg (by omega)]]
        exact specEx_2c l c w h0 h1 c0 c1 (by omega) b m
      · rw [show exV (l + 1) c 65536 = -1 by unfold exV; rw [if_neg (by omega), if_neg (by omega), if_pos (by omega)]]
        exact specEx_2f l c w h0 h1 c0 c1 (by omega) b (by omega)
    · by_cases d : 65536 ≤ (l + 1) - (l + 1) % 65536 + c
      · rw [show exV (l + 1) c 65536 = (l + 1) - (l + 1) % 65536 + c - 65536 by unfold exV; rw [if_neg (by omega), if_pos (by omega)]]
        exact specEx_2d l c w h0 h1 c0 c1 (by omega) d
      · rw [show exV (l + 1) c 65536 = (l + 1) - (l + 1) % 65536 + c by unfold exV; rw [if_neg (by omega), if_neg (by omega), if_neg (by omega)]]
        exact specEx_2e l c w h0 h1 c0 c1 (by omega) (by omega)
theorem specEx_3 (l c : Int) (w : World) (h0 : -1 ≤ l) (h1 : l ≤ 4611686018427387903) (c0 : 0 ≤ c) (c1 : c < 16777216) :
    Calls Tryz.prog 24 #[.int .i64 l, .int .i64 c, .int .i64 3] w fun r w' => r = .returned (.int .i64 (exV (l + 1) c 16777216)) ∧ w' = w := by
  by_cases a : (l + 1) - (l + 1) % 16777216 + c ≤ l + 1 - 8388608
  · by_cases b : (l + 1) - (l + 1) % 16777216 + c + 16777216 ≤ 4611686018427387903
    · rw [show exV (l + 1) c 16777216 = (l + 1) - (l + 1) % 16777216 + c + 16777216 by unfold exV; rw [if_pos (by omega)]]
      exact specEx_3a l c w h0 h1 c0 c1 a b
    · rw [show exV (l + 1) c 16777216 = (l + 1) - (l + 1) % 16777216 + c by unfold exV; rw [if_neg (by omega), if_neg (by omega), if_neg (by omega)]]
      exact specEx_3b l c w h0 h1 c0 c1 a (by omega)
  · by_cases b : (l + 1) - (l + 1) % 16777216 + c ≤ l + 1 + 8388608
    · by_cases m : (l + 1) - (l + 1) % 16777216 + c ≤ 4611686018427387903
      · rw [show exV (l + 1) c 16777216 = (l + 1) - (l + 1) % 16777216 + c by unfold exV; rw [if_neg (by omega), if_neg (by omega), if_neg (by omega)]]
        exact specEx_3c l c w h0 h1 c0 c1 (by omega) b m
      · rw [show exV (l + 1) c 16777216 = -1 by unfold exV; rw [if_neg (by omega), if_neg (by omega), if_pos (by omega)]]
        exact specEx_3f l c w h0 h1 c0 c1 (by omega) b (by omega)
    · by_cases d : 16777216 ≤ (l + 1) - (l + 1) % 16777216 + c
      · rw [show exV (l + 1) c 16777216 = (l + 1) - (l + 1) % 16777216 + c - 16777216 by unfold exV; rw [if_neg (by omega), if_pos (by omega)]]
        exact specEx_3d l c w h0 h1 c0 c1 (by omega) d
      · rw [show exV (l + 1) c 16777216 = (l + 1) - (l + 1) % 16777216 + c by unfold exV; rw [if_neg (by omega), if_neg (by omega), if_neg (by omega)]]
        exact specEx_3e l c w h0 h1 c0 c1 (by omega) (by omega)
theorem specEx_4 (l c : Int) (w : World) (h0 : -1 ≤ l) (h1 : l ≤ 4611686018427387903) (c0 : 0 ≤ c) (c1 : c < 4294967296) :
    Calls Tryz.prog 24 #[.int .i64 l, .int .i64 c, .int .i64 4] w fun r w' => r = .returned (.int .i64 (exV (l + 1) c 4294967296)) ∧ w' = w := by
  by_cases a : (l + 1) - (l + 1) % 4294967296 + c ≤ l + 1 - 2147483648
  · by_cases b : (l + 1) - (l + 1) % 4294967296 + c + 4294967296 ≤ 4611686018427387903
    · rw [show exV (l + 1) c 4294967296 = (l + 1) - (l + 1) % 4294967296 + c + 4294967296 by unfold exV; rw [if_pos (by omega)]]
      exact specEx_4a l c w h0 h1 c0 c1 a b
    · rw [show exV (l + 1) c 4294967296 = (l + 1) - (l + 1) % 4294967296 + c by unfold exV; rw [if_neg (by omega), if_neg (by omega), if_neg (by omega)]]
      exact specEx_4b l c w h0 h1 c0 c1 a (by omega)
  · by_cases b : (l + 1) - (l + 1) % 4294967296 + c ≤ l + 1 + 2147483648
    · by_cases m : (l + 1) - (l + 1) % 4294967296 + c ≤ 4611686018427387903
      · rw [show exV (l + 1) c 4294967296 = (l + 1) - (l + 1) % 4294967296 + c by unfold exV; rw [if_neg (by omega), if_neg (by omega), if_neg (by omega)]]
        exact specEx_4c l c w h0 h1 c0 c1 (by omega) b m
      · rw [show exV (l + 1) c 4294967296 = -1 by unfold exV; rw [if_neg (by omega), if_neg (by omega), if_pos (by omega)]]
        exact specEx_4f l c w h0 h1 c0 c1 (by omega) b (by omega)
    · by_cases d : 4294967296 ≤ (l + 1) - (l + 1) % 4294967296 + c
      · rw [show exV (l + 1) c 4294967296 = (l + 1) - (l + 1) % 4294967296 + c - 4294967296 by unfold exV; rw [if_neg (by omega), if_pos (by omega)]]
        exact specEx_4d l c w h0 h1 c0 c1 (by omega) d
      · rw [show exV (l + 1) c 4294967296 = (l + 1) - (l + 1) % 4294967296 + c by unfold exV; rw [if_neg (by omega), if_neg (by omega), if_neg (by omega)]]
        exact specEx_4e l c w h0 h1 c0 c1 (by omega) (by omega)
theorem specEx (l c n : Int) (w : World) (hc : c ≤ 9223372036854775807) : Calls Tryz.prog 24 #[.int .i64 l, .int .i64 c, .int .i64 n] w fun r w' => r = .returned (.int .i64 (expV l c n)) ∧ w' = w := by
  by_cases h : l < -1 ∨ 4611686018427387903 < l ∨ n < 1 ∨ 4 < n
  · rw [show expV l c n = -1 by unfold expV; rw [if_pos h]]
    exact specExBad l c n w h
  · have hk : n = 1 ∨ n = 2 ∨ n = 3 ∨ n = 4 := by omega
    rcases hk with rfl | rfl | rfl | rfl
    · by_cases d : c < 0 ∨ 256 ≤ c
      · rw [show expV l c 1 = -1 by unfold expV; rw [if_neg h, if_pos rfl, if_pos d]]
        by_cases d' : c < 0
        · exact specEx_1n l c w (by omega) (by omega) d'
        · exact specEx_1p l c w (by omega) (by omega) (by omega) (by omega) hc
      · rw [show expV l c 1 = exV (l + 1) c 256 by unfold expV; rw [if_neg h, if_pos rfl, if_neg d]]
        exact specEx_1 l c w (by omega) (by omega) (by omega) (by omega)
    · by_cases d : c < 0 ∨ 65536 ≤ c
      · rw [show expV l c 2 = -1 by unfold expV; rw [if_neg h, if_neg (by decide), if_pos rfl, if_pos d]]
        by_cases d' : c < 0
        · exact specEx_2n l c w (by omega) (by omega) d'
        · exact specEx_2p l c w (by omega) (by omega) (by omega) (by omega) hc
      · rw [show expV l c 2 = exV (l + 1) c 65536 by unfold expV; rw [if_neg h, if_neg (by decide), if_pos rfl, if_neg d]]
        exact specEx_2 l c w (by omega) (by omega) (by omega) (by omega)
    · by_cases d : c < 0 ∨ 16777216 ≤ c
      · rw [show expV l c 3 = -1 by unfold expV; rw [if_neg h, if_neg (by decide), if_neg (by decide), if_pos rfl, if_pos d]]
        by_cases d' : c < 0
        · exact specEx_3n l c w (by omega) (by omega) d'
        · exact specEx_3p l c w (by omega) (by omega) (by omega) (by omega) hc
      · rw [show expV l c 3 = exV (l + 1) c 16777216 by unfold expV; rw [if_neg h, if_neg (by decide), if_neg (by decide), if_pos rfl, if_neg d]]
        exact specEx_3 l c w (by omega) (by omega) (by omega) (by omega)
    · by_cases d : c < 0 ∨ 4294967296 ≤ c
      · rw [show expV l c 4 = -1 by unfold expV; rw [if_neg h, if_neg (by decide), if_neg (by decide), if_neg (by decide), if_pos d]]
        by_cases d' : c < 0
        · exact specEx_4n l c w (by omega) (by omega) d'
        · exact specEx_4p l c w (by omega) (by omega) (by omega) (by omega) hc
      · rw [show expV l c 4 = exV (l + 1) c 4294967296 by unfold expV; rw [if_neg h, if_neg (by decide), if_neg (by decide), if_neg (by decide), if_neg d]]
        exact specEx_4 l c w (by omega) (by omega) (by omega) (by omega)
end Go.Proofs.YthokfbgpoffafaaGreatDoor
