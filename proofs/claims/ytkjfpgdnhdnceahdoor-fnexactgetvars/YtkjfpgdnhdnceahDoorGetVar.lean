import Derived.Test.YtkjfpgdnhdnceahDoorShort
import Derived.Test.YtkjfpgdnhdnceahDoorVals
import Derived.Test.YtkjfpgdnhdnceahDoorPlace
namespace Go.Proofs.YtkjfpgdnhdnceahDoor
open Go.RowKit
set_option linter.unusedVariables false

theorem and_mask (n k : Nat) (hn : n < 18446744073709551616) (hk : k ≤ 63) : bits .and .u64 (n : Int) ((2 ^ k - 1 : Nat) : Int) = ((n % 2 ^ k : Nat) : Int) := by
  have h2 : 2 ^ k - 1 < 18446744073709551616 := by
    have : 2 ^ k ≤ 2 ^ 63 := Nat.pow_le_pow_right (by decide) hk
    have e : (2 : Nat) ^ 63 = 9223372036854775808 := by decide
    omega
  have hm : n % 2 ^ k < 18446744073709551616 := Nat.lt_of_le_of_lt (Nat.mod_le _ _) hn
  have e1 : (BitVec.ofInt IntKind.u64.bits (n : Int)).toNat = n := by
    show (BitVec.ofInt 64 (n : Int)).toNat = n
    rw [BitVec.ofInt_natCast, BitVec.toNat_ofNat]
    exact Nat.mod_eq_of_lt hn
  have e2 : (BitVec.ofInt IntKind.u64.bits ((2 ^ k - 1 : Nat) : Int)).toNat = 2 ^ k - 1 := by
    show (BitVec.ofInt 64 ((2 ^ k - 1 : Nat) : Int)).toNat = 2 ^ k - 1
    rw [BitVec.ofInt_natCast, BitVec.toNat_ofNat]
    exact Nat.mod_eq_of_lt h2
  show IntKind.u64.wrap (((BitVec.ofInt IntKind.u64.bits (n : Int)) &&& (BitVec.ofInt IntKind.u64.bits ((2 ^ k - 1 : Nat) : Int))).toNat : Int) = _
  rw [BitVec.toNat_and, e1, e2, Nat.and_two_pow_sub_one_eq_mod]
  generalize n % 2 ^ k = m at hm
  simp [IntKind.wrap, IntKind.bits, IntKind.signed]
  omega

theorem vals_lt8 (ys : List Int) (hb : Bytes ys) (h : ys.length ≤ 8) : vals ys < 18446744073709551616 := by
  have h1 := vals_lt ys hb
  have hn : (256 : Nat) ^ ys.length ≤ 256 ^ 8 := Nat.pow_le_pow_right (by decide) h
  generalize ys.length = m at h1 hn
  have e1 : ((256 ^ m : Nat) : Int) = (256 : Int) ^ m := Int.natCast_pow 256 m
  have e : (256 : Nat) ^ 8 = 18446744073709551616 := by decide
  rw [e] at hn
  rw [← e1] at h1
  omega
theorem mask_of (s m : Int) (k : Nat) (h0 : 0 ≤ s) (h1 : s < 18446744073709551616) (hk : k ≤ 63) (hm : m = ((2 ^ k - 1 : Nat) : Int)) : bits .and .u64 s m = s % ((2 ^ k : Nat) : Int) := by
  obtain ⟨n, rfl⟩ := Int.eq_ofNat_of_zero_le h0
  subst hm
  rw [and_mask n k (by omega) hk]
  exact Int.natCast_emod n (2 ^ k)

theorem specGV_long (ao : Option Addr) (n cap : Nat) (a : Int) (w : World) (h : 65536 < n) (hm : n ≤ 9223372036854775807) :
    Calls Tryd.prog 6 #[.slice ao n cap, .int .i64 a] w fun e w' => e = .returned (.tuple #[.int .i64 0, .int .i64 0, .int .i64 4]) ∧ w' = w := by
  go_enter Tryd.func6, Tryd.ntmps6
  go_wp2
  go_ret3
  exact ⟨rfl, rfl⟩
theorem specGV_bad (ao : Option Addr) (n cap : Nat) (a : Int) (w : World) (h : n ≤ 65536) (hb : a < 0 ∨ (n : Int) < a) :
    Calls Tryd.prog 6 #[.slice ao n cap, .int .i64 a] w fun e w' => e = .returned (.tuple #[.int .i64 0, .int .i64 0, .int .i64 1]) ∧ w' = w := by
  by_cases h1 : a < 0
  · clear hb
    go_enter Tryd.func6, Tryd.ntmps6
    go_wp2
    go_ret3
    exact ⟨rfl, rfl⟩
  · have h2 : (n : Int) < a := by omega
    clear hb
    go_enter Tryd.func6, Tryd.ntmps6
    go_wp2
    go_ret3
    exact ⟨rfl, rfl⟩
theorem specGV_end (ao : Option Addr) (n cap : Nat) (w : World) (h : n ≤ 65536) :
    Calls Tryd.prog 6 #[.slice ao n cap, .int .i64 (n : Int)] w fun e w' => e = .returned (.tuple #[.int .i64 0, .int .i64 0, .int .i64 2]) ∧ w' = w := by
  go_enter Tryd.func6, Tryd.ntmps6
  go_wp2
  go_ret3
  exact ⟨rfl, rfl⟩

theorem implGV_long (ao : Option Addr) (n cap : Nat) (a : Int) (w : World) (h : 65536 < n) (hm : n ≤ 9223372036854775807) :
    Calls Tryd.prog 8 #[.slice ao n cap, .int .i64 a] w fun e w' => e = .returned (.tuple #[.int .i64 0, .int .i64 0, .int .i64 4]) ∧ w' = w := by
  go_enter Tryd.func8, Tryd.ntmps8
  go_wp2_with (go_at_call 20; refine (place_long _ _ _ _ _ h hm).mono ?_; rintro e w' ⟨rfl, rfl⟩)
  go_ret3
  exact ⟨rfl, rfl⟩
theorem implGV_bad (ao : Option Addr) (n cap : Nat) (a : Int) (w : World) (h : n ≤ 65536) (hb : a < 0 ∨ (n : Int) < a) :
    Calls Tryd.prog 8 #[.slice ao n cap, .int .i64 a] w fun e w' => e = .returned (.tuple #[.int .i64 0, .int .i64 0, .int .i64 1]) ∧ w' = w := by
  by_cases h1 : a < 0
  · clear hb
    go_enter Tryd.func8, Tryd.ntmps8
    go_wp2_with (go_at_call 20; refine (place_bad _ _ _ _ _ h (Or.inl h1)).mono ?_; rintro e w' ⟨rfl, rfl⟩)
    go_ret3
    exact ⟨rfl, rfl⟩
  · have h2 : (n : Int) < a := by omega
    clear hb
    go_enter Tryd.func8, Tryd.ntmps8
    go_wp2_with (go_at_call 20; refine (place_bad _ _ _ _ _ h (Or.inr h2)).mono ?_; rintro e w' ⟨rfl, rfl⟩)
    go_ret3
    exact ⟨rfl, rfl⟩
theorem implGV_end (ao : Option Addr) (n cap : Nat) (w : World) (h : n ≤ 65536) :
    Calls Tryd.prog 8 #[.slice ao n cap, .int .i64 (n : Int)] w fun e w' => e = .returned (.tuple #[.int .i64 0, .int .i64 0, .int .i64 2]) ∧ w' = w := by
  go_enter Tryd.func8, Tryd.ntmps8
  go_wp2_with (go_at_call 20; refine (place_ok _ _ _ _ _ h (by omega) (by omega)).mono ?_; rintro e w' ⟨rfl, rfl⟩)
  go_ret3
  exact ⟨rfl, rfl⟩

theorem vals_1 (ys : List Int) (h : ys.length = 1) : vals ys = ys.getD 0 0 := by
  match ys, h with
  | [a], _ => simp [vals, List.getD]
theorem low_1 (x0 : Int) (l0 : 0 ≤ x0) (u0 : x0 < 256) (hf : x0 / 64 = 0) : (x0) % 64 = x0 % 64 := by omega

set_option maxHeartbeats 1000000 in
theorem specGV_1 (b off n cap a : Nat) (x0 : Int) (w : World) (h : n ≤ 65536) (h1 : a + 1 ≤ n) (c0 : w.cell? ⟨b, off + a, none⟩ = some (.int .u8 x0)) (l0 : 0 ≤ x0) (u0 : x0 < 256) (hf : x0 / 64 = 0) :
    Calls Tryd.prog 6 #[.slice (some ⟨b, off, none⟩) n cap, .int .i64 (a : Int)] w fun e w' => e = .returned (.tuple #[.int .i64 (x0 % 64), .int .i64 ((a : Int) + 1), .int .i64 0]) ∧ w' = w := by
  have hne : ((a : Int) == (n : Int)) = false := by rw [beq_eq_false_iff_ne]; omega
  go_enter Tryd.func6, Tryd.ntmps6
  go_wp2
  refine wp_loop_rounds 1 ?_
  rw [rounds_succ]
  go_wp2
  refine wp_loop_rounds 1 ?_
  rw [rounds_succ]
  go_wp2
  go_ret3
  exact ⟨rfl, rfl⟩
set_option maxHeartbeats 1000000 in
theorem implGV_1 (b off n cap a : Nat) (x0 s : Int) (w : World) (ht : Tab w) (h : n ≤ 65536) (h1 : a + 1 ≤ n) (hcap : n ≤ cap ∧ cap ≤ maxLen) (c0 : w.cell? ⟨b, off + a, none⟩ = some (.int .u8 x0)) (l0 : 0 ≤ x0) (u0 : x0 < 256) (hf : x0 / 64 = 0) (s0 : 0 ≤ s) (s1 : s < 18446744073709551616)
    (hv : ∀ cap' : Nat, Calls Tryd.prog 22 #[.slice (some ⟨b, off + a, none⟩) 1 cap'] w fun e w' => e = .returned (.int .u64 s) ∧ w' = w) :
    Calls Tryd.prog 8 #[.slice (some ⟨b, off, none⟩) n cap, .int .i64 (a : Int)] w fun e w' => e = .returned (.tuple #[.int .i64 (s % 64), .int .i64 ((a : Int) + 1), .int .i64 0]) ∧ w' = w := by
  have hne : ((a : Int) == (n : Int)) = false := by rw [beq_eq_false_iff_ne]; omega
  have hc1 := hcap.1
  have hc2 : cap ≤ 9223372036854775807 := by have := hcap.2; unfold maxLen at this; omega
  have d := length_0 w ht.c0
  have g : Calls Tryd.prog 23 #[.int .i64 0] w fun e w' => e = .returned (.int .i64 63) ∧ w' = w := greatest_any 0 (by decide) (by decide) w ht
  have e1 : bits .and .u64 s 63 = s % 64 := mask_of s 63 6 s0 s1 (by decide) (by decide)
  clear hcap ht s1
  go_enter Tryd.func8, Tryd.ntmps8
  go_wp2_with (first
    | (go_at_call 20; refine (place_ok _ _ _ _ _ h (by omega) (by omega)).mono ?_; rintro e w' ⟨rfl, rfl⟩)
    | (go_at_call 21; refine d.mono ?_; rintro e w' ⟨rfl, rfl⟩)
    | (go_at_call 23; refine g.mono ?_; rintro e w' ⟨rfl, rfl⟩)
    | (go_at_call 22; refine (hv _).mono ?_; rintro e w' ⟨rfl, rfl⟩))
  go_ret3
  exact ⟨rfl, rfl⟩

theorem vals_2 (ys : List Int) (h : ys.length = 2) : vals ys = ys.getD 0 0 * 256 + ys.getD 1 0 := by
  match ys, h with
  | [a, b], _ => simp [vals, List.getD]
theorem low_2 (x0 x1 : Int) (l0 : 0 ≤ x0) (u0 : x0 < 256) (l1 : 0 ≤ x1) (u1 : x1 < 256) (hf : x0 / 64 = 1) : (x0 * 256 + x1) % 16384 = x0 % 64 * 256 + x1 := by omega

set_option maxHeartbeats 1000000 in
theorem specGV_2 (b off n cap a : Nat) (x0 x1 : Int) (w : World) (h : n ≤ 65536) (h1 : a + 2 ≤ n) (c0 : w.cell? ⟨b, off + a, none⟩ = some (.int .u8 x0)) (c1 : w.cell? ⟨b, off + (a + 1), none⟩ = some (.int .u8 x1)) (l0 : 0 ≤ x0) (u0 : x0 < 256) (l1 : 0 ≤ x1) (u1 : x1 < 256) (hf : x0 / 64 = 1) :
    Calls Tryd.prog 6 #[.slice (some ⟨b, off, none⟩) n cap, .int .i64 (a : Int)] w fun e w' => e = .returned (.tuple #[.int .i64 (x0 % 64 * 256 + x1), .int .i64 ((a : Int) + 2), .int .i64 0]) ∧ w' = w := by
  have hne : ((a : Int) == (n : Int)) = false := by rw [beq_eq_false_iff_ne]; omega
  go_enter Tryd.func6, Tryd.ntmps6
  go_wp2
  refine wp_loop_rounds 2 ?_
  rw [rounds_succ]
  go_wp2
  rw [rounds_succ]
  go_wp2
  refine wp_loop_rounds 2 ?_
  rw [rounds_succ]
  go_wp2
  rw [rounds_succ]
  go_wp2
  go_ret3
  exact ⟨rfl, rfl⟩
theorem specGV_short_2 (b off n cap a : Nat) (x0 : Int) (w : World) (h : n ≤ 65536) (h0 : a < n) (h1 : n < a + 2) (c0 : w.cell? ⟨b, off + a, none⟩ = some (.int .u8 x0)) (l0 : 0 ≤ x0) (u0 : x0 < 256) (hf : x0 / 64 = 1) :
    Calls Tryd.prog 6 #[.slice (some ⟨b, off, none⟩) n cap, .int .i64 (a : Int)] w fun e w' => e = .returned (.tuple #[.int .i64 0, .int .i64 0, .int .i64 2]) ∧ w' = w := by
  have hne : ((a : Int) == (n : Int)) = false := by rw [beq_eq_false_iff_ne]; omega
  go_enter Tryd.func6, Tryd.ntmps6
  go_wp2
  refine wp_loop_rounds 2 ?_
  rw [rounds_succ]
  go_wp2
  rw [rounds_succ]
  go_wp2
  go_ret3
  exact ⟨rfl, rfl⟩
set_option maxHeartbeats 1000000 in
theorem implGV_2 (b off n cap a : Nat) (x0 s : Int) (w : World) (ht : Tab w) (h : n ≤ 65536) (h1 : a + 2 ≤ n) (hcap : n ≤ cap ∧ cap ≤ maxLen) (c0 : w.cell? ⟨b, off + a, none⟩ = some (.int .u8 x0)) (l0 : 0 ≤ x0) (u0 : x0 < 256) (hf : x0 / 64 = 1) (s0 : 0 ≤ s) (s1 : s < 18446744073709551616)
    (hv : ∀ cap' : Nat, Calls Tryd.prog 22 #[.slice (some ⟨b, off + a, none⟩) 2 cap'] w fun e w' => e = .returned (.int .u64 s) ∧ w' = w) :
    Calls Tryd.prog 8 #[.slice (some ⟨b, off, none⟩) n cap, .int .i64 (a : Int)] w fun e w' => e = .returned (.tuple #[.int .i64 (s % 16384), .int .i64 ((a : Int) + 2), .int .i64 0]) ∧ w' = w := by
  have hne : ((a : Int) == (n : Int)) = false := by rw [beq_eq_false_iff_ne]; omega
  have hc1 := hcap.1
  have hc2 : cap ≤ 9223372036854775807 := by have := hcap.2; unfold maxLen at this; omega
  have d := length_1 w ht.c1
  have g : Calls Tryd.prog 23 #[.int .i64 1] w fun e w' => e = .returned (.int .i64 16383) ∧ w' = w := greatest_any 1 (by decide) (by decide) w ht
  have e1 : bits .and .u64 s 16383 = s % 16384 := mask_of s 16383 14 s0 s1 (by decide) (by decide)
  clear hcap ht s1
  go_enter Tryd.func8, Tryd.ntmps8
  go_wp2_with (first
    | (go_at_call 20; refine (place_ok _ _ _ _ _ h (by omega) (by omega)).mono ?_; rintro e w' ⟨rfl, rfl⟩)
    | (go_at_call 21; refine d.mono ?_; rintro e w' ⟨rfl, rfl⟩)
    | (go_at_call 23; refine g.mono ?_; rintro e w' ⟨rfl, rfl⟩)
    | (go_at_call 22; refine (hv _).mono ?_; rintro e w' ⟨rfl, rfl⟩))
  go_ret3
  exact ⟨rfl, rfl⟩
theorem implGV_short_2 (b off n cap a : Nat) (x0 : Int) (w : World) (ht : Tab w) (h : n ≤ 65536) (h0 : a < n) (h1 : n < a + 2) (c0 : w.cell? ⟨b, off + a, none⟩ = some (.int .u8 x0)) (l0 : 0 ≤ x0) (u0 : x0 < 256) (hf : x0 / 64 = 1) :
    Calls Tryd.prog 8 #[.slice (some ⟨b, off, none⟩) n cap, .int .i64 (a : Int)] w fun e w' => e = .returned (.tuple #[.int .i64 0, .int .i64 0, .int .i64 2]) ∧ w' = w := by
  have hne : ((a : Int) == (n : Int)) = false := by rw [beq_eq_false_iff_ne]; omega
  have d := length_1 w ht.c1
  clear ht
  go_enter Tryd.func8, Tryd.ntmps8
  go_wp2_with (first
    | (go_at_call 20; refine (place_ok _ _ _ _ _ h (by omega) (by omega)).mono ?_; rintro e w' ⟨rfl, rfl⟩)
    | (go_at_call 21; refine d.mono ?_; rintro e w' ⟨rfl, rfl⟩))
  go_ret3
  exact ⟨rfl, rfl⟩

theorem vals_4 (ys : List Int) (h : ys.length = 4) : vals ys = ((ys.getD 0 0 * 256 + ys.getD 1 0) * 256 + ys.getD 2 0) * 256 + ys.getD 3 0 := by
  match ys, h with
  | [a, b, c, d], _ => simp [vals, List.getD]
theorem low_4 (x0 x1 x2 x3 : Int) (l0 : 0 ≤ x0) (u0 : x0 < 256) (l1 : 0 ≤ x1) (u1 : x1 < 256) (l2 : 0 ≤ x2) (u2 : x2 < 256) (l3 : 0 ≤ x3) (u3 : x3 < 256) (hf : x0 / 64 = 2) : (((x0 * 256 + x1) * 256 + x2) * 256 + x3) % 1073741824 = ((x0 % 64 * 256 + x1) * 256 + x2) * 256 + x3 := by omega

set_option maxHeartbeats 1000000 in
theorem specGV_4 (b off n cap a : Nat) (x0 x1 x2 x3 : Int) (w : World) (h : n ≤ 65536) (h1 : a + 4 ≤ n) (c0 : w.cell? ⟨b, off + a, none⟩ = some (.int .u8 x0)) (c1 : w.cell? ⟨b, off + (a + 1), none⟩ = some (.int .u8 x1)) (c2 : w.cell? ⟨b, off + (a + 2), none⟩ = some (.int .u8 x2)) (c3 : w.cell? ⟨b, off + (a + 3), none⟩ = some (.int .u8 x3)) (l0 : 0 ≤ x0) (u0 : x0 < 256) (l1 : 0 ≤ x1) (u1 : x1 < 256) (l2 : 0 ≤ x2) (u2 : x2 < 256) (l3 : 0 ≤ x3) (u3 : x3 < 256) (hf : x0 / 64 = 2) :
    Calls Tryd.prog 6 #[.slice (some ⟨b, off, none⟩) n cap, .int .i64 (a : Int)] w fun e w' => e = .returned (.tuple #[.int .i64 (((x0 % 64 * 256 + x1) * 256 + x2) * 256 + x3), .int .i64 ((a : Int) + 4), .int .i64 0]) ∧ w' = w := by
  have hne : ((a : Int) == (n : Int)) = false := by rw [beq_eq_false_iff_ne]; omega
  go_enter Tryd.func6, Tryd.ntmps6
  go_wp2
  refine wp_loop_rounds 3 ?_
  rw [rounds_succ]
  go_wp2
  rw [rounds_succ]
  go_wp2
  rw [rounds_succ]
  go_wp2
  refine wp_loop_rounds 4 ?_
  rw [rounds_succ]
  go_wp2
  rw [rounds_succ]
  go_wp2
  rw [rounds_succ]
  go_wp2
  rw [rounds_succ]
  go_wp2
  go_ret3
  exact ⟨rfl, rfl⟩
theorem specGV_short_4 (b off n cap a : Nat) (x0 : Int) (w : World) (h : n ≤ 65536) (h0 : a < n) (h1 : n < a + 4) (c0 : w.cell? ⟨b, off + a, none⟩ = some (.int .u8 x0)) (l0 : 0 ≤ x0) (u0 : x0 < 256) (hf : x0 / 64 = 2) :
    Calls Tryd.prog 6 #[.slice (some ⟨b, off, none⟩) n cap, .int .i64 (a : Int)] w fun e w' => e = .returned (.tuple #[.int .i64 0, .int .i64 0, .int .i64 2]) ∧ w' = w := by
  have hne : ((a : Int) == (n : Int)) = false := by rw [beq_eq_false_iff_ne]; omega
  go_enter Tryd.func6, Tryd.ntmps6
  go_wp2
  refine wp_loop_rounds 3 ?_
  rw [rounds_succ]
  go_wp2
  rw [rounds_succ]
  go_wp2
  rw [rounds_succ]
  go_wp2
  go_ret3
  exact ⟨rfl, rfl⟩
set_option maxHeartbeats 1000000 in
theorem implGV_4 (b off n cap a : Nat) (x0 s : Int) (w : World) (ht : Tab w) (h : n ≤ 65536) (h1 : a + 4 ≤ n) (hcap : n ≤ cap ∧ cap ≤ maxLen) (c0 : w.cell? ⟨b, off + a, none⟩ = some (.int .u8 x0)) (l0 : 0 ≤ x0) (u0 : x0 < 256) (hf : x0 / 64 = 2) (s0 : 0 ≤ s) (s1 : s < 18446744073709551616)
    (hv : ∀ cap' : Nat, Calls Tryd.prog 22 #[.slice (some ⟨b, off + a, none⟩) 4 cap'] w fun e w' => e = .returned (.int .u64 s) ∧ w' = w) :
    Calls Tryd.prog 8 #[.slice (some ⟨b, off, none⟩) n cap, .int .i64 (a : Int)] w fun e w' => e = .returned (.tuple #[.int .i64 (s % 1073741824), .int .i64 ((a : Int) + 4), .int .i64 0]) ∧ w' = w := by
  have hne : ((a : Int) == (n : Int)) = false := by rw [beq_eq_false_iff_ne]; omega
  have hc1 := hcap.1
  have hc2 : cap ≤ 9223372036854775807 := by have := hcap.2; unfold maxLen at this; omega
  have d := length_2 w ht.c2
  have g : Calls Tryd.prog 23 #[.int .i64 2] w fun e w' => e = .returned (.int .i64 1073741823) ∧ w' = w := greatest_any 2 (by decide) (by decide) w ht
  have e1 : bits .and .u64 s 1073741823 = s % 1073741824 := mask_of s 1073741823 30 s0 s1 (by decide) (by decide)
  clear hcap ht s1
  go_enter Tryd.func8, Tryd.ntmps8
  go_wp2_with (first
    | (go_at_call 20; refine (place_ok _ _ _ _ _ h (by omega) (by omega)).mono ?_; rintro e w' ⟨rfl, rfl⟩)
    | (go_at_call 21; refine d.mono ?_; rintro e w' ⟨rfl, rfl⟩)
    | (go_at_call 23; refine g.mono ?_; rintro e w' ⟨rfl, rfl⟩)
    | (go_at_call 22; refine (hv _).mono ?_; rintro e w' ⟨rfl, rfl⟩))
  go_ret3
  exact ⟨rfl, rfl⟩
theorem implGV_short_4 (b off n cap a : Nat) (x0 : Int) (w : World) (ht : Tab w) (h : n ≤ 65536) (h0 : a < n) (h1 : n < a + 4) (c0 : w.cell? ⟨b, off + a, none⟩ = some (.int .u8 x0)) (l0 : 0 ≤ x0) (u0 : x0 < 256) (hf : x0 / 64 = 2) :
    Calls Tryd.prog 8 #[.slice (some ⟨b, off, none⟩) n cap, .int .i64 (a : Int)] w fun e w' => e = .returned (.tuple #[.int .i64 0, .int .i64 0, .int .i64 2]) ∧ w' = w := by
  have hne : ((a : Int) == (n : Int)) = false := by rw [beq_eq_false_iff_ne]; omega
  have d := length_2 w ht.c2
  clear ht
  go_enter Tryd.func8, Tryd.ntmps8
  go_wp2_with (first
    | (go_at_call 20; refine (place_ok _ _ _ _ _ h (by omega) (by omega)).mono ?_; rintro e w' ⟨rfl, rfl⟩)
    | (go_at_call 21; refine d.mono ?_; rintro e w' ⟨rfl, rfl⟩))
  go_ret3
  exact ⟨rfl, rfl⟩

theorem vals_8 (ys : List Int) (h : ys.length = 8) : vals ys = ((((((ys.getD 0 0 * 256 + ys.getD 1 0) * 256 + ys.getD 2 0) * 256 + ys.getD 3 0) * 256 + ys.getD 4 0) * 256 + ys.getD 5 0) * 256 + ys.getD 6 0) * 256 + ys.getD 7 0 := by
  match ys, h with
  | [a, b, c, d, e, f, g, h], _ => simp [vals, List.getD]
theorem low_8 (x0 x1 x2 x3 x4 x5 x6 x7 : Int) (l0 : 0 ≤ x0) (u0 : x0 < 256) (l1 : 0 ≤ x1) (u1 : x1 < 256) (l2 : 0 ≤ x2) (u2 : x2 < 256) (l3 : 0 ≤ x3) (u3 : x3 < 256) (l4 : 0 ≤ x4) (u4 : x4 < 256) (l5 : 0 ≤ x5) (u5 : x5 < 256) (l6 : 0 ≤ x6) (u6 : x6 < 256) (l7 : 0 ≤ x7) (u7 : x7 < 256) (hf : x0 / 64 = 3) : (((((((x0 * 256 + x1) * 256 + x2) * 256 + x3) * 256 + x4) * 256 + x5) * 256 + x6) * 256 + x7) % 4611686018427387904 = ((((((x0 % 64 * 256 + x1) * 256 + x2) * 256 + x3) * 256 + x4) * 256 + x5) * 256 + x6) * 256 + x7 := by omega

set_option maxHeartbeats 1000000 in
theorem specGV_8 (b off n cap a : Nat) (x0 x1 x2 x3 x4 x5 x6 x7 : Int) (w : World) (h : n ≤ 65536) (h1 : a + 8 ≤ n) (c0 : w.cell? ⟨b, off + a, none⟩ = some (.int .u8 x0)) (c1 : w.cell? ⟨b, off + (a + 1), none⟩ = some (.int .u8 x1)) (c2 : w.cell? ⟨b, off + (a + 2), none⟩ = some (.int .u8 x2)) (c3 : w.cell? ⟨b, off + (a + 3), none⟩ = some (.int .u8 x3)) (c4 : w.cell? ⟨b, off + (a + 4), none⟩ = some (.int .u8 x4)) (c5 : w.cell? ⟨b, off + (a + 5), none⟩ = some (.int .u8 x5)) (c6 : w.cell? ⟨b, off + (a + 6), none⟩ = some (.int .u8 x6)) (c7 : w.cell? ⟨b, off + (a + 7), none⟩ = some (.int .u8 x7)) (l0 : 0 ≤ x0) (u0 : x0 < 256) (l1 : 0 ≤ x1) (u1 : x1 < 256) (l2 : 0 ≤ x2) (u2 : x2 < 256) (l3 : 0 ≤ x3) (u3 : x3 < 256) (l4 : 0 ≤ x4) (u4 : x4 < 256) (l5 : 0 ≤ x5) (u5 : x5 < 256) (l6 : 0 ≤ x6) (u6 : x6 < 256) (l7 : 0 ≤ x7) (u7 : x7 < 256) (hf : x0 / 64 = 3) :
    Calls Tryd.prog 6 #[.slice (some ⟨b, off, none⟩) n cap, .int .i64 (a : Int)] w fun e w' => e = .returned (.tuple #[.int .i64 (((((((x0 % 64 * 256 + x1) * 256 + x2) * 256 + x3) * 256 + x4) * 256 + x5) * 256 + x6) * 256 + x7), .int .i64 ((a : Int) + 8), .int .i64 0]) ∧ w' = w := by
  have hne : ((a : Int) == (n : Int)) = false := by rw [beq_eq_false_iff_ne]; omega
  go_enter Tryd.func6, Tryd.ntmps6
  go_wp2
  refine wp_loop_rounds 4 ?_
  rw [rounds_succ]
  go_wp2
  rw [rounds_succ]
  go_wp2
  rw [rounds_succ]
  go_wp2
  rw [rounds_succ]
  go_wp2
  refine wp_loop_rounds 8 ?_
  rw [rounds_succ]
  go_wp2
  rw [rounds_succ]
  go_wp2
  rw [rounds_succ]
  go_wp2
  rw [rounds_succ]
  go_wp2
  rw [rounds_succ]
  go_wp2
  rw [rounds_succ]
  go_wp2
  rw [rounds_succ]
  go_wp2
  rw [rounds_succ]
  go_wp2
  go_ret3
  exact ⟨rfl, rfl⟩
theorem specGV_short_8 (b off n cap a : Nat) (x0 : Int) (w : World) (h : n ≤ 65536) (h0 : a < n) (h1 : n < a + 8) (c0 : w.cell? ⟨b, off + a, none⟩ = some (.int .u8 x0)) (l0 : 0 ≤ x0) (u0 : x0 < 256) (hf : x0 / 64 = 3) :
    Calls Tryd.prog 6 #[.slice (some ⟨b, off, none⟩) n cap, .int .i64 (a : Int)] w fun e w' => e = .returned (.tuple #[.int .i64 0, .int .i64 0, .int .i64 2]) ∧ w' = w := by
  have hne : ((a : Int) == (n : Int)) = false := by rw [beq_eq_false_iff_ne]; omega
  go_enter Tryd.func6, Tryd.ntmps6
  go_wp2
  refine wp_loop_rounds 4 ?_
  rw [rounds_succ]
  go_wp2
  rw [rounds_succ]
  go_wp2
  rw [rounds_succ]
  go_wp2
  rw [rounds_succ]
  go_wp2
  go_ret3
  exact ⟨rfl, rfl⟩
set_option maxHeartbeats 1000000 in
theorem implGV_8 (b off n cap a : Nat) (x0 s : Int) (w : World) (ht : Tab w) (h : n ≤ 65536) (h1 : a + 8 ≤ n) (hcap : n ≤ cap ∧ cap ≤ maxLen) (c0 : w.cell? ⟨b, off + a, none⟩ = some (.int .u8 x0)) (l0 : 0 ≤ x0) (u0 : x0 < 256) (hf : x0 / 64 = 3) (s0 : 0 ≤ s) (s1 : s < 18446744073709551616)
    (hv : ∀ cap' : Nat, Calls Tryd.prog 22 #[.slice (some ⟨b, off + a, none⟩) 8 cap'] w fun e w' => e = .returned (.int .u64 s) ∧ w' = w) :
    Calls Tryd.prog 8 #[.slice (some ⟨b, off, none⟩) n cap, .int .i64 (a : Int)] w fun e w' => e = .returned (.tuple #[.int .i64 (s % 4611686018427387904), .int .i64 ((a : Int) + 8), .int .i64 0]) ∧ w' = w := by
  have hne : ((a : Int) == (n : Int)) = false := by rw [beq_eq_false_iff_ne]; omega
  have hc1 := hcap.1
  have hc2 : cap ≤ 9223372036854775807 := by have := hcap.2; unfold maxLen at this; omega
  have d := length_3 w ht.c3
  have g : Calls Tryd.prog 23 #[.int .i64 3] w fun e w' => e = .returned (.int .i64 4611686018427387903) ∧ w' = w := greatest_any 3 (by decide) (by decide) w ht
  have e1 : bits .and .u64 s 4611686018427387903 = s % 4611686018427387904 := mask_of s 4611686018427387903 62 s0 s1 (by decide) (by decide)
  clear hcap ht s1
  go_enter Tryd.func8, Tryd.ntmps8
  go_wp2_with (first
    | (go_at_call 20; refine (place_ok _ _ _ _ _ h (by omega) (by omega)).mono ?_; rintro e w' ⟨rfl, rfl⟩)
    | (go_at_call 21; refine d.mono ?_; rintro e w' ⟨rfl, rfl⟩)
    | (go_at_call 23; refine g.mono ?_; rintro e w' ⟨rfl, rfl⟩)
    | (go_at_call 22; refine (hv _).mono ?_; rintro e w' ⟨rfl, rfl⟩))
  go_ret3
  exact ⟨rfl, rfl⟩
theorem implGV_short_8 (b off n cap a : Nat) (x0 : Int) (w : World) (ht : Tab w) (h : n ≤ 65536) (h0 : a < n) (h1 : n < a + 8) (c0 : w.cell? ⟨b, off + a, none⟩ = some (.int .u8 x0)) (l0 : 0 ≤ x0) (u0 : x0 < 256) (hf : x0 / 64 = 3) :
    Calls Tryd.prog 8 #[.slice (some ⟨b, off, none⟩) n cap, .int .i64 (a : Int)] w fun e w' => e = .returned (.tuple #[.int .i64 0, .int .i64 0, .int .i64 2]) ∧ w' = w := by
  have hne : ((a : Int) == (n : Int)) = false := by rw [beq_eq_false_iff_ne]; omega
  have d := length_3 w ht.c3
  clear ht
  go_enter Tryd.func8, Tryd.ntmps8
  go_wp2_with (first
    | (go_at_call 20; refine (place_ok _ _ _ _ _ h (by omega) (by omega)).mono ?_; rintro e w' ⟨rfl, rfl⟩)
    | (go_at_call 21; refine d.mono ?_; rintro e w' ⟨rfl, rfl⟩))
  go_ret3
  exact ⟨rfl, rfl⟩

end Go.Proofs.YtkjfpgdnhdnceahDoor
