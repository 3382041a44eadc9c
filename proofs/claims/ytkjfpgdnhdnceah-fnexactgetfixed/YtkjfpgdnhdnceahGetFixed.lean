import Derived.Test.YtkjfpgdnhdnceahSpecVal
import Derived.Test.YtkjfpgdnhdnceahPlace
namespace Go.Proofs.Ytkjfpgdnhdnceah
open Go.RowKit
set_option linter.unusedVariables false

theorem sub_bd (ys : List Int) (hb : Bytes ys) (h : ys.length ≤ 8) (h8 : ys.length = 8 → ys.getD 0 0 < 128) : vals ys ≤ 9223372036854775807 := by
  by_cases h7 : ys.length ≤ 7
  · have := vals_take_lt7 ys hb ys.length h7
    rw [List.take_length] at this
    omega
  · have e : ys.length = 8 := by omega
    have f := h8 e
    match ys, e with
    | [a, b, c, d, e, f', g, h], _ =>
      have h1 := hb a (by simp)
      have h2 := hb b (by simp)
      have h3 := hb c (by simp)
      have h4 := hb d (by simp)
      have h5 := hb e (by simp)
      have h6 := hb f' (by simp)
      have h7 := hb g (by simp)
      have h9 := hb h (by simp)
      simp only [List.getD, List.getElem?_cons_zero, Option.getD_some] at f
      simp only [vals, List.foldl_cons, List.foldl_nil]
      omega
theorem sub_len (xs : List Int) (a m : Nat) (h : a + m ≤ xs.length) : ((xs.drop a).take m).length = m := by rw [List.length_take, List.length_drop]; omega
theorem sub_head (xs : List Int) (a m : Nat) (h : 0 < m) : ((xs.drop a).take m).getD 0 0 = xs.getD a 0 := by simp [List.getD, h]

theorem specGF_long (ao : Option Addr) (n cap : Nat) (a k : Int) (w : World) (h : 65536 < n) (hm : n ≤ 9223372036854775807) :
    Calls Try.prog 10 #[.slice ao n cap, .int .i64 a, .int .i64 k] w fun e w' => e = .returned (.tuple #[.int .i64 0, .int .i64 0, .int .i64 4]) ∧ w' = w := by
  go_enter Try.func10, Try.ntmps10
  go_wp2
  go_ret3
  exact ⟨rfl, rfl⟩
theorem specGF_bad (ao : Option Addr) (n cap : Nat) (a k : Int) (w : World) (h : n ≤ 65536) (hb : k < 1 ∨ 8 < k ∨ a < 0 ∨ (n : Int) < a) :
    Calls Try.prog 10 #[.slice ao n cap, .int .i64 a, .int .i64 k] w fun e w' => e = .returned (.tuple #[.int .i64 0, .int .i64 0, .int .i64 1]) ∧ w' = w := by
  by_cases h1 : a < 0
  · by_cases h2 : k < 1
    · clear hb
      go_enter Try.func10, Try.ntmps10
      go_wp2
      go_ret3
      exact ⟨rfl, rfl⟩
    · by_cases h3 : 8 < k
      · clear hb
        go_enter Try.func10, Try.ntmps10
        go_wp2
        go_ret3
        exact ⟨rfl, rfl⟩
      · clear hb
        go_enter Try.func10, Try.ntmps10
        go_wp2
        go_ret3
        exact ⟨rfl, rfl⟩
  · by_cases h4 : (n : Int) < a
    · by_cases h2 : k < 1
      · clear hb
        go_enter Try.func10, Try.ntmps10
        go_wp2
        go_ret3
        exact ⟨rfl, rfl⟩
      · by_cases h3 : 8 < k
        · clear hb
          go_enter Try.func10, Try.ntmps10
          go_wp2
          go_ret3
          exact ⟨rfl, rfl⟩
        · clear hb
          go_enter Try.func10, Try.ntmps10
          go_wp2
          go_ret3
          exact ⟨rfl, rfl⟩
    · by_cases h2 : k < 1
      · clear hb
        go_enter Try.func10, Try.ntmps10
        go_wp2
        go_ret3
        exact ⟨rfl, rfl⟩
      · have h3 : 8 < k := by omega
        clear hb
        go_enter Try.func10, Try.ntmps10
        go_wp2
        go_ret3
        exact ⟨rfl, rfl⟩
theorem specGF_short (ao : Option Addr) (n cap : Nat) (a k : Int) (w : World) (h : n ≤ 65536) (h0 : 0 ≤ a) (h1 : a ≤ (n : Int)) (k0 : 1 ≤ k) (k1 : k ≤ 8) (hs : (n : Int) - a < k) :
    Calls Try.prog 10 #[.slice ao n cap, .int .i64 a, .int .i64 k] w fun e w' => e = .returned (.tuple #[.int .i64 0, .int .i64 0, .int .i64 2]) ∧ w' = w := by
  go_enter Try.func10, Try.ntmps10
  go_wp2
  go_ret3
  exact ⟨rfl, rfl⟩
theorem specGF_form (b off n cap a : Nat) (x : Int) (w : World) (h : n ≤ 65536) (h1 : a + 8 ≤ n) (hc : w.cell? ⟨b, off + a, none⟩ = some (.int .u8 x)) (hx : 128 ≤ x) (hx' : x < 256) :
    Calls Try.prog 10 #[.slice (some ⟨b, off, none⟩) n cap, .int .i64 (a : Int), .int .i64 8] w fun e w' => e = .returned (.tuple #[.int .i64 0, .int .i64 0, .int .i64 3]) ∧ w' = w := by
  go_enter Try.func10, Try.ntmps10
  go_wp2
  go_ret3
  exact ⟨rfl, rfl⟩

set_option maxHeartbeats 400000 in
theorem specGF_lt (b off n cap a : Nat) (m : Nat) (m1 : 1 ≤ m) (m7 : m ≤ 7) (s : Int) (w : World) (h : n ≤ 65536) (h1 : a + m ≤ n) (hcap : n ≤ cap ∧ cap ≤ maxLen) (hs0 : 0 ≤ s) (hs1 : s ≤ 9223372036854775807)
    (hv : ∀ cap' : Nat, Calls Try.prog 17 #[.slice (some ⟨b, off + a, none⟩) m cap'] w fun e w' => e = .returned (.int .i64 s) ∧ w' = w) :
    Calls Try.prog 10 #[.slice (some ⟨b, off, none⟩) n cap, .int .i64 (a : Int), .int .i64 (m : Int)] w fun e w' => e = .returned (.tuple #[.int .i64 s, .int .i64 ((a : Int) + (m : Int)), .int .i64 0]) ∧ w' = w := by
  have hc1 := hcap.1
  have hc2 : cap ≤ 9223372036854775807 := by have := hcap.2; unfold maxLen at this; omega
  clear hcap
  have hne : ((m : Int) == 8) = false := by rw [beq_eq_false_iff_ne]; omega
  go_enter Try.func10, Try.ntmps10
  go_wp2_with (first
    | (go_at_call 17; refine (hv _).mono ?_; rintro e w' ⟨rfl, rfl⟩))
  go_ret3
  exact ⟨rfl, rfl⟩

set_option maxHeartbeats 400000 in
theorem specGF_eight (b off n cap a : Nat) (x : Int) (hx0 : 0 ≤ x) (hx : x < 128) (s : Int) (w : World) (h : n ≤ 65536) (h1 : a + 8 ≤ n) (hcap : n ≤ cap ∧ cap ≤ maxLen) (hc : w.cell? ⟨b, off + a, none⟩ = some (.int .u8 x)) (hs0 : 0 ≤ s) (hs1 : s ≤ 9223372036854775807)
    (hv : ∀ cap' : Nat, Calls Try.prog 17 #[.slice (some ⟨b, off + a, none⟩) 8 cap'] w fun e w' => e = .returned (.int .i64 s) ∧ w' = w) :
    Calls Try.prog 10 #[.slice (some ⟨b, off, none⟩) n cap, .int .i64 (a : Int), .int .i64 8] w fun e w' => e = .returned (.tuple #[.int .i64 s, .int .i64 ((a : Int) + 8), .int .i64 0]) ∧ w' = w := by
  have hc1 := hcap.1
  have hc2 : cap ≤ 9223372036854775807 := by have := hcap.2; unfold maxLen at this; omega
  clear hcap
  go_enter Try.func10, Try.ntmps10
  go_wp2_with (first
    | (go_at_call 17; refine (hv _).mono ?_; rintro e w' ⟨rfl, rfl⟩))
  go_ret3
  exact ⟨rfl, rfl⟩

theorem implGF_long (ao : Option Addr) (n cap : Nat) (a k : Int) (w : World) (h : 65536 < n) (hm : n ≤ 9223372036854775807) :
    Calls Try.prog 12 #[.slice ao n cap, .int .i64 a, .int .i64 k] w fun e w' => e = .returned (.tuple #[.int .i64 0, .int .i64 0, .int .i64 4]) ∧ w' = w := by
  go_enter Try.func12, Try.ntmps12
  go_wp2_with (go_at_call 18; refine (place_long _ _ _ _ _ h hm).mono ?_; rintro e w' ⟨rfl, rfl⟩)
  go_ret3
  exact ⟨rfl, rfl⟩
theorem implGF_bad (ao : Option Addr) (n cap : Nat) (a k : Int) (w : World) (h : n ≤ 65536) (hb : k < 1 ∨ 8 < k ∨ a < 0 ∨ (n : Int) < a) :
    Calls Try.prog 12 #[.slice ao n cap, .int .i64 a, .int .i64 k] w fun e w' => e = .returned (.tuple #[.int .i64 0, .int .i64 0, .int .i64 1]) ∧ w' = w := by
  by_cases h1 : a < 0
  · by_cases h2 : k < 1
    · clear hb
      go_enter Try.func12, Try.ntmps12
      go_wp2_with (go_at_call 18; refine (place_bad _ _ _ _ _ h (Or.inl h1)).mono ?_; rintro e w' ⟨rfl, rfl⟩)
      go_ret3
      exact ⟨rfl, rfl⟩
    · by_cases h3 : 8 < k
      · clear hb
        go_enter Try.func12, Try.ntmps12
        go_wp2_with (go_at_call 18; refine (place_bad _ _ _ _ _ h (Or.inl h1)).mono ?_; rintro e w' ⟨rfl, rfl⟩)
        go_ret3
        exact ⟨rfl, rfl⟩
      · clear hb
        go_enter Try.func12, Try.ntmps12
        go_wp2_with (go_at_call 18; refine (place_bad _ _ _ _ _ h (Or.inl h1)).mono ?_; rintro e w' ⟨rfl, rfl⟩)
        go_ret3
        exact ⟨rfl, rfl⟩
  · by_cases h4 : (n : Int) < a
    · by_cases h2 : k < 1
      · clear hb
        go_enter Try.func12, Try.ntmps12
        go_wp2_with (go_at_call 18; refine (place_bad _ _ _ _ _ h (Or.inr h4)).mono ?_; rintro e w' ⟨rfl, rfl⟩)
        go_ret3
        exact ⟨rfl, rfl⟩
      · by_cases h3 : 8 < k
        · clear hb
          go_enter Try.func12, Try.ntmps12
          go_wp2_with (go_at_call 18; refine (place_bad _ _ _ _ _ h (Or.inr h4)).mono ?_; rintro e w' ⟨rfl, rfl⟩)
          go_ret3
          exact ⟨rfl, rfl⟩
        · clear hb
          go_enter Try.func12, Try.ntmps12
          go_wp2_with (go_at_call 18; refine (place_bad _ _ _ _ _ h (Or.inr h4)).mono ?_; rintro e w' ⟨rfl, rfl⟩)
          go_ret3
          exact ⟨rfl, rfl⟩
    · by_cases h2 : k < 1
      · clear hb
        go_enter Try.func12, Try.ntmps12
        go_wp2_with (go_at_call 18; refine (place_ok _ _ _ _ _ h (by omega) (by omega)).mono ?_; rintro e w' ⟨rfl, rfl⟩)
        go_ret3
        exact ⟨rfl, rfl⟩
      · have h3 : 8 < k := by omega
        clear hb
        go_enter Try.func12, Try.ntmps12
        go_wp2_with (go_at_call 18; refine (place_ok _ _ _ _ _ h (by omega) (by omega)).mono ?_; rintro e w' ⟨rfl, rfl⟩)
        go_ret3
        exact ⟨rfl, rfl⟩
theorem implGF_short (ao : Option Addr) (n cap : Nat) (a k : Int) (w : World) (h : n ≤ 65536) (h0 : 0 ≤ a) (h1 : a ≤ (n : Int)) (k0 : 1 ≤ k) (k1 : k ≤ 8) (hs : (n : Int) - a < k) :
    Calls Try.prog 12 #[.slice ao n cap, .int .i64 a, .int .i64 k] w fun e w' => e = .returned (.tuple #[.int .i64 0, .int .i64 0, .int .i64 2]) ∧ w' = w := by
  go_enter Try.func12, Try.ntmps12
  go_wp2_with (go_at_call 18; refine (place_ok _ _ _ _ _ h h0 h1).mono ?_; rintro e w' ⟨rfl, rfl⟩)
  go_ret3
  exact ⟨rfl, rfl⟩
theorem implGF_form (b off n cap a : Nat) (x : Int) (w : World) (h : n ≤ 65536) (h1 : a + 8 ≤ n) (hc : w.cell? ⟨b, off + a, none⟩ = some (.int .u8 x)) (hx : 128 ≤ x) (hx' : x < 256) :
    Calls Try.prog 12 #[.slice (some ⟨b, off, none⟩) n cap, .int .i64 (a : Int), .int .i64 8] w fun e w' => e = .returned (.tuple #[.int .i64 0, .int .i64 0, .int .i64 3]) ∧ w' = w := by
  go_enter Try.func12, Try.ntmps12
  go_wp2_with (go_at_call 18; refine (place_ok _ _ _ _ _ h (by omega) (by omega)).mono ?_; rintro e w' ⟨rfl, rfl⟩)
  go_ret3
  exact ⟨rfl, rfl⟩

set_option maxHeartbeats 400000 in
theorem implGF_lt (b off n cap a : Nat) (m : Nat) (m1 : 1 ≤ m) (m7 : m ≤ 7) (s : Int) (w : World) (h : n ≤ 65536) (h1 : a + m ≤ n) (hcap : n ≤ cap ∧ cap ≤ maxLen) (hs0 : 0 ≤ s) (hs1 : s ≤ 9223372036854775807)
    (hv : ∀ cap' : Nat, Calls Try.prog 19 #[.slice (some ⟨b, off + a, none⟩) m cap'] w fun e w' => e = .returned (.int .u64 s) ∧ w' = w) :
    Calls Try.prog 12 #[.slice (some ⟨b, off, none⟩) n cap, .int .i64 (a : Int), .int .i64 (m : Int)] w fun e w' => e = .returned (.tuple #[.int .i64 s, .int .i64 ((a : Int) + (m : Int)), .int .i64 0]) ∧ w' = w := by
  have hc1 := hcap.1
  have hc2 : cap ≤ 9223372036854775807 := by have := hcap.2; unfold maxLen at this; omega
  clear hcap
  have hne : ((m : Int) == 8) = false := by rw [beq_eq_false_iff_ne]; omega
  go_enter Try.func12, Try.ntmps12
  go_wp2_with (first
    | (go_at_call 18; refine (place_ok _ _ _ _ _ h (by omega) (by omega)).mono ?_; rintro e w' ⟨rfl, rfl⟩)
    | (go_at_call 19; refine (hv _).mono ?_; rintro e w' ⟨rfl, rfl⟩))
  go_ret3
  exact ⟨rfl, rfl⟩

set_option maxHeartbeats 400000 in
theorem implGF_eight (b off n cap a : Nat) (x : Int) (hx0 : 0 ≤ x) (hx : x < 128) (s : Int) (w : World) (h : n ≤ 65536) (h1 : a + 8 ≤ n) (hcap : n ≤ cap ∧ cap ≤ maxLen) (hc : w.cell? ⟨b, off + a, none⟩ = some (.int .u8 x)) (hs0 : 0 ≤ s) (hs1 : s ≤ 9223372036854775807)
    (hv : ∀ cap' : Nat, Calls Try.prog 19 #[.slice (some ⟨b, off + a, none⟩) 8 cap'] w fun e w' => e = .returned (.int .u64 s) ∧ w' = w) :
    Calls Try.prog 12 #[.slice (some ⟨b, off, none⟩) n cap, .int .i64 (a : Int), .int .i64 8] w fun e w' => e = .returned (.tuple #[.int .i64 s, .int .i64 ((a : Int) + 8), .int .i64 0]) ∧ w' = w := by
  have hc1 := hcap.1
  have hc2 : cap ≤ 9223372036854775807 := by have := hcap.2; unfold maxLen at this; omega
  clear hcap
  go_enter Try.func12, Try.ntmps12
  go_wp2_with (first
    | (go_at_call 18; refine (place_ok _ _ _ _ _ h (by omega) (by omega)).mono ?_; rintro e w' ⟨rfl, rfl⟩)
    | (go_at_call 19; refine (hv _).mono ?_; rintro e w' ⟨rfl, rfl⟩))
  go_ret3
  exact ⟨rfl, rfl⟩

end Go.Proofs.Ytkjfpgdnhdnceah
