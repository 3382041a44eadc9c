import Derived.Test.YtdommkpeilmdnaaDoorGetVarM
import Derived.Test.YtdommkpeilmdnaaDoorShort
import Derived.Test.YtdommkpeilmdnaaDoorPlace
namespace Go.Proofs.YtdommkpeilmdnaaDoor
open Go.RowKit
set_option linter.unusedVariables false

theorem implGV_long (ao : Option Addr) (n cap : Nat) (a : Int) (w : World) (h : 65536 < n) (hm : n ≤ 9223372036854775807) :
    Calls Tryd.prog 42 #[.slice ao n cap, .int .i64 a] w fun e w' => e = .returned (.tuple #[.int .i64 0, .int .i64 0, .int .i64 4]) ∧ w' = w := by
  go_enter Tryd.func42, Tryd.ntmps42
  go_wp2_with (go_at_call 52; refine (place_long _ _ _ _ _ h hm).mono ?_; rintro e w' ⟨rfl, rfl⟩)
  go_ret3
  exact ⟨rfl, rfl⟩
theorem implGV_bad (ao : Option Addr) (n cap : Nat) (a : Int) (w : World) (h : n ≤ 65536) (hb : a < 0 ∨ (n : Int) < a) :
    Calls Tryd.prog 42 #[.slice ao n cap, .int .i64 a] w fun e w' => e = .returned (.tuple #[.int .i64 0, .int .i64 0, .int .i64 1]) ∧ w' = w := by
  by_cases h1 : a < 0
  · clear hb
    go_enter Tryd.func42, Tryd.ntmps42
    go_wp2_with (go_at_call 52; refine (place_bad _ _ _ _ _ h (Or.inl h1)).mono ?_; rintro e w' ⟨rfl, rfl⟩)
    go_ret3
    exact ⟨rfl, rfl⟩
  · have h2 : (n : Int) < a := by omega
    clear hb
    go_enter Tryd.func42, Tryd.ntmps42
    go_wp2_with (go_at_call 52; refine (place_bad _ _ _ _ _ h (Or.inr h2)).mono ?_; rintro e w' ⟨rfl, rfl⟩)
    go_ret3
    exact ⟨rfl, rfl⟩
theorem implGV_end (ao : Option Addr) (n cap : Nat) (w : World) (h : n ≤ 65536) :
    Calls Tryd.prog 42 #[.slice ao n cap, .int .i64 (n : Int)] w fun e w' => e = .returned (.tuple #[.int .i64 0, .int .i64 0, .int .i64 2]) ∧ w' = w := by
  go_enter Tryd.func42, Tryd.ntmps42
  go_wp2_with (go_at_call 52; refine (place_ok _ _ _ _ _ h (by omega) (by omega)).mono ?_; rintro e w' ⟨rfl, rfl⟩)
  go_ret3
  exact ⟨rfl, rfl⟩
set_option maxHeartbeats 1000000 in
theorem implGV_1 (b off n cap a : Nat) (x0 s : Int) (w : World) (ht : Tab w) (h : n ≤ 65536) (h1 : a + 1 ≤ n) (hcap : n ≤ cap ∧ cap ≤ maxLen) (c0 : w.cell? ⟨b, off + a, none⟩ = some (.int .u8 x0)) (l0 : 0 ≤ x0) (u0 : x0 < 256) (hf : x0 / 64 = 0) (s0 : 0 ≤ s) (s1 : s < 18446744073709551616)
    (hv : ∀ cap' : Nat, Calls Tryd.prog 53 #[.slice (some ⟨b, off + a, none⟩) 1 cap'] w fun e w' => e = .returned (.int .u64 s) ∧ w' = w) :
    Calls Tryd.prog 42 #[.slice (some ⟨b, off, none⟩) n cap, .int .i64 (a : Int)] w fun e w' => e = .returned (.tuple #[.int .i64 (s % 64), .int .i64 ((a : Int) + 1), .int .i64 0]) ∧ w' = w := by
  have hne : ((a : Int) == (n : Int)) = false := by rw [beq_eq_false_iff_ne]; omega
  have hc1 := hcap.1
  have hc2 : cap ≤ 9223372036854775807 := by have := hcap.2; unfold maxLen at this; omega
  have d := length_0 w ht.c0
  have g : Calls Tryd.prog 54 #[.int .i64 0] w fun e w' => e = .returned (.int .i64 63) ∧ w' = w := greatest_any 0 (by decide) (by decide) w ht
  have e1 : bits .and .u64 s 63 = s % 64 := mask_of s 63 6 s0 s1 (by decide) (by decide)
  clear hcap ht s1
  go_enter Tryd.func42, Tryd.ntmps42
  go_wp2_with (first
    | (go_at_call 52; refine (place_ok _ _ _ _ _ h (by omega) (by omega)).mono ?_; rintro e w' ⟨rfl, rfl⟩)
    | (go_at_call 49; refine d.mono ?_; rintro e w' ⟨rfl, rfl⟩)
    | (go_at_call 54; refine g.mono ?_; rintro e w' ⟨rfl, rfl⟩)
    | (go_at_call 53; refine (hv _).mono ?_; rintro e w' ⟨rfl, rfl⟩))
  go_ret3
  exact ⟨rfl, rfl⟩
set_option maxHeartbeats 1000000 in
theorem implGV_2 (b off n cap a : Nat) (x0 s : Int) (w : World) (ht : Tab w) (h : n ≤ 65536) (h1 : a + 2 ≤ n) (hcap : n ≤ cap ∧ cap ≤ maxLen) (c0 : w.cell? ⟨b, off + a, none⟩ = some (.int .u8 x0)) (l0 : 0 ≤ x0) (u0 : x0 < 256) (hf : x0 / 64 = 1) (s0 : 0 ≤ s) (s1 : s < 18446744073709551616)
    (hv : ∀ cap' : Nat, Calls Tryd.prog 53 #[.slice (some ⟨b, off + a, none⟩) 2 cap'] w fun e w' => e = .returned (.int .u64 s) ∧ w' = w) :
    Calls Tryd.prog 42 #[.slice (some ⟨b, off, none⟩) n cap, .int .i64 (a : Int)] w fun e w' => e = .returned (.tuple #[.int .i64 (s % 16384), .int .i64 ((a : Int) + 2), .int .i64 0]) ∧ w' = w := by
  have hne : ((a : Int) == (n : Int)) = false := by rw [beq_eq_false_iff_ne]; omega
  have hc1 := hcap.1
  have hc2 : cap ≤ 9223372036854775807 := by have := hcap.2; unfold maxLen at this; omega
  have d := length_1 w ht.c1
  have g : Calls Tryd.prog 54 #[.int .i64 1] w fun e w' => e = .returned (.int .i64 16383) ∧ w' = w := greatest_any 1 (by decide) (by decide) w ht
  have e1 : bits .and .u64 s 16383 = s % 16384 := mask_of s 16383 14 s0 s1 (by decide) (by decide)
  clear hcap ht s1
  go_enter Tryd.func42, Tryd.ntmps42
  go_wp2_with (first
    | (go_at_call 52; refine (place_ok _ _ _ _ _ h (by omega) (by omega)).mono ?_; rintro e w' ⟨rfl, rfl⟩)
    | (go_at_call 49; refine d.mono ?_; rintro e w' ⟨rfl, rfl⟩)
    | (go_at_call 54; refine g.mono ?_; rintro e w' ⟨rfl, rfl⟩)
    | (go_at_call 53; refine (hv _).mono ?_; rintro e w' ⟨rfl, rfl⟩))
  go_ret3
  exact ⟨rfl, rfl⟩
theorem implGV_short_2 (b off n cap a : Nat) (x0 : Int) (w : World) (ht : Tab w) (h : n ≤ 65536) (h0 : a < n) (h1 : n < a + 2) (c0 : w.cell? ⟨b, off + a, none⟩ = some (.int .u8 x0)) (l0 : 0 ≤ x0) (u0 : x0 < 256) (hf : x0 / 64 = 1) :
    Calls Tryd.prog 42 #[.slice (some ⟨b, off, none⟩) n cap, .int .i64 (a : Int)] w fun e w' => e = .returned (.tuple #[.int .i64 0, .int .i64 0, .int .i64 2]) ∧ w' = w := by
  have hne : ((a : Int) == (n : Int)) = false := by rw [beq_eq_false_iff_ne]; omega
  have d := length_1 w ht.c1
  clear ht
  go_enter Tryd.func42, Tryd.ntmps42
  go_wp2_with (first
    | (go_at_call 52; refine (place_ok _ _ _ _ _ h (by omega) (by omega)).mono ?_; rintro e w' ⟨rfl, rfl⟩)
    | (go_at_call 49; refine d.mono ?_; rintro e w' ⟨rfl, rfl⟩))
  go_ret3
  exact ⟨rfl, rfl⟩
set_option maxHeartbeats 1000000 in
theorem implGV_4 (b off n cap a : Nat) (x0 s : Int) (w : World) (ht : Tab w) (h : n ≤ 65536) (h1 : a + 4 ≤ n) (hcap : n ≤ cap ∧ cap ≤ maxLen) (c0 : w.cell? ⟨b, off + a, none⟩ = some (.int .u8 x0)) (l0 : 0 ≤ x0) (u0 : x0 < 256) (hf : x0 / 64 = 2) (s0 : 0 ≤ s) (s1 : s < 18446744073709551616)
    (hv : ∀ cap' : Nat, Calls Tryd.prog 53 #[.slice (some ⟨b, off + a, none⟩) 4 cap'] w fun e w' => e = .returned (.int .u64 s) ∧ w' = w) :
    Calls Tryd.prog 42 #[.slice (some ⟨b, off, none⟩) n cap, .int .i64 (a : Int)] w fun e w' => e = .returned (.tuple #[.int .i64 (s % 1073741824), .int .i64 ((a : Int) + 4), .int .i64 0]) ∧ w' = w := by
  have hne : ((a : Int) == (n : Int)) = false := by rw [beq_eq_false_iff_ne]; omega
  have hc1 := hcap.1
  have hc2 : cap ≤ 9223372036854775807 := by have := hcap.2; unfold maxLen at this; omega
  have d := length_2 w ht.c2
  have g : Calls Tryd.prog 54 #[.int .i64 2] w fun e w' => e = .returned (.int .i64 1073741823) ∧ w' = w := greatest_any 2 (by decide) (by decide) w ht
  have e1 : bits .and .u64 s 1073741823 = s % 1073741824 := mask_of s 1073741823 30 s0 s1 (by decide) (by decide)
  clear hcap ht s1
  go_enter Tryd.func42, Tryd.ntmps42
  go_wp2_with (first
    | (go_at_call 52; refine (place_ok _ _ _ _ _ h (by omega) (by omega)).mono ?_; rintro e w' ⟨rfl, rfl⟩)
    | (go_at_call 49; refine d.mono ?_; rintro e w' ⟨rfl, rfl⟩)
    | (go_at_call 54; refine g.mono ?_; rintro e w' ⟨rfl, rfl⟩)
    | (go_at_call 53; refine (hv _).mono ?_; rintro e w' ⟨rfl, rfl⟩))
  go_ret3
  exact ⟨rfl, rfl⟩
theorem implGV_short_4 (b off n cap a : Nat) (x0 : Int) (w : World) (ht : Tab w) (h : n ≤ 65536) (h0 : a < n) (h1 : n < a + 4) (c0 : w.cell? ⟨b, off + a, none⟩ = some (.int .u8 x0)) (l0 : 0 ≤ x0) (u0 : x0 < 256) (hf : x0 / 64 = 2) :
    Calls Tryd.prog 42 #[.slice (some ⟨b, off, none⟩) n cap, .int .i64 (a : Int)] w fun e w' => e = .returned (.tuple #[.int .i64 0, .int .i64 0, .int .i64 2]) ∧ w' = w := by
  have hne : ((a : Int) == (n : Int)) = false := by rw [beq_eq_false_iff_ne]; omega
  have d := length_2 w ht.c2
  clear ht
  go_enter Tryd.func42, Tryd.ntmps42
  go_wp2_with (first
    | (go_at_call 52; refine (place_ok _ _ _ _ _ h (by omega) (by omega)).mono ?_; rintro e w' ⟨rfl, rfl⟩)
    | (go_at_call 49; refine d.mono ?_; rintro e w' ⟨rfl, rfl⟩))
  go_ret3
  exact ⟨rfl, rfl⟩
set_option maxHeartbeats 1000000 in
theorem implGV_8 (b off n cap a : Nat) (x0 s : Int) (w : World) (ht : Tab w) (h : n ≤ 65536) (h1 : a + 8 ≤ n) (hcap : n ≤ cap ∧ cap ≤ maxLen) (c0 : w.cell? ⟨b, off + a, none⟩ = some (.int .u8 x0)) (l0 : 0 ≤ x0) (u0 : x0 < 256) (hf : x0 / 64 = 3) (s0 : 0 ≤ s) (s1 : s < 18446744073709551616)
    (hv : ∀ cap' : Nat, Calls Tryd.prog 53 #[.slice (some ⟨b, off + a, none⟩) 8 cap'] w fun e w' => e = .returned (.int .u64 s) ∧ w' = w) :
    Calls Tryd.prog 42 #[.slice (some ⟨b, off, none⟩) n cap, .int .i64 (a : Int)] w fun e w' => e = .returned (.tuple #[.int .i64 (s % 4611686018427387904), .int .i64 ((a : Int) + 8), .int .i64 0]) ∧ w' = w := by
  have hne : ((a : Int) == (n : Int)) = false := by rw [beq_eq_false_iff_ne]; omega
  have hc1 := hcap.1
  have hc2 : cap ≤ 9223372036854775807 := by have := hcap.2; unfold maxLen at this; omega
  have d := length_3 w ht.c3
  have g : Calls Tryd.prog 54 #[.int .i64 3] w fun e w' => e = .returned (.int .i64 4611686018427387903) ∧ w' = w := greatest_any 3 (by decide) (by decide) w ht
  have e1 : bits .and .u64 s 4611686018427387903 = s % 4611686018427387904 := mask_of s 4611686018427387903 62 s0 s1 (by decide) (by decide)
  clear hcap ht s1
  go_enter Tryd.func42, Tryd.ntmps42
  go_wp2_with (first
    | (go_at_call 52; refine (place_ok _ _ _ _ _ h (by omega) (by omega)).mono ?_; rintro e w' ⟨rfl, rfl⟩)
    | (go_at_call 49; refine d.mono ?_; rintro e w' ⟨rfl, rfl⟩)
    | (go_at_call 54; refine g.mono ?_; rintro e w' ⟨rfl, rfl⟩)
    | (go_at_call 53; refine (hv _).mono ?_; rintro e w' ⟨rfl, rfl⟩))
  go_ret3
  exact ⟨rfl, rfl⟩
theorem implGV_short_8 (b off n cap a : Nat) (x0 : Int) (w : World) (ht : Tab w) (h : n ≤ 65536) (h0 : a < n) (h1 : n < a + 8) (c0 : w.cell? ⟨b, off + a, none⟩ = some (.int .u8 x0)) (l0 : 0 ≤ x0) (u0 : x0 < 256) (hf : x0 / 64 = 3) :
    Calls Tryd.prog 42 #[.slice (some ⟨b, off, none⟩) n cap, .int .i64 (a : Int)] w fun e w' => e = .returned (.tuple #[.int .i64 0, .int .i64 0, .int .i64 2]) ∧ w' = w := by
  have hne : ((a : Int) == (n : Int)) = false := by rw [beq_eq_false_iff_ne]; omega
  have d := length_3 w ht.c3
  clear ht
  go_enter Tryd.func42, Tryd.ntmps42
  go_wp2_with (first
    | (go_at_call 52; refine (place_ok _ _ _ _ _ h (by omega) (by omega)).mono ?_; rintro e w' ⟨rfl, rfl⟩)
    | (go_at_call 49; refine d.mono ?_; rintro e w' ⟨rfl, rfl⟩))
  go_ret3
  exact ⟨rfl, rfl⟩
theorem implGetVar (v : Value) (xs : List Int) (a : Int) (w : World) (ht : Tab w) (hrow : Row w .u8 v xs) (hB : Bytes xs) (hm : xs.length ≤ 9223372036854775807) :
    Calls Tryd.prog 42 #[v, .int .i64 a] w fun e w' => e = .returned (.tuple #[.int .i64 (gv xs a).1, .int .i64 (gv xs a).2.1, .int .i64 (gv xs a).2.2]) ∧ w' = w := by
  by_cases h16 : 65536 < xs.length
  · have e : gv xs a = (0, 0, 4) := by unfold gv; rw [if_pos h16]
    rw [e]
    obtain ⟨ao, cap, rfl⟩ := hrow.form
    exact implGV_long ao _ cap a w h16 hm
  · by_cases hbad : a < 0 ∨ (xs.length : Int) < a
    · have e : gv xs a = (0, 0, 1) := by unfold gv; rw [if_neg h16, if_pos hbad]
      rw [e]
      obtain ⟨ao, cap, rfl⟩ := hrow.form
      exact implGV_bad ao _ cap a w (by omega) hbad
    · by_cases hend : a = xs.length
      · have e : gv xs a = (0, 0, 2) := by unfold gv; rw [if_neg h16, if_neg hbad, if_pos hend]
        rw [e]
        obtain ⟨ao, cap, rfl⟩ := hrow.form
        subst hend
        exact implGV_end ao _ cap w (by omega)
      · obtain ⟨i, rfl⟩ := Int.eq_ofNat_of_zero_le (show 0 ≤ a by omega)
        have hi : i < xs.length := by omega
        obtain ⟨b, off, cap, rfl, hb, hcap, hc⟩ := hrow.full (by omega)
        have hx := hB.at i
        have c0 := hc i hi
        by_cases hs : xs.length < i + gvn (xs.getD i 0)
        · rw [gv_short xs i (by omega) hi hs]
          rcases gv_form _ hx.1 hx.2 with ⟨hf, hn, _⟩ | ⟨hf, hn, _⟩ | ⟨hf, hn, _⟩ | ⟨hf, hn, _⟩
          · rw [hn] at hs; omega
          · rw [hn] at hs; exact implGV_short_2 b off _ cap i _ w ht (by omega) hi hs c0 hx.1 hx.2 hf
          · rw [hn] at hs; exact implGV_short_4 b off _ cap i _ w ht (by omega) hi hs c0 hx.1 hx.2 hf
          · rw [hn] at hs; exact implGV_short_8 b off _ cap i _ w ht (by omega) hi hs c0 hx.1 hx.2 hf
        · rw [gv_ok xs i (by omega) hi (by omega)]
          rcases gv_form _ hx.1 hx.2 with ⟨hf, hn, hmm⟩ | ⟨hf, hn, hmm⟩ | ⟨hf, hn, hmm⟩ | ⟨hf, hn, hmm⟩
          · rw [hn, hmm]
            rw [hn] at hs
            have hsl := sub_length xs i 1 (by omega)
            have hsB : Bytes ((xs.drop i).take 1) := (hB.drop i).take 1
            exact implGV_1 b off _ cap i _ _ w ht (by omega) (by omega) hcap c0 hx.1 hx.2 hf (vals_nonneg _ hsB) (vals_lt8 _ hsB (by omega))
              (fun cap' => read_core 1 _ b (off + i) cap' w (by decide) hsl hsB (fun j hj => by rw [Nat.add_assoc, hc (i + j) (by omega)]; simp [List.getD, hj]))
          · rw [hn, hmm]
            rw [hn] at hs
            have hsl := sub_length xs i 2 (by omega)
            have hsB : Bytes ((xs.drop i).take 2) := (hB.drop i).take 2
            exact implGV_2 b off _ cap i _ _ w ht (by omega) (by omega) hcap c0 hx.1 hx.2 hf (vals_nonneg _ hsB) (vals_lt8 _ hsB (by omega))
              (fun cap' => read_core 2 _ b (off + i) cap' w (by decide) hsl hsB (fun j hj => by rw [Nat.add_assoc, hc (i + j) (by omega)]; simp [List.getD, hj]))
          · rw [hn, hmm]
            rw [hn] at hs
            have hsl := sub_length xs i 4 (by omega)
            have hsB : Bytes ((xs.drop i).take 4) := (hB.drop i).take 4
            exact implGV_4 b off _ cap i _ _ w ht (by omega) (by omega) hcap c0 hx.1 hx.2 hf (vals_nonneg _ hsB) (vals_lt8 _ hsB (by omega))
              (fun cap' => read_core 4 _ b (off + i) cap' w (by decide) hsl hsB (fun j hj => by rw [Nat.add_assoc, hc (i + j) (by omega)]; simp [List.getD, hj]))
          · rw [hn, hmm]
            rw [hn] at hs
            have hsl := sub_length xs i 8 (by omega)
            have hsB : Bytes ((xs.drop i).take 8) := (hB.drop i).take 8
            exact implGV_8 b off _ cap i _ _ w ht (by omega) (by omega) hcap c0 hx.1 hx.2 hf (vals_nonneg _ hsB) (vals_lt8 _ hsB (by omega))
              (fun cap' => read_core 8 _ b (off + i) cap' w (by decide) hsl hsB (fun j hj => by rw [Nat.add_assoc, hc (i + j) (by omega)]; simp [List.getD, hj]))
end Go.Proofs.YtdommkpeilmdnaaDoor
