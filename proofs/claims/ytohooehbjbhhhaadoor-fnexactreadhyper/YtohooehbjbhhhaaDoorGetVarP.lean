import Derived.Test.YtohooehbjbhhhaaDoorGetVarM
namespace Go.Proofs.YtohooehbjbhhhaaDoor
open Go.RowKit
set_option linter.unusedVariables false

theorem specGV_long (ao : Option Addr) (n cap : Nat) (a : Int) (w : World) (h : 65536 < n) (hm : n ≤ 9223372036854775807) :
    Calls Tryd.prog 28 #[.slice ao n cap, .int .i64 a] w fun e w' => e = .returned (.tuple #[.int .i64 0, .int .i64 0, .int .i64 4]) ∧ w' = w := by
  go_enter Tryd.func28, Tryd.ntmps28
  go_wp2
  go_ret3
  exact ⟨rfl, rfl⟩
theorem specGV_bad (ao : Option Addr) (n cap : Nat) (a : Int) (w : World) (h : n ≤ 65536) (hb : a < 0 ∨ (n : Int) < a) :
    Calls Tryd.prog 28 #[.slice ao n cap, .int .i64 a] w fun e w' => e = .returned (.tuple #[.int .i64 0, .int .i64 0, .int .i64 1]) ∧ w' = w := by
  by_cases h1 : a < 0
  · clear hb
    go_enter Tryd.func28, Tryd.ntmps28
    go_wp2
    go_ret3
    exact ⟨rfl, rfl⟩
  · have h2 : (n : Int) < a := by omega
    clear hb
    go_enter Tryd.func28, Tryd.ntmps28
    go_wp2
    go_ret3
    exact ⟨rfl, rfl⟩
theorem specGV_end (ao : Option Addr) (n cap : Nat) (w : World) (h : n ≤ 65536) :
    Calls Tryd.prog 28 #[.slice ao n cap, .int .i64 (n : Int)] w fun e w' => e = .returned (.tuple #[.int .i64 0, .int .i64 0, .int .i64 2]) ∧ w' = w := by
  go_enter Tryd.func28, Tryd.ntmps28
  go_wp2
  go_ret3
  exact ⟨rfl, rfl⟩
set_option maxHeartbeats 1000000 in
theorem specGV_1 (b off n cap a : Nat) (x0 : Int) (w : World) (h : n ≤ 65536) (h1 : a + 1 ≤ n) (c0 : w.cell? ⟨b, off + a, none⟩ = some (.int .u8 x0)) (l0 : 0 ≤ x0) (u0 : x0 < 256) (hf : x0 / 64 = 0) :
    Calls Tryd.prog 28 #[.slice (some ⟨b, off, none⟩) n cap, .int .i64 (a : Int)] w fun e w' => e = .returned (.tuple #[.int .i64 (x0 % 64), .int .i64 ((a : Int) + 1), .int .i64 0]) ∧ w' = w := by
  have hne : ((a : Int) == (n : Int)) = false := by rw [beq_eq_false_iff_ne]; omega
  go_enter Tryd.func28, Tryd.ntmps28
  go_wp2
  refine wp_loop_rounds 1 ?_
  rw [rounds_succ]
  go_wp2
  refine wp_loop_rounds 1 ?_
  rw [rounds_succ]
  go_wp2
  go_ret3
  exact ⟨rfl, rfl⟩
set_option maxHeartbeats 1000000 in
theorem specGV_2 (b off n cap a : Nat) (x0 x1 : Int) (w : World) (h : n ≤ 65536) (h1 : a + 2 ≤ n) (c0 : w.cell? ⟨b, off + a, none⟩ = some (.int .u8 x0)) (c1 : w.cell? ⟨b, off + (a + 1), none⟩ = some (.int .u8 x1)) (l0 : 0 ≤ x0) (u0 : x0 < 256) (l1 : 0 ≤ x1) (u1 : x1 < 256) (hf : x0 / 64 = 1) :
    Calls Tryd.prog 28 #[.slice (some ⟨b, off, none⟩) n cap, .int .i64 (a : Int)] w fun e w' => e = .returned (.tuple #[.int .i64 (x0 % 64 * 256 + x1), .int .i64 ((a : Int) + 2), .int .i64 0]) ∧ w' = w := by
  have hne : ((a : Int) == (n : Int)) = false := by rw [beq_eq_false_iff_ne]; omega
  go_enter Tryd.func28, Tryd.ntmps28
  go_wp2
  refine wp_loop_rounds 2 ?_
  rw [rounds_succ]
  go_wp2
  rw [rounds_succ]
  go_wp2
  refine wp_loop_rounds 2 ?_
  rw [rounds_succ]
  go_wp2
  rw [rounds_succ]
  go_wp2
  go_ret3
  exact ⟨rfl, rfl⟩
theorem specGV_short_2 (b off n cap a : Nat) (x0 : Int) (w : World) (h : n ≤ 65536) (h0 : a < n) (h1 : n < a + 2) (c0 : w.cell? ⟨b, off + a, none⟩ = some (.int .u8 x0)) (l0 : 0 ≤ x0) (u0 : x0 < 256) (hf : x0 / 64 = 1) :
    Calls Tryd.prog 28 #[.slice (some ⟨b, off, none⟩) n cap, .int .i64 (a : Int)] w fun e w' => e = .returned (.tuple #[.int .i64 0, .int .i64 0, .int .i64 2]) ∧ w' = w := by
  have hne : ((a : Int) == (n : Int)) = false := by rw [beq_eq_false_iff_ne]; omega
  go_enter Tryd.func28, Tryd.ntmps28
  go_wp2
  refine wp_loop_rounds 2 ?_
  rw [rounds_succ]
  go_wp2
  rw [rounds_succ]
  go_wp2
  go_ret3
  exact ⟨rfl, rfl⟩
set_option maxHeartbeats 1000000 in
theorem specGV_4 (b off n cap a : Nat) (x0 x1 x2 x3 : Int) (w : World) (h : n ≤ 65536) (h1 : a + 4 ≤ n) (c0 : w.cell? ⟨b, off + a, none⟩ = some (.int .u8 x0)) (c1 : w.cell? ⟨b, off + (a + 1), none⟩ = some (.int .u8 x1)) (c2 : w.cell? ⟨b, off + (a + 2), none⟩ = some (.int .u8 x2)) (c3 : w.cell? ⟨b, off + (a + 3), none⟩ = some (.int .u8 x3)) (l0 : 0 ≤ x0) (u0 : x0 < 256) (l1 : 0 ≤ x1) (u1 : x1 < 256) (l2 : 0 ≤ x2) (u2 : x2 < 256) (l3 : 0 ≤ x3) (u3 : x3 < 256) (hf : x0 / 64 = 2) :
    Calls Tryd.prog 28 #[.slice (some ⟨b, off, none⟩) n cap, .int .i64 (a : Int)] w fun e w' => e = .returned (.tuple #[.int .i64 (((x0 % 64 * 256 + x1) * 256 + x2) * 256 + x3), .int .i64 ((a : Int) + 4), .int .i64 0]) ∧ w' = w := by
  have hne : ((a : Int) == (n : Int)) = false := by rw [beq_eq_false_iff_ne]; omega
  go_enter Tryd.func28, Tryd.ntmps28
  go_wp2
  refine wp_loop_rounds 3 ?_
  rw [rounds_succ]
  go_wp2
  rw [rounds_succ]
  go_wp2
  rw [rounds_succ]
  go_wp2
  refine wp_loop_rounds 4 ?_
  rw [rounds_succ]
  go_wp2
  rw [rounds_succ]
  go_wp2
  rw [rounds_succ]
  go_wp2
  rw [rounds_succ]
  go_wp2
  go_ret3
  exact ⟨rfl, rfl⟩
theorem specGV_short_4 (b off n cap a : Nat) (x0 : Int) (w : World) (h : n ≤ 65536) (h0 : a < n) (h1 : n < a + 4) (c0 : w.cell? ⟨b, off + a, none⟩ = some (.int .u8 x0)) (l0 : 0 ≤ x0) (u0 : x0 < 256) (hf : x0 / 64 = 2) :
    Calls Tryd.prog 28 #[.slice (some ⟨b, off, none⟩) n cap, .int .i64 (a : Int)] w fun e w' => e = .returned (.tuple #[.int .i64 0, .int .i64 0, .int .i64 2]) ∧ w' = w := by
  have hne : ((a : Int) == (n : Int)) = false := by rw [beq_eq_false_iff_ne]; omega
  go_enter Tryd.func28, Tryd.ntmps28
  go_wp2
  refine wp_loop_rounds 3 ?_
  rw [rounds_succ]
  go_wp2
  rw [rounds_succ]
  go_wp2
  rw [rounds_succ]
  go_wp2
  go_ret3
  exact ⟨rfl, rfl⟩
set_option maxHeartbeats 1000000 in
theorem specGV_8 (b off n cap a : Nat) (x0 x1 x2 x3 x4 x5 x6 x7 : Int) (w : World) (h : n ≤ 65536) (h1 : a + 8 ≤ n) (c0 : w.cell? ⟨b, off + a, none⟩ = some (.int .u8 x0)) (c1 : w.cell? ⟨b, off + (a + 1), none⟩ = some (.int .u8 x1)) (c2 : w.cell? ⟨b, off + (a + 2), none⟩ = some (.int .u8 x2)) (c3 : w.cell? ⟨b, off + (a + 3), none⟩ = some (.int .u8 x3)) (c4 : w.cell? ⟨b, off + (a + 4), none⟩ = some (.int .u8 x4)) (c5 : w.cell? ⟨b, off + (a + 5), none⟩ = some (.int .u8 x5)) (c6 : w.cell? ⟨b, off + (a + 6), none⟩ = some (.int .u8 x6)) (c7 : w.cell? ⟨b, off + (a + 7), none⟩ = some (.int .u8 x7)) (l0 : 0 ≤ x0) (u0 : x0 < 256) (l1 : 0 ≤ x1) (u1 : x1 < 256) (l2 : 0 ≤ x2) (u2 : x2 < 256) (l3 : 0 ≤ x3) (u3 : x3 < 256) (l4 : 0 ≤ x4) (u4 : x4 < 256) (l5 : 0 ≤ x5) (u5 : x5 < 256) (l6 : 0 ≤ x6) (u6 : x6 < 256) (l7 : 0 ≤ x7) (u7 : x7 < 256) (hf : x0 / 64 = 3) :
    Calls Tryd.prog 28 #[.slice (some ⟨b, off, none⟩) n cap, .int .i64 (a : Int)] w fun e w' => e = .returned (.tuple #[.int .i64 (((((((x0 % 64 * 256 + x1) * 256 + x2) * 256 + x3) * 256 + x4) * 256 + x5) * 256 + x6) * 256 + x7), .int .i64 ((a : Int) + 8), .int .i64 0]) ∧ w' = w := by
  have hne : ((a : Int) == (n : Int)) = false := by rw [beq_eq_false_iff_ne]; omega
  go_enter Tryd.func28, Tryd.ntmps28
  go_wp2
  refine wp_loop_rounds 4 ?_
  rw [rounds_succ]
  go_wp2
  rw [rounds_succ]
  go_wp2
  rw [rounds_succ]
  go_wp2
  rw [rounds_succ]
  go_wp2
  refine wp_loop_rounds 8 ?_
  rw [rounds_succ]
  go_wp2
  rw [rounds_succ]
  go_wp2
  rw [rounds_succ]
  go_wp2
  rw [rounds_succ]
  go_wp2
  rw [rounds_succ]
  go_wp2
  rw [rounds_succ]
  go_wp2
  rw [rounds_succ]
  go_wp2
  rw [rounds_succ]
  go_wp2
  go_ret3
  exact ⟨rfl, rfl⟩
theorem specGV_short_8 (b off n cap a : Nat) (x0 : Int) (w : World) (h : n ≤ 65536) (h0 : a < n) (h1 : n < a + 8) (c0 : w.cell? ⟨b, off + a, none⟩ = some (.int .u8 x0)) (l0 : 0 ≤ x0) (u0 : x0 < 256) (hf : x0 / 64 = 3) :
    Calls Tryd.prog 28 #[.slice (some ⟨b, off, none⟩) n cap, .int .i64 (a : Int)] w fun e w' => e = .returned (.tuple #[.int .i64 0, .int .i64 0, .int .i64 2]) ∧ w' = w := by
  have hne : ((a : Int) == (n : Int)) = false := by rw [beq_eq_false_iff_ne]; omega
  go_enter Tryd.func28, Tryd.ntmps28
  go_wp2
  refine wp_loop_rounds 4 ?_
  rw [rounds_succ]
  go_wp2
  rw [rounds_succ]
  go_wp2
  rw [rounds_succ]
  go_wp2
  rw [rounds_succ]
  go_wp2
  go_ret3
  exact ⟨rfl, rfl⟩
theorem specGetVar (v : Value) (xs : List Int) (a : Int) (w : World) (hrow : Row w .u8 v xs) (hB : Bytes xs) (hm : xs.length ≤ 9223372036854775807) :
    Calls Tryd.prog 28 #[v, .int .i64 a] w fun e w' => e = .returned (.tuple #[.int .i64 (gv xs a).1, .int .i64 (gv xs a).2.1, .int .i64 (gv xs a).2.2]) ∧ w' = w := by
  by_cases h16 : 65536 < xs.length
  · have e : gv xs a = (0, 0, 4) := by unfold gv; rw [if_pos h16]
    rw [e]
    obtain ⟨ao, cap, rfl⟩ := hrow.form
    exact specGV_long ao _ cap a w h16 hm
  · by_cases hbad : a < 0 ∨ (xs.length : Int) < a
    · have e : gv xs a = (0, 0, 1) := by unfold gv; rw [if_neg h16, if_pos hbad]
      rw [e]
      obtain ⟨ao, cap, rfl⟩ := hrow.form
      exact specGV_bad ao _ cap a w (by omega) hbad
    · by_cases hend : a = xs.length
      · have e : gv xs a = (0, 0, 2) := by unfold gv; rw [if_neg h16, if_neg hbad, if_pos hend]
        rw [e]
        obtain ⟨ao, cap, rfl⟩ := hrow.form
        subst hend
        exact specGV_end ao _ cap w (by omega)
      · obtain ⟨i, rfl⟩ := Int.eq_ofNat_of_zero_le (show 0 ≤ a by omega)
        have hi : i < xs.length := by omega
        obtain ⟨b, off, cap, rfl, hb, hcap, hc⟩ := hrow.full (by omega)
        have hx := hB.at i
        have c0 := hc i hi
        by_cases hs : xs.length < i + gvn (xs.getD i 0)
        · rw [gv_short xs i (by omega) hi hs]
          rcases gv_form _ hx.1 hx.2 with ⟨hf, hn, _⟩ | ⟨hf, hn, _⟩ | ⟨hf, hn, _⟩ | ⟨hf, hn, _⟩
          · rw [hn] at hs; omega
          · rw [hn] at hs; exact specGV_short_2 b off _ cap i _ w (by omega) hi hs c0 hx.1 hx.2 hf
          · rw [hn] at hs; exact specGV_short_4 b off _ cap i _ w (by omega) hi hs c0 hx.1 hx.2 hf
          · rw [hn] at hs; exact specGV_short_8 b off _ cap i _ w (by omega) hi hs c0 hx.1 hx.2 hf
        · rw [gv_ok xs i (by omega) hi (by omega)]
          rcases gv_form _ hx.1 hx.2 with ⟨hf, hn, hmm⟩ | ⟨hf, hn, hmm⟩ | ⟨hf, hn, hmm⟩ | ⟨hf, hn, hmm⟩
          · rw [hn, hmm]
            rw [hn] at hs
            have hsl := sub_length xs i 1 (by omega)
            rw [vals_1 _ hsl, sub_at xs i 1 0 (by decide), Nat.add_zero, low_1 _ (hB.at i).1 (hB.at i).2 hf]
            exact specGV_1 b off _ cap i _ w (by omega) (by omega) c0 (hB.at i).1 (hB.at i).2 hf
          · rw [hn, hmm]
            rw [hn] at hs
            have hsl := sub_length xs i 2 (by omega)
            rw [vals_2 _ hsl, sub_at xs i 2 0 (by decide), sub_at xs i 2 1 (by decide), Nat.add_zero, low_2 _ _ (hB.at i).1 (hB.at i).2 (hB.at (i + 1)).1 (hB.at (i + 1)).2 hf]
            exact specGV_2 b off _ cap i _ _ w (by omega) (by omega) c0 (hc (i + 1) (by omega)) (hB.at i).1 (hB.at i).2 (hB.at (i + 1)).1 (hB.at (i + 1)).2 hf
          · rw [hn, hmm]
            rw [hn] at hs
            have hsl := sub_length xs i 4 (by omega)
            rw [vals_4 _ hsl, sub_at xs i 4 0 (by decide), sub_at xs i 4 1 (by decide), sub_at xs i 4 2 (by decide), sub_at xs i 4 3 (by decide), Nat.add_zero, low_4 _ _ _ _ (hB.at i).1 (hB.at i).2 (hB.at (i + 1)).1 (hB.at (i + 1)).2 (hB.at (i + 2)).1 (hB.at (i + 2)).2 (hB.at (i + 3)).1 (hB.at (i + 3)).2 hf]
            exact specGV_4 b off _ cap i _ _ _ _ w (by omega) (by omega) c0 (hc (i + 1) (by omega)) (hc (i + 2) (by omega)) (hc (i + 3) (by omega)) (hB.at i).1 (hB.at i).2 (hB.at (i + 1)).1 (hB.at (i + 1)).2 (hB.at (i + 2)).1 (hB.at (i + 2)).2 (hB.at (i + 3)).1 (hB.at (i + 3)).2 hf
          · rw [hn, hmm]
            rw [hn] at hs
            have hsl := sub_length xs i 8 (by omega)
            rw [vals_8 _ hsl, sub_at xs i 8 0 (by decide), sub_at xs i 8 1 (by decide), sub_at xs i 8 2 (by decide), sub_at xs i 8 3 (by decide), sub_at xs i 8 4 (by decide), sub_at xs i 8 5 (by decide), sub_at xs i 8 6 (by decide), sub_at xs i 8 7 (by decide), Nat.add_zero, low_8 _ _ _ _ _ _ _ _ (hB.at i).1 (hB.at i).2 (hB.at (i + 1)).1 (hB.at (i + 1)).2 (hB.at (i + 2)).1 (hB.at (i + 2)).2 (hB.at (i + 3)).1 (hB.at (i + 3)).2 (hB.at (i + 4)).1 (hB.at (i + 4)).2 (hB.at (i + 5)).1 (hB.at (i + 5)).2 (hB.at (i + 6)).1 (hB.at (i + 6)).2 (hB.at (i + 7)).1 (hB.at (i + 7)).2 hf]
            exact specGV_8 b off _ cap i _ _ _ _ _ _ _ _ w (by omega) (by omega) c0 (hc (i + 1) (by omega)) (hc (i + 2) (by omega)) (hc (i + 3) (by omega)) (hc (i + 4) (by omega)) (hc (i + 5) (by omega)) (hc (i + 6) (by omega)) (hc (i + 7) (by omega)) (hB.at i).1 (hB.at i).2 (hB.at (i + 1)).1 (hB.at (i + 1)).2 (hB.at (i + 2)).1 (hB.at (i + 2)).2 (hB.at (i + 3)).1 (hB.at (i + 3)).2 (hB.at (i + 4)).1 (hB.at (i + 4)).2 (hB.at (i + 5)).1 (hB.at (i + 5)).2 (hB.at (i + 6)).1 (hB.at (i + 6)).2 (hB.at (i + 7)).1 (hB.at (i + 7)).2 hf
end Go.Proofs.YtohooehbjbhhhaaDoor
