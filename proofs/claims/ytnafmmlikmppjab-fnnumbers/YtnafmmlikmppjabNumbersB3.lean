import Derived.Test.YtnafmmlikmppjabNumbersA
namespace Go.Proofs.Ytnafmmlikmppjab
open Go.RowKit
set_option linter.unusedVariables false

set_option maxRecDepth 20000 in
set_option maxHeartbeats 4000000 in
theorem numbers_3 (v1 v2 : Value) (n1 : Nat) (ys : List Int) (num acked : Int) (w : World) (g1 : ∃ ao cap, v1 = .slice ao n1 cap) (l1 : n1 ≤ 1048576) (hrow : Row w .u8 v2 ys) (hB : Bytes ys) (l2 : ys.length ≤ 1048576)
    (D : Calls Try.prog 4 #[v1] w fun e w' => e = .returned (.tuple #[.int .i64 num, .int .i64 acked]) ∧ Below w.heap.size w w')
    (I : ∀ w : World, Calls Try.prog 5 #[.int .i64 num, .int .i64 acked] w fun e w' => e = .returned (.int .i64 3) ∧ w' = w)
    (S : ∀ w : World, Calls Try.prog 6 #[.int .i64 num, .int .i64 acked] w fun e w' => e = .returned (.int .i64 3) ∧ w' = w)
    (h0 : 0 ≤ num) (h1 : num ≤ 4611686018427387903) (hz : -1 ≤ acked) (hlt : acked < num) (ha : num - acked ≤ 8388608) :
    Calls Try.prog 3 #[v1, v2] w fun e w' => e = .returned (.bool true) ∧ Below w.heap.size w w' := by
  obtain ⟨ao1, cap1, rfl⟩ := g1
  obtain ⟨ao2, cap2, e2⟩ := hrow.form
  have hr : (num % 16777216 != num % 16777216) = false := by simp
  have hn : (num != num) = false := by simp
  subst e2
  obtain ⟨n2, en⟩ : ∃ n2, n2 = ys.length := ⟨_, rfl⟩
  have HR : Hid _ := And.intro hrow (And.intro hB en)
  rw [← en] at l2 ⊢
  clear hrow hB en
  go_enter Try.func3, Try.ntmps3
  go_wp2_with fail
  go_at_call 4
  refine D.mono ?_
  rintro e w1 ⟨rfl, b1⟩
  clear D
  go_wp2_with (first
    | (go_at_call 5; refine (I _).mono ?_; rintro e w' ⟨rfl, hw⟩; subst w')
    | (go_at_call 6; refine (S _).mono ?_; rintro e w' ⟨rfl, hw⟩; subst w'))
  clear I S
  refine wp_loop_rounds 4 ?_
  rw [rounds_succ]
  go_wp2
  rw [rounds_succ]
  go_wp2
  rw [rounds_succ]
  go_wp2
  rw [rounds_succ]
  go_wp2_with (go_at_call 7; refine (implCut_3 num _ h0 h1).mono ?_; rintro e w' ⟨rfl, hw⟩; subst w')
  go_loopw [11, 12, 13] (fun i _ _ wr => ∃ j : Nat, j ≤ 8 ∧ i = .int .i64 (j : Int) ∧ ∃ m, wr = w1.drewN m) (fun i _ _ _ => 8 - (intOf i).toNat)
  case atStart => exact ⟨0, by omega, rfl, 0, rfl⟩
  case round =>
    obtain ⟨j, hj, rfl, m, rfl⟩ := hrel
    by_cases hj8 : j < 8
    · have A := atC _ ys j 1000 (w1.drewN m) ((HR.out.1.below b1).drewN m) HR.out.2.1 (by have := HR.out.2.2; omega) (by omega) (by decide) (by decide)
      rw [← HR.out.2.2] at A
      have bd := atV_bd ys j 1000 (by decide)
      generalize atV ys j 1000 = z at A bd
      have z0 : 0 ≤ z * (num + 8388608 - 2 - acked) := Int.mul_nonneg bd.1 (by omega)
      have z1 : z * (num + 8388608 - 2 - acked) ≤ 999 * (num + 8388608 - 2 - acked) := Int.mul_le_mul_of_nonneg_right (by omega) (by omega)
      have hj01 : j = 0 ∨ j = 1 ∨ 2 ≤ j := by omega
      rcases hj01 with rfl | rfl | h2
      · go_wp2_with fail
        go_at_call 8
        refine A.mono ?_
        rintro e w2 ⟨rfl, m2, rfl⟩
        go_wp2_with fail
        go_at_call 9
        refine (expand_3 num acked _ _ h0 h1 hz ha ?_ ?_ ?_).mono ?_
        · omega
        · omega
        · omega
        rintro e w' ⟨rfl, hw⟩
        subst w'
        go_wp2
        go_roundw
        case rel => exact ⟨0 + 1, by omega, by go_num, _, rfl⟩
        case measure => (simp [intOf]; try omega)
      · by_cases hm : num + 8388608 - 2 ≤ 4611686018427387903
        · go_wp2_with fail
          go_at_call 8
          refine A.mono ?_
          rintro e w2 ⟨rfl, m2, rfl⟩
          go_wp2_with fail
          go_at_call 9
          refine (expand_3 num acked _ _ h0 h1 hz ha ?_ ?_ ?_).mono ?_
          · omega
          · omega
          · omega
          rintro e w' ⟨rfl, hw⟩
          subst w'
          go_wp2
          go_roundw
          case rel => exact ⟨1 + 1, by omega, by go_num, _, rfl⟩
          case measure => (simp [intOf]; try omega)
        · go_wp2_with fail
          go_at_call 8
          refine A.mono ?_
          rintro e w2 ⟨rfl, m2, rfl⟩
          go_wp2
          go_roundw
          case rel => exact ⟨1 + 1, by omega, by go_num, _, rfl⟩
          case measure => (simp [intOf]; try omega)
      · have e0 : ((j : Int) == 0) = false := by rw [beq_eq_false_iff_ne]; omega
        have e1 : ((j : Int) == 1) = false := by rw [beq_eq_false_iff_ne]; omega
        by_cases hm : acked + z * (num + 8388608 - 2 - acked) / 1000 ≤ 4611686018427387903
        · go_wp2_with fail
          go_at_call 8
          refine A.mono ?_
          rintro e w2 ⟨rfl, m2, rfl⟩
          go_wp2_with fail
          go_at_call 9
          refine (expand_3 num acked _ _ h0 h1 hz ha ?_ ?_ ?_).mono ?_
          · omega
          · omega
          · omega
          rintro e w' ⟨rfl, hw⟩
          subst w'
          go_wp2
          go_roundw
          case rel => exact ⟨j + 1, by omega, by go_num, _, rfl⟩
          case measure => (simp [intOf]; try omega)
        · go_wp2_with fail
          go_at_call 8
          refine A.mono ?_
          rintro e w2 ⟨rfl, m2, rfl⟩
          go_wp2
          go_roundw
          case rel => exact ⟨j + 1, by omega, by go_num, _, rfl⟩
          case measure => (simp [intOf]; try omega)
    · obtain rfl : j = 8 := by omega
      go_wp2
      go_ret
      exact ⟨rfl, below_drewN b1 m⟩
end Go.Proofs.Ytnafmmlikmppjab
