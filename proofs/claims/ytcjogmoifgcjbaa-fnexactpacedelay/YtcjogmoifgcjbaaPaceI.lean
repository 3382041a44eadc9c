import Derived.Test.YtcjogmoifgcjbaaPaceS
namespace Go.Proofs.Ytcjogmoifgcjbaa
open Go.RowKit
set_option linter.unusedVariables false

theorem ceil_up (n r : Int) (hn : 0 ≤ n) (hr : 1 ≤ r) (h : ¬ n % r = 0) : (n + r - 1) / r = n / r + 1 := by
  have h1 := Int.emod_nonneg n (show r ≠ 0 by omega)
  have h2 := Int.emod_lt_of_pos n (show 0 < r by omega)
  have h3 := Int.mul_ediv_add_emod n r
  have e : n + r - 1 = (n % r - 1) + r * (n / r + 1) := by rw [Int.mul_add]; omega
  rw [e, Int.add_mul_ediv_left _ _ (show r ≠ 0 by omega), Int.ediv_eq_zero_of_lt (by omega) (by omega)]; omega
theorem ceil_at (n r : Int) (hn : 0 ≤ n) (hr : 1 ≤ r) (h : n % r = 0) : (n + r - 1) / r = n / r := by
  have h3 := Int.mul_ediv_add_emod n r
  have e : n + r - 1 = (r - 1) + r * (n / r) := by omega
  rw [e, Int.add_mul_ediv_left _ _ (show r ≠ 0 by omega), Int.ediv_eq_zero_of_lt (by omega) (by omega)]; omega
set_option maxHeartbeats 1000000 in
theorem paceI (b r : Int) (w : World) : Calls Try.prog 5 #[.int .i64 b, .int .i64 r] w fun e w' => e = .returned (.int .i64 (paceV b r)) ∧ w' = w := by
  by_cases a1 : b < 0
  · have hv : paceV b r = -1 := by unfold paceV; rw [if_pos (by omega)]
    rw [hv]
    go_enter Try.func5, Try.ntmps5
    go_wp2
    go_ret
    exact ⟨rfl, rfl⟩
  by_cases a2 : 100000000 < b
  · have hv : paceV b r = -1 := by unfold paceV; rw [if_pos (by omega)]
    rw [hv]
    go_enter Try.func5, Try.ntmps5
    go_wp2
    go_ret
    exact ⟨rfl, rfl⟩
  by_cases a3 : r < 1
  · have hv : paceV b r = -1 := by unfold paceV; rw [if_pos (by omega)]
    rw [hv]
    go_enter Try.func5, Try.ntmps5
    go_wp2
    go_ret
    exact ⟨rfl, rfl⟩
  by_cases a4 : 1000000000000 < r
  · have hv : paceV b r = -1 := by unfold paceV; rw [if_pos (by omega)]
    rw [hv]
    go_enter Try.func5, Try.ntmps5
    go_wp2
    go_ret
    exact ⟨rfl, rfl⟩
  have hr0 : (r == 0) = false := by rw [beq_eq_false_iff_ne]; omega
  have hn : 0 ≤ b * 1000000 := by omega
  have hm0 : 0 ≤ b * 1000000 + r - 1 := by omega
  have hd : (b * 1000000 + r - 1).tdiv r = (b * 1000000 + r - 1) / r := Int.tdiv_eq_ediv_of_nonneg hm0
  have hq0 : 0 ≤ (b * 1000000 + r - 1) / r := Int.ediv_nonneg hm0 (by omega)
  have hq1 : (b * 1000000 + r - 1) / r ≤ b * 1000000 + r - 1 := Int.ediv_le_self _ hm0
  have hv : paceV b r = (b * 1000000 + r - 1) / r := by
    unfold paceV; rw [if_neg (by omega)]
    by_cases a5 : b * 1000000 % r = 0
    · rw [if_pos a5, ceil_at _ _ hn (by omega) a5]
    · rw [if_neg a5, ceil_up _ _ hn (by omega) a5]
  rw [hv]
  go_enter Try.func5, Try.ntmps5
  go_wp2
  go_ret
  exact ⟨rfl, rfl⟩
theorem fnExactPaceDelay_walk (b r : Int) (_ : (Lit.int .i64 b).wf = true) (_ : (Lit.int .i64 r).wf = true) (w : World) :
    Calls Try.prog 3 #[.int .i64 b, .int .i64 r] w fun e w' => e = .returned (.bool true) ∧ Below w.heap.size w w' :=
  fnExactPaceDelay_of b r (fun w => (paceI b r w).mono fun e w' ⟨h, k⟩ => ⟨h, k ▸ Below.refl _ _⟩) w
end Go.Proofs.Ytcjogmoifgcjbaa
