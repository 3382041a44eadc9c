import Derived.Test.YthjakbpcpfmbjaaMem
namespace Go.Proofs.Ythjakbpcpfmbjaa
open Go.RowKit
set_option linter.unusedVariables false

def cnV (r w t : Int) : Int := if r < 0 ∨ 4611686018427371519 < r ∨ t < 0 ∨ 4611686018427371519 < t ∨ w < 1 ∨ 16384 < w then -1 else if (w + 1) / 2 ≤ r + w - t then r + w else t

set_option maxHeartbeats 1000000 in
theorem specCN (r n t : Int) (w : World) :
    Calls Try.prog 51 #[.int .i64 r, .int .i64 n, .int .i64 t] w fun e w' => e = .returned (.int .i64 (cnV r n t)) ∧ w' = w := by
  by_cases a1 : r < 0
  · have hv : cnV r n t = -1 := by unfold cnV; rw [if_pos (by omega)]
    rw [hv]
    go_enter Try.func51, Try.ntmps51
    go_wp2
    go_ret
    exact ⟨rfl, rfl⟩
  by_cases a2 : 4611686018427371519 < r
  · have hv : cnV r n t = -1 := by unfold cnV; rw [if_pos (by omega)]
    rw [hv]
    go_enter Try.func51, Try.ntmps51
    go_wp2
    go_ret
    exact ⟨rfl, rfl⟩
  by_cases a3 : t < 0
  · have hv : cnV r n t = -1 := by unfold cnV; rw [if_pos (by omega)]
    rw [hv]
    go_enter Try.func51, Try.ntmps51
    go_wp2
    go_ret
    exact ⟨rfl, rfl⟩
  by_cases a4 : 4611686018427371519 < t
  · have hv : cnV r n t = -1 := by unfold cnV; rw [if_pos (by omega)]
    rw [hv]
    go_enter Try.func51, Try.ntmps51
    go_wp2
    go_ret
    exact ⟨rfl, rfl⟩
  by_cases a5 : n < 1
  · have hv : cnV r n t = -1 := by unfold cnV; rw [if_pos (by omega)]
    rw [hv]
    go_enter Try.func51, Try.ntmps51
    go_wp2
    go_ret
    exact ⟨rfl, rfl⟩
  by_cases a6 : 16384 < n
  · have hv : cnV r n t = -1 := by unfold cnV; rw [if_pos (by omega)]
    rw [hv]
    go_enter Try.func51, Try.ntmps51
    go_wp2
    go_ret
    exact ⟨rfl, rfl⟩
  have hq : (n + 1).tdiv 2 = (n + 1) / 2 := Int.tdiv_eq_ediv_of_nonneg (by omega)
  by_cases a7 : (n + 1) / 2 ≤ r + n - t
  · have hv : cnV r n t = r + n := by unfold cnV; rw [if_neg (by omega), if_pos a7]
    rw [hv]
    go_enter Try.func51, Try.ntmps51
    go_wp2
    go_ret
    exact ⟨rfl, rfl⟩
  · have hv : cnV r n t = t := by unfold cnV; rw [if_neg (by omega), if_neg a7]
    rw [hv]
    go_enter Try.func51, Try.ntmps51
    go_wp2
    go_ret
    exact ⟨rfl, rfl⟩

set_option maxHeartbeats 1000000 in
theorem implCN (r n t : Int) (w : World) :
    Calls Try.prog 58 #[.int .i64 r, .int .i64 n, .int .i64 t] w fun e w' => e = .returned (.int .i64 (cnV r n t)) ∧ w' = w := by
  by_cases a1 : min r t < 0
  · have hv : cnV r n t = -1 := by unfold cnV; rw [if_pos (by omega)]
    rw [hv]
    go_enter Try.func58, Try.ntmps58
    go_wp2
    all_goals (go_ret; exact ⟨rfl, rfl⟩)
  by_cases a2 : 4611686018427371519 < max r t
  · have hv : cnV r n t = -1 := by unfold cnV; rw [if_pos (by omega)]
    rw [hv]
    go_enter Try.func58, Try.ntmps58
    go_wp2
    all_goals (go_ret; exact ⟨rfl, rfl⟩)
  by_cases a5 : n < 1
  · have hv : cnV r n t = -1 := by unfold cnV; rw [if_pos (by omega)]
    rw [hv]
    go_enter Try.func58, Try.ntmps58
    go_wp2
    all_goals (go_ret; exact ⟨rfl, rfl⟩)
  by_cases a6 : 16384 < n
  · have hv : cnV r n t = -1 := by unfold cnV; rw [if_pos (by omega)]
    rw [hv]
    go_enter Try.func58, Try.ntmps58
    go_wp2
    all_goals (go_ret; exact ⟨rfl, rfl⟩)
  have hq : (n + 1).tdiv 2 = (n + 1) / 2 := Int.tdiv_eq_ediv_of_nonneg (by omega)
  by_cases a7 : (n + 1) / 2 ≤ r + n - t
  · have hv : cnV r n t = r + n := by unfold cnV; rw [if_neg (by omega), if_pos a7]
    rw [hv]
    go_enter Try.func58, Try.ntmps58
    go_wp2
    all_goals (go_ret; exact ⟨rfl, rfl⟩)
  · have hv : cnV r n t = t := by unfold cnV; rw [if_neg (by omega), if_neg a7]
    rw [hv]
    go_enter Try.func58, Try.ntmps58
    go_wp2
    all_goals (go_ret; exact ⟨rfl, rfl⟩)

end Go.Proofs.Ythjakbpcpfmbjaa
