import Derived.Test.YtcjogmoifgcjbaaMem
namespace Go.Proofs.Ytcjogmoifgcjbaa
open Go.RowKit
set_option linter.unusedVariables false

/-- What PaceDelay answers. -/
def paceV (b r : Int) : Int := if b < 0 ∨ 100000000 < b ∨ r < 1 ∨ 1000000000000 < r then -1 else if b * 1000000 % r = 0 then b * 1000000 / r else b * 1000000 / r + 1
set_option maxHeartbeats 1000000 in
theorem paceS (b r : Int) (w : World) : Calls Try.prog 4 #[.int .i64 b, .int .i64 r] w fun e w' => e = .returned (.int .i64 (paceV b r)) ∧ w' = w := by
  by_cases a1 : b < 0
  · have hv : paceV b r = -1 := by unfold paceV; rw [if_pos (by omega)]
    rw [hv]
    go_enter Try.func4, Try.ntmps4
    go_wp2
    go_ret
    exact ⟨rfl, rfl⟩
  by_cases a2 : 100000000 < b
  · have hv : paceV b r = -1 := by unfold paceV; rw [if_pos (by omega)]
    rw [hv]
    go_enter Try.func4, Try.ntmps4
    go_wp2
    go_ret
    exact ⟨rfl, rfl⟩
  by_cases a3 : r < 1
  · have hv : paceV b r = -1 := by unfold paceV; rw [if_pos (by omega)]
    rw [hv]
    go_enter Try.func4, Try.ntmps4
    go_wp2
    go_ret
    exact ⟨rfl, rfl⟩
  by_cases a4 : 1000000000000 < r
  · have hv : paceV b r = -1 := by unfold paceV; rw [if_pos (by omega)]
    rw [hv]
    go_enter Try.func4, Try.ntmps4
    go_wp2
    go_ret
    exact ⟨rfl, rfl⟩
  have hr0 : (r == 0) = false := by rw [beq_eq_false_iff_ne]; omega
  have hn : 0 ≤ b * 1000000 := by omega
  have hd : (b * 1000000).tdiv r = b * 1000000 / r := Int.tdiv_eq_ediv_of_nonneg hn
  have hm : (b * 1000000).tmod r = b * 1000000 % r := Int.tmod_eq_emod_of_nonneg hn
  have hq0 : 0 ≤ b * 1000000 / r := Int.ediv_nonneg hn (by omega)
  have hq1 : b * 1000000 / r ≤ b * 1000000 := Int.ediv_le_self _ hn
  by_cases a5 : b * 1000000 % r = 0
  · have hv : paceV b r = b * 1000000 / r := by unfold paceV; rw [if_neg (by omega), if_pos a5]
    rw [hv]
    go_enter Try.func4, Try.ntmps4
    go_wp2
    go_ret
    exact ⟨rfl, rfl⟩
  · have hv : paceV b r = b * 1000000 / r + 1 := by unfold paceV; rw [if_neg (by omega), if_neg a5]
    rw [hv]
    go_enter Try.func4, Try.ntmps4
    go_wp2
    go_ret
    exact ⟨rfl, rfl⟩
/-- The law over the program's contract. -/
theorem fnExactPaceDelay_of (b r : Int) (hI : ∀ w, Calls Try.prog 5 #[.int .i64 b, .int .i64 r] w fun e w' => e = .returned (.int .i64 (paceV b r)) ∧ Below w.heap.size w w') (w : World) :
    Calls Try.prog 3 #[.int .i64 b, .int .i64 r] w fun e w' => e = .returned (.bool true) ∧ Below w.heap.size w w' := by
  have c1 := paceS b r w
  have hrefl : ((paceV b r) != (paceV b r)) = false := by simp
  generalize paceV b r = s at c1 hI hrefl
  go_enter Try.func3, Try.ntmps3
  go_wp2_with (first | (go_at_call 4; refine c1.mono ?_; rintro e w' ⟨rfl, rfl⟩) | (go_at_call 5; refine (hI _).mono ?_; rintro e w' ⟨rfl, hb⟩))
  go_ret
  exact ⟨rfl, hb⟩
end Go.Proofs.Ytcjogmoifgcjbaa
