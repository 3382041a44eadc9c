import Derived.Test.YtejhobnfhplidaaMem
namespace Go.Proofs.Ytejhobnfhplidaa
open Go.RowKit
set_option linter.unusedVariables false

/-- The state behind a frame of this kind, and the code. -/
def arS (s k : Int) : Int :=
  if s < 0 ∨ 3 < s ∨ k < 0 then 0 else if k = 1 then (if s = 0 then 1 else if s < 3 then 3 else 0) else if k = 0 then (if s = 1 ∨ s = 2 then 2 else 0) else if k = 4 ∨ k = 7 ∨ k = 15 then 0 else s
def arC (s k : Int) : Int :=
  if s < 0 ∨ 3 < s ∨ k < 0 then 1 else if k = 1 then (if s < 3 then 0 else 18) else if k = 0 then (if s = 1 ∨ s = 2 then 0 else 18) else if k = 4 ∨ k = 7 ∨ k = 15 then 18 else 0

set_option maxHeartbeats 4000000 in
theorem specArrange (s k : Int) (w : World) :
    Calls Try.prog 5 #[.int .i64 s, .int .i64 k] w fun e w' => e = .returned (.tuple #[.int .i64 (arS s k), .int .i64 (arC s k)]) ∧ w' = w := by
  by_cases a1 : s < 0
  · rw [show arS s k = 0 by unfold arS; rw [if_pos (by omega)], show arC s k = 1 by unfold arC; rw [if_pos (by omega)]]
    go_enter Try.func5, Try.ntmps5
    go_wp2
    (try simp only [Exit.inBlock, Exit.then])
    refine bodyPost_ret (results_tmp2 rfl _ _ _) rfl ?_
    exact ⟨rfl, rfl⟩
  by_cases a2 : 3 < s
  · rw [show arS s k = 0 by unfold arS; rw [if_pos (by omega)], show arC s k = 1 by unfold arC; rw [if_pos (by omega)]]
    go_enter Try.func5, Try.ntmps5
    go_wp2
    (try simp only [Exit.inBlock, Exit.then])
    refine bodyPost_ret (results_tmp2 rfl _ _ _) rfl ?_
    exact ⟨rfl, rfl⟩
  by_cases a3 : k < 0
  · rw [show arS s k = 0 by unfold arS; rw [if_pos (by omega)], show arC s k = 1 by unfold arC; rw [if_pos (by omega)]]
    go_enter Try.func5, Try.ntmps5
    go_wp2
    (try simp only [Exit.inBlock, Exit.then])
    refine bodyPost_ret (results_tmp2 rfl _ _ _) rfl ?_
    exact ⟨rfl, rfl⟩
  obtain rfl | rfl | rfl | rfl : s = 0 ∨ s = 1 ∨ s = 2 ∨ s = 3 := by omega
  all_goals
    clear a1 a2
    rcases (show k = 0 ∨ k = 1 ∨ k = 4 ∨ k = 7 ∨ k = 15 ∨ (k ≠ 0 ∧ k ≠ 1 ∧ k ≠ 4 ∧ k ≠ 7 ∧ k ≠ 15) by omega) with rfl | rfl | rfl | rfl | rfl | ⟨b0, b1, b4, b7, b15⟩
    · clear a3
      go_enter Try.func5, Try.ntmps5
      go_wp2
      (try simp only [Exit.inBlock, Exit.then])
      refine bodyPost_ret (results_tmp2 rfl _ _ _) rfl ?_
      exact ⟨rfl, rfl⟩
    · clear a3
      go_enter Try.func5, Try.ntmps5
      go_wp2
      (try simp only [Exit.inBlock, Exit.then])
      refine bodyPost_ret (results_tmp2 rfl _ _ _) rfl ?_
      exact ⟨rfl, rfl⟩
    · clear a3
      go_enter Try.func5, Try.ntmps5
      go_wp2
      (try simp only [Exit.inBlock, Exit.then])
      refine bodyPost_ret (results_tmp2 rfl _ _ _) rfl ?_
      exact ⟨rfl, rfl⟩
    · clear a3
      go_enter Try.func5, Try.ntmps5
      go_wp2
      (try simp only [Exit.inBlock, Exit.then])
      refine bodyPost_ret (results_tmp2 rfl _ _ _) rfl ?_
      exact ⟨rfl, rfl⟩
    · clear a3
      go_enter Try.func5, Try.ntmps5
      go_wp2
      (try simp only [Exit.inBlock, Exit.then])
      refine bodyPost_ret (results_tmp2 rfl _ _ _) rfl ?_
      exact ⟨rfl, rfl⟩
    · have hs : ∀ s, ¬ (s < 0 ∨ 3 < s ∨ k < 0) → arS s k = s := fun s h => by unfold arS; rw [if_neg h, if_neg b1, if_neg b0, if_neg (by omega)]
      have hc : ∀ s, ¬ (s < 0 ∨ 3 < s ∨ k < 0) → arC s k = 0 := fun s h => by unfold arC; rw [if_neg h, if_neg b1, if_neg b0, if_neg (by omega)]
      rw [hs _ (by omega), hc _ (by omega)]
      clear hs hc
      have d0 : (k == 0) = false := by simp [b0]
      have d1 : (k == 1) = false := by simp [b1]
      have d4 : (k == 4) = false := by simp [b4]
      have d7 : (k == 7) = false := by simp [b7]
      have d15 : (k == 15) = false := by simp [b15]
      go_enter Try.func5, Try.ntmps5
      go_wp2
      (try simp only [Exit.inBlock, Exit.then])
      refine bodyPost_ret (results_tmp2 rfl _ _ _) rfl ?_
      exact ⟨rfl, rfl⟩

set_option maxHeartbeats 4000000 in
theorem implArrange (s k : Int) (w : World) :
    Calls Try.prog 6 #[.int .i64 s, .int .i64 k] w fun e w' => e = .returned (.tuple #[.int .i64 (arS s k), .int .i64 (arC s k)]) ∧ w' = w := by
  by_cases a1 : s < 0
  · rw [show arS s k = 0 by unfold arS; rw [if_pos (by omega)], show arC s k = 1 by unfold arC; rw [if_pos (by omega)]]
    go_enter Try.func6, Try.ntmps6
    go_wp2
    (try simp only [Exit.inBlock, Exit.then])
    refine bodyPost_ret (results_tmp2 rfl _ _ _) rfl ?_
    exact ⟨rfl, rfl⟩
  by_cases a2 : 3 < s
  · rw [show arS s k = 0 by unfold arS; rw [if_pos (by omega)], show arC s k = 1 by unfold arC; rw [if_pos (by omega)]]
    go_enter Try.func6, Try.ntmps6
    go_wp2
    (try simp only [Exit.inBlock, Exit.then])
    refine bodyPost_ret (results_tmp2 rfl _ _ _) rfl ?_
    exact ⟨rfl, rfl⟩
  by_cases a3 : k < 0
  · rw [show arS s k = 0 by unfold arS; rw [if_pos (by omega)], show arC s k = 1 by unfold arC; rw [if_pos (by omega)]]
    go_enter Try.func6, Try.ntmps6
    go_wp2
    (try simp only [Exit.inBlock, Exit.then])
    refine bodyPost_ret (results_tmp2 rfl _ _ _) rfl ?_
    exact ⟨rfl, rfl⟩
  obtain rfl | rfl | rfl | rfl : s = 0 ∨ s = 1 ∨ s = 2 ∨ s = 3 := by omega
  all_goals
    clear a1 a2
    rcases (show k = 0 ∨ k = 1 ∨ k = 4 ∨ k = 7 ∨ k = 15 ∨ (k ≠ 0 ∧ k ≠ 1 ∧ k ≠ 4 ∧ k ≠ 7 ∧ k ≠ 15) by omega) with rfl | rfl | rfl | rfl | rfl | ⟨b0, b1, b4, b7, b15⟩
    · clear a3
      go_enter Try.func6, Try.ntmps6
      go_wp2
      (try simp only [Exit.inBlock, Exit.then])
      refine bodyPost_ret (results_tmp2 rfl _ _ _) rfl ?_
      exact ⟨rfl, rfl⟩
    · clear a3
      go_enter Try.func6, Try.ntmps6
      go_wp2
      (try simp only [Exit.inBlock, Exit.then])
      refine bodyPost_ret (results_tmp2 rfl _ _ _) rfl ?_
      exact ⟨rfl, rfl⟩
    · clear a3
      go_enter Try.func6, Try.ntmps6
      go_wp2
      (try simp only [Exit.inBlock, Exit.then])
      refine bodyPost_ret (results_tmp2 rfl _ _ _) rfl ?_
      exact ⟨rfl, rfl⟩
    · clear a3
      go_enter Try.func6, Try.ntmps6
      go_wp2
      (try simp only [Exit.inBlock, Exit.then])
      refine bodyPost_ret (results_tmp2 rfl _ _ _) rfl ?_
      exact ⟨rfl, rfl⟩
    · clear a3
      go_enter Try.func6, Try.ntmps6
      go_wp2
      (try simp only [Exit.inBlock, Exit.then])
      refine bodyPost_ret (results_tmp2 rfl _ _ _) rfl ?_
      exact ⟨rfl, rfl⟩
    · have hs : ∀ s, ¬ (s < 0 ∨ 3 < s ∨ k < 0) → arS s k = s := fun s h => by unfold arS; rw [if_neg h, if_neg b1, if_neg b0, if_neg (by omega)]
      have hc : ∀ s, ¬ (s < 0 ∨ 3 < s ∨ k < 0) → arC s k = 0 := fun s h => by unfold arC; rw [if_neg h, if_neg b1, if_neg b0, if_neg (by omega)]
      rw [hs _ (by omega), hc _ (by omega)]
      clear hs hc
      have d0 : (k == 0) = false := by simp [b0]
      have d1 : (k == 1) = false := by simp [b1]
      have d4 : (k == 4) = false := by simp [b4]
      have d7 : (k == 7) = false := by simp [b7]
      have d15 : (k == 15) = false := by simp [b15]
      go_enter Try.func6, Try.ntmps6
      go_wp2
      (try simp only [Exit.inBlock, Exit.then])
      refine bodyPost_ret (results_tmp2 rfl _ _ _) rfl ?_
      exact ⟨rfl, rfl⟩

theorem fnExactArrange_walk (s k : Int) (_ : (Lit.int .i64 s).wf = true) (_ : (Lit.int .i64 k).wf = true) (w : World) :
    Calls Try.prog 3 #[.int .i64 s, .int .i64 k] w fun e w' => e = .returned (.bool true) ∧ Below w.heap.size w w' := by
  have c1 := specArrange s k w
  have c2 := implArrange s k w
  have r1 : ((arS s k) != (arS s k)) = false := by simp
  have r2 : ((arC s k) != (arC s k)) = false := by simp
  generalize arS s k = x1 at *
  generalize arC s k = x2 at *
  go_enter Try.func3, Try.ntmps3
  go_wp2_with (first | (go_at_call 5; refine c1.mono ?_; rintro e w' ⟨rfl, rfl⟩) | (go_at_call 6; refine c2.mono ?_; rintro e w' ⟨rfl, rfl⟩))
  all_goals (go_ret; exact ⟨rfl, Below.refl _ _⟩)
end Go.Proofs.Ytejhobnfhplidaa