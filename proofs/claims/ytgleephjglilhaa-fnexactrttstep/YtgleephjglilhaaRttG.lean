import Derived.Test.YtgleephjglilhaaRttF
namespace Go.Proofs.Ytgleephjglilhaa
open Go.RowKit
set_option linter.unusedVariables false

/-- Both sides answer the same four numbers. -/
theorem step_both (a b c d s y m : Int) : ∃ x0 x1 x2 x3 : Int,
    (∀ w : World, Calls Try.prog 6 #[rv a b c d, .int .i64 s, .int .i64 y, .int .i64 m] w fun e w' => e = .returned (rv x0 x1 x2 x3) ∧ Below w.heap.size w w') ∧
    (∀ w : World, Calls Try.prog 8 #[rv a b c d, .int .i64 s, .int .i64 y, .int .i64 m] w fun e w' => e = .returned (rv x0 x1 x2 x3) ∧ Below w.heap.size w w') := by
  by_cases h : badStep a b c d s y m
  · exact ⟨0, 0, 0, 0, stepS_bad a b c d s y m h, stepI_bad a b c d s y m h⟩
  unfold badStep at h
  have h0 : okR a b c d := Classical.not_not.1 fun q => h (Or.inl q)
  have h1 : 1 ≤ s ∧ s ≤ 1000000000000 := ⟨Int.not_lt.1 fun q => h (Or.inr (Or.inl q)), (Classical.not_not.1 (fun q => h (Or.inr (Or.inr (Or.inl q)))) : tOK s).2⟩
  have h3 : tOK y := Classical.not_not.1 fun q => h (Or.inr (Or.inr (Or.inr (Or.inl q))))
  have h4 : tOK m := Classical.not_not.1 fun q => h (Or.inr (Or.inr (Or.inr (Or.inr q))))
  by_cases hz : zR a b c d
  · exact ⟨s, s, s, s / 2, stepS_first a b c d s y m h0 hz h1 h3 h4, stepI_first a b c d s y m h0 hz h1 h3 h4⟩
  · exact ⟨_, _, _, _, stepS_next a b c d s y m h0 hz h1 h3 h4, stepI_next a b c d s y m h0 hz h1 h3 h4⟩
theorem after4i {w w1 : World} {o1 o2 o3 o4 : Obj} (h : Below ((((w.alloc o1).alloc o2).alloc o3).alloc o4).heap.size ((((w.alloc o1).alloc o2).alloc o3).alloc o4) w1) :
    Below w.heap.size w w1 ∧ w.heap.size < w1.heap.size ∧ w1.heap[w.heap.size]? = some o1 := by
  refine ⟨(((((Below.refl _ _).alloc (Nat.le_refl _) _).alloc (by simp) o2).alloc (by simp <;> omega) o3).alloc (by simp <;> omega) o4).trans (h.mono (by simp <;> omega)), ?_, ?_⟩
  · have := h.size
    simp at this
    omega
  · rw [h.block _ (by simp <;> omega)]
    have e2 : (((w.alloc o1).alloc o2).alloc o3).heap[w.heap.size]? = some o1 := (bk_new3 w o1 o2 o3).1
    have e3 : ((((w.alloc o1).alloc o2).alloc o3).alloc o4).heap[w.heap.size]? = (((w.alloc o1).alloc o2).alloc o3).heap[w.heap.size]? := ((Below.refl _ _).alloc (Nat.le_refl _) o4).block _ (by simp <;> omega)
    rw [e3, e2]
set_option maxHeartbeats 2000000 in
theorem fnExactRttStep_walk (a b c d s y m : Int) (_ : (Lit.int .i64 s).wf = true) (_ : (Lit.int .i64 y).wf = true) (_ : (Lit.int .i64 m).wf = true) (w : World) :
    Calls Try.prog 3 #[rv a b c d, .int .i64 s, .int .i64 y, .int .i64 m] w fun e w' => e = .returned (.bool true) ∧ Below w.heap.size w w' := by
  obtain ⟨x0, x1, x2, x3, c1, c2⟩ := step_both a b c d s y m
  go_enter Try.func3, Try.ntmps3
  go_wp2_with (first | (go_at_call 7; refine (toRttC _ _ _ _ _).mono ?_; rintro e w' ⟨rfl, rfl⟩) | fail)
  refine (c1 _).mono ?_
  rintro e w1 ⟨rfl, b1⟩
  obtain ⟨B1, l1, k1⟩ := after4 b1
  have q0 : w1.cell? ⟨w.heap.size, 0, none⟩ = some (.int .i64 a) := by rw [bk_cell k1]; rfl
  have q1 : w1.cell? ⟨w.heap.size, 1, none⟩ = some (.int .i64 b) := by rw [bk_cell k1]; rfl
  have q2 : w1.cell? ⟨w.heap.size, 2, none⟩ = some (.int .i64 c) := by rw [bk_cell k1]; rfl
  have q3 : w1.cell? ⟨w.heap.size, 3, none⟩ = some (.int .i64 d) := by rw [bk_cell k1]; rfl
  go_wp2_with (first | (go_at_call 7; refine (toRttC _ _ _ _ _).mono ?_; rintro e w' ⟨rfl, rfl⟩) | fail)
  refine (c2 _).mono ?_
  rintro e w2 ⟨rfl, b2⟩
  obtain ⟨B2, l2, k2⟩ := after4i b2
  have r0 : w2.cell? ⟨w1.heap.size, 0, none⟩ = some (.int .i64 x0) := by rw [bk_cell k2]; rfl
  have r1 : w2.cell? ⟨w1.heap.size, 1, none⟩ = some (.int .i64 x1) := by rw [bk_cell k2]; rfl
  have r2 : w2.cell? ⟨w1.heap.size, 2, none⟩ = some (.int .i64 x2) := by rw [bk_cell k2]; rfl
  have r3 : w2.cell? ⟨w1.heap.size, 3, none⟩ = some (.int .i64 x3) := by rw [bk_cell k2]; rfl
  go_wp2_with (go_at_call 9; refine (eqRttC _ _ _ _ _).mono ?_; rintro e w' ⟨rfl, rfl⟩)
  go_ret
  refine ⟨rfl, (B1.trans (B2.mono (Nat.le_of_lt l1))).trans ?_⟩
  refine (((Below.refl _ _).alloc (Nat.le_refl _) _).alloc (by simp) _).alloc (by simp <;> omega) _ |>.mono (by omega)
end Go.Proofs.Ytgleephjglilhaa
