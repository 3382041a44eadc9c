import Derived.Test.YtifcmibjcjmmkaaRttD
namespace Go.Proofs.Ytifcmibjcjmmkaa
open Go.RowKit
set_option linter.unusedVariables false
set_option linter.unusedSimpArgs false

set_option maxHeartbeats 2000000 in
theorem stepS_first (a b c d s y m : Int) (h0 : okR a b c d) (hz : zR a b c d) (hs : 1 ≤ s ∧ s ≤ 1000000000000) (h3 : tOK y) (h4 : tOK m) (w : World) : Calls Try.prog 9 #[rv a b c d, .int .i64 s, .int .i64 y, .int .i64 m] w fun e w' => e = .returned (rv s s s (s / 2)) ∧ Below w.heap.size w w' := by
  have BB : ∀ o1 o2 o3 : Obj, Below w.heap.size w (((w.alloc o1).alloc o2).alloc o3) := fun o1 o2 o3 => (below2 w o1 o2).alloc (by simp <;> omega) o3
  obtain ⟨rfl, rfl, rfl, rfl⟩ := hz
  go_enter Try.func9, Try.ntmps9
  go_wp2_with (first | (go_at_call 29; refine (rokS_t _ _ _ _ _ h0).mono ?_; rintro e w' ⟨rfl, rfl⟩) | (go_at_call 20; refine (timeS_t _ _ (by assumption)).mono ?_; rintro e w' ⟨rfl, rfl⟩))
  exact bodyPost_ret (v := rv s s s (s / 2)) (by simp [results, Try.results9, go_sem]) rfl ⟨rfl, BB _ _ _⟩
set_option maxHeartbeats 2000000 in
theorem stepI_first (a b c d s y m : Int) (h0 : okR a b c d) (hz : zR a b c d) (hs : 1 ≤ s ∧ s ≤ 1000000000000) (h3 : tOK y) (h4 : tOK m) (w : World) : Calls Try.prog 10 #[rv a b c d, .int .i64 s, .int .i64 y, .int .i64 m] w fun e w' => e = .returned (rv s s s (s / 2)) ∧ Below w.heap.size w w' := by
  have BB : ∀ o1 o2 o3 o4 : Obj, Below w.heap.size w ((((w.alloc o1).alloc o2).alloc o3).alloc o4) := fun o1 o2 o3 o4 => ((below2 w o1 o2).alloc (by simp <;> omega) o3).alloc (by simp <;> omega) o4
  have h2 : tOK s := ⟨by omega, by omega⟩
  have eg := egR
  have ez := eqZt a b c d hz
  go_enter Try.func10, Try.ntmps10
  go_wp2_with (first | (go_at_call 31; refine (rokI_t _ _ _ _ _ h0).mono ?_; rintro e w' ⟨rfl, rfl⟩) | (go_at_call 25; refine (timeI_t _ _ (by assumption)).mono ?_; rintro e w' ⟨rfl, rfl⟩) | (go_at_call 32; refine (firstC _ _ (by omega) (by omega)).mono ?_; rintro e w' ⟨rfl, rfl⟩))
  exact bodyPost_ret (v := rv s s s (s / 2)) (by simp [results, Try.results10, go_sem]) rfl ⟨rfl, BB _ _ _ _⟩
/-- The answer where something was measured. -/
def stS (c b s y m : Int) : Int := (7 * c + adjV b s y m) / 8
def stV (c d b s y m : Int) : Int := (3 * d + max (c - adjV b s y m) (adjV b s y m - c)) / 4
set_option maxHeartbeats 2000000 in
theorem stepI_next (a b c d s y m : Int) (h0 : okR a b c d) (hz : ¬ zR a b c d) (hs : 1 ≤ s ∧ s ≤ 1000000000000) (h3 : tOK y) (h4 : tOK m) (w : World) : Calls Try.prog 10 #[rv a b c d, .int .i64 s, .int .i64 y, .int .i64 m] w fun e w' => e = .returned (rv s (min b s) (stS c b s y m) (stV c d b s y m)) ∧ Below w.heap.size w w' := by
  have BB : ∀ o1 o2 o3 : Obj, Below w.heap.size w (((w.alloc o1).alloc o2).alloc o3) := fun o1 o2 o3 => (below2 w o1 o2).alloc (by simp <;> omega) o3
  have h2 : tOK s := ⟨by omega, by omega⟩
  have eg := egR
  have ez := eqZf a b c d hz
  have hc : 1 ≤ a ∧ 1 ≤ b ∧ 1 ≤ c := h0.2.2.2.2.resolve_left hz
  have hb2 : b ≤ 1000000000000 := h0.2.1.2
  have hc2 : c ≤ 1000000000000 := h0.2.2.1.2
  have hd2 : 0 ≤ d ∧ d ≤ 1000000000000 := h0.2.2.2.1
  have hy : 0 ≤ y ∧ y ≤ 1000000000000 := h3
  have hm : 0 ≤ m ∧ m ≤ 1000000000000 := h4
  have hmin : 0 ≤ min y m ∧ min y m ≤ 1000000000000 := by omega
  by_cases hlt : s - min y m < min b s
  · have ha : adjV b s y m = s := by unfold adjV; rw [if_pos hlt]
    unfold stS stV
    rw [ha]
    have hmx : 0 ≤ max (c - s) (s - c) ∧ max (c - s) (s - c) ≤ 1000000000000 := by omega
    go_enter Try.func10, Try.ntmps10
    go_wp2_with (first | (go_at_call 31; refine (rokI_t _ _ _ _ _ h0).mono ?_; rintro e w' ⟨rfl, rfl⟩) | (go_at_call 25; refine (timeI_t _ _ (by assumption)).mono ?_; rintro e w' ⟨rfl, rfl⟩))
    exact bodyPost_ret (v := rv s (min b s) ((7 * c + s) / 8) ((3 * d + max (c - s) (s - c)) / 4)) (by simp [results, Try.results10, go_sem]) rfl ⟨rfl, BB _ _ _⟩
  · have ha : adjV b s y m = s - min y m := by unfold adjV; rw [if_neg hlt]
    unfold stS stV
    rw [ha]
    have hmx : 0 ≤ max (c - (s - min y m)) (s - min y m - c) ∧ max (c - (s - min y m)) (s - min y m - c) ≤ 1000000000000 := by omega
    go_enter Try.func10, Try.ntmps10
    go_wp2_with (first | (go_at_call 31; refine (rokI_t _ _ _ _ _ h0).mono ?_; rintro e w' ⟨rfl, rfl⟩) | (go_at_call 25; refine (timeI_t _ _ (by assumption)).mono ?_; rintro e w' ⟨rfl, rfl⟩))
    exact bodyPost_ret (v := rv s (min b s) ((7 * c + (s - min y m)) / 8) ((3 * d + max (c - (s - min y m)) (s - min y m - c)) / 4)) (by simp [results, Try.results10, go_sem]) rfl ⟨rfl, BB _ _ _⟩
end Go.Proofs.Ytifcmibjcjmmkaa
