import Derived.Test.YtifcmibjcjmmkaaRttC
import Derived.Deep.RegionWith
import Derived.Deep.CutRange
namespace Go.Proofs.Ytifcmibjcjmmkaa
open Go.RowKit
set_option linter.unusedVariables false
set_option linter.unusedSimpArgs false

def badStep (a b c d s y m : Int) : Prop := ¬ okR a b c d ∨ s < 1 ∨ ¬ tOK s ∨ ¬ tOK y ∨ ¬ tOK m
/-- The sample less what was waited. -/
def adjV (b s y m : Int) : Int := if s - min y m < min b s then s else s - min y m
theorem far_t (x y : Int) (w : World) (hx : 0 ≤ x ∧ x ≤ 1000000000000) (hy : 0 ≤ y ∧ y ≤ 1000000000000) : Calls Try.prog 30 #[.int .i64 x, .int .i64 y] w fun e w' => e = .returned (.int .i64 (max (x - y) (y - x))) ∧ w' = w := by
  by_cases h : y < x
  · rw [show max (x - y) (y - x) = x - y by omega]
    go_enter Try.func30, Try.ntmps30
    go_wp2
    go_ret
    exact ⟨rfl, rfl⟩
  · rw [show max (x - y) (y - x) = y - x by omega]
    go_enter Try.func30, Try.ntmps30
    go_wp2
    go_ret
    exact ⟨rfl, rfl⟩

set_option maxHeartbeats 2000000 in
theorem stepS_bad (a b c d s y m : Int) (h : badStep a b c d s y m) (w : World) : Calls Try.prog 9 #[rv a b c d, .int .i64 s, .int .i64 y, .int .i64 m] w fun e w' => e = .returned (rv 0 0 0 0) ∧ Below w.heap.size w w' := by
  have BB : ∀ o1 o2 o3 : Obj, Below w.heap.size w (((w.alloc o1).alloc o2).alloc o3) := fun o1 o2 o3 => (below2 w o1 o2).alloc (by simp <;> omega) o3
  by_cases h0 : ¬ okR a b c d
  · clear h
    go_enter Try.func9, Try.ntmps9
    go_wp2_with (go_at_call 29; refine (rokS_f _ _ _ _ _ h0).mono ?_; rintro e w' ⟨rfl, rfl⟩)
    exact bodyPost_ret (v := rv 0 0 0 0) (by simp [results, Try.results9, go_sem]) rfl ⟨rfl, BB _ _ _⟩
  have h0 := Classical.not_not.1 h0
  by_cases h1 : s < 1
  · clear h
    go_enter Try.func9, Try.ntmps9
    go_wp2_with (go_at_call 29; refine (rokS_t _ _ _ _ _ h0).mono ?_; rintro e w' ⟨rfl, rfl⟩)
    exact bodyPost_ret (v := rv 0 0 0 0) (by simp [results, Try.results9, go_sem]) rfl ⟨rfl, BB _ _ _⟩
  by_cases h2 : 1000000000000 < s
  · clear h
    go_enter Try.func9, Try.ntmps9
    go_wp2_with (go_at_call 29; refine (rokS_t _ _ _ _ _ h0).mono ?_; rintro e w' ⟨rfl, rfl⟩)
    exact bodyPost_ret (v := rv 0 0 0 0) (by simp [results, Try.results9, go_sem]) rfl ⟨rfl, BB _ _ _⟩
  by_cases h3 : ¬ tOK y
  · clear h
    go_enter Try.func9, Try.ntmps9
    go_wp2_with (first | (go_at_call 29; refine (rokS_t _ _ _ _ _ h0).mono ?_; rintro e w' ⟨rfl, rfl⟩) | (go_at_call 20; refine (timeS_f _ _ (by assumption)).mono ?_; rintro e w' ⟨rfl, rfl⟩))
    exact bodyPost_ret (v := rv 0 0 0 0) (by simp [results, Try.results9, go_sem]) rfl ⟨rfl, BB _ _ _⟩
  have h3 := Classical.not_not.1 h3
  have h4 : ¬ tOK m := by
    rcases h with q | q | q | q | q
    · exact absurd h0 q
    · exact absurd q h1
    · exact absurd (show tOK s from ⟨by omega, by omega⟩) q
    · exact absurd h3 q
    · exact q
  clear h
  go_enter Try.func9, Try.ntmps9
  go_wp2_with (first | (go_at_call 29; refine (rokS_t _ _ _ _ _ h0).mono ?_; rintro e w' ⟨rfl, rfl⟩) | (go_at_call 20; first | (refine (timeS_f _ _ (by assumption)).mono ?_; rintro e w' ⟨rfl, rfl⟩) | (refine (timeS_t _ _ (by assumption)).mono ?_; rintro e w' ⟨rfl, rfl⟩)))
  exact bodyPost_ret (v := rv 0 0 0 0) (by simp [results, Try.results9, go_sem]) rfl ⟨rfl, BB _ _ _⟩
set_option maxHeartbeats 2000000 in
theorem stepI_bad (a b c d s y m : Int) (h : badStep a b c d s y m) (w : World) : Calls Try.prog 10 #[rv a b c d, .int .i64 s, .int .i64 y, .int .i64 m] w fun e w' => e = .returned (rv 0 0 0 0) ∧ Below w.heap.size w w' := by
  have BB : ∀ o1 o2 o3 : Obj, Below w.heap.size w (((w.alloc o1).alloc o2).alloc o3) := fun o1 o2 o3 => (below2 w o1 o2).alloc (by simp <;> omega) o3
  by_cases h0 : ¬ okR a b c d
  · clear h
    go_enter Try.func10, Try.ntmps10
    go_wp2_with (go_at_call 31; refine (rokI_f _ _ _ _ _ h0).mono ?_; rintro e w' ⟨rfl, rfl⟩)
    exact bodyPost_ret (v := rv 0 0 0 0) (by simp [results, Try.results10, go_sem]) rfl ⟨rfl, BB _ _ _⟩
  have h0 := Classical.not_not.1 h0
  by_cases h1 : s < 1
  · clear h
    go_enter Try.func10, Try.ntmps10
    go_wp2_with (go_at_call 31; refine (rokI_t _ _ _ _ _ h0).mono ?_; rintro e w' ⟨rfl, rfl⟩)
    exact bodyPost_ret (v := rv 0 0 0 0) (by simp [results, Try.results10, go_sem]) rfl ⟨rfl, BB _ _ _⟩
  by_cases h2 : ¬ tOK s
  · clear h
    go_enter Try.func10, Try.ntmps10
    go_wp2_with (first | (go_at_call 31; refine (rokI_t _ _ _ _ _ h0).mono ?_; rintro e w' ⟨rfl, rfl⟩) | (go_at_call 25; refine (timeI_f _ _ (by assumption)).mono ?_; rintro e w' ⟨rfl, rfl⟩))
    exact bodyPost_ret (v := rv 0 0 0 0) (by simp [results, Try.results10, go_sem]) rfl ⟨rfl, BB _ _ _⟩
  have h2 := Classical.not_not.1 h2
  by_cases h3 : ¬ tOK y
  · clear h
    go_enter Try.func10, Try.ntmps10
    go_wp2_with (first | (go_at_call 31; refine (rokI_t _ _ _ _ _ h0).mono ?_; rintro e w' ⟨rfl, rfl⟩) | (go_at_call 25; first | (refine (timeI_f _ _ (by assumption)).mono ?_; rintro e w' ⟨rfl, rfl⟩) | (refine (timeI_t _ _ (by assumption)).mono ?_; rintro e w' ⟨rfl, rfl⟩)))
    exact bodyPost_ret (v := rv 0 0 0 0) (by simp [results, Try.results10, go_sem]) rfl ⟨rfl, BB _ _ _⟩
  have h3 := Classical.not_not.1 h3
  have h4 : ¬ tOK m := by
    rcases h with q | q | q | q | q
    · exact absurd h0 q
    · exact absurd q h1
    · exact absurd h2 q
    · exact absurd h3 q
    · exact q
  clear h
  go_enter Try.func10, Try.ntmps10
  go_wp2_with (first | (go_at_call 31; refine (rokI_t _ _ _ _ _ h0).mono ?_; rintro e w' ⟨rfl, rfl⟩) | (go_at_call 25; first | (refine (timeI_f _ _ (by assumption)).mono ?_; rintro e w' ⟨rfl, rfl⟩) | (refine (timeI_t _ _ (by assumption)).mono ?_; rintro e w' ⟨rfl, rfl⟩) | (refine (timeI_t _ _ (by assumption)).mono ?_; rintro e w' ⟨rfl, rfl⟩)))
  exact bodyPost_ret (v := rv 0 0 0 0) (by simp [results, Try.results10, go_sem]) rfl ⟨rfl, BB _ _ _⟩
end Go.Proofs.Ytifcmibjcjmmkaa
