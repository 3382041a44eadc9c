import Derived.Test.YtjachnpcplmdgajHeadMaskLaw
import Derived.Test.YtjachnpcplmdgajIHead
namespace Go.Proofs.Ytjachnpcplmdgaj
open Go.RowKit
set_option linter.unusedVariables false

theorem fnExactHeadMask_walk (v0 : Value) (k0 : K4) (v1 : Value) (x1 : List Int) (sm0 : k0.small maxLen) (kb0 : k0.bytes) (l1 : x1.length ≤ maxLen) (wf1 : ∀ x ∈ x1, (Lit.int .u8 x).wf = true) (w : World) (row0 : KRow w v0 k0) (row1 : Row w .u8 v1 x1) :
    Calls Try.prog 5 #[v0, v1] w fun e w' => e = .returned (.bool true) ∧ Below w.heap.size w w' := by
  have b1 := bytes_of_wf wf1
  have m1 : x1.length ≤ 9223372036854775807 := by have h := l1; unfold maxLen at h; omega
  by_cases h : kok k0
  · by_cases h8 : x1.length = 8
    · refine headMask_walkOf v0 k0 v1 x1 (headV k0 x1) w (fun _ => True) (fun _ _ => trivial) sm0 kb0 l1 wf1 row0 row1 (by rw [headV_length]; decide) ?_ ?_
      · intro w u0 u1 r0 r1
        obtain ⟨ao, cp, rfl⟩ := r1.form
        rw [h8] at r1 ⊢
        exact head_ok u0 ao cp k0 x1 w r0 kb0 h r1 h8 b1
      · intro w u0 u1 _ r0 r1
        obtain ⟨ao, cp, rfl⟩ := r1.form
        rw [h8] at r1 ⊢
        exact ihead_ok u0 ao cp k0 x1 w r0 kb0 h r1 h8 b1
    · refine headMask_walkOf v0 k0 v1 x1 [] w (fun _ => True) (fun _ _ => trivial) sm0 kb0 l1 wf1 row0 row1 (by simp) ?_ ?_
      · intro w u0 u1 r0 r1
        obtain ⟨ao, cp, rfl⟩ := r1.form
        exact head_badlen u0 ao _ cp k0 w r0 h h8 m1
      · intro w u0 u1 _ r0 r1
        obtain ⟨ao, cp, rfl⟩ := r1.form
        exact ihead_badlen u0 ao _ cp k0 w r0 h h8 m1
  · refine headMask_walkOf v0 k0 v1 x1 [] w (fun _ => True) (fun _ _ => trivial) sm0 kb0 l1 wf1 row0 row1 (by simp) ?_ ?_
    · intro w u0 u1 r0 r1
      exact head_badkey u0 u1 k0 w r0 h
    · intro w u0 u1 _ r0 r1
      exact ihead_badkey u0 u1 k0 w r0 h
end Go.Proofs.Ytjachnpcplmdgaj
