import Derived.Test.YtjachnpcplmdgaiDigestLaw
import Derived.Test.YtjachnpcplmdgaiIDigest
namespace Go.Proofs.Ytjachnpcplmdgai
open Go.RowKit
set_option linter.unusedVariables false

theorem fnExactDigest_walk (v0 : Value) (x0 : List Int) (v1 : Value) (x1 : List Int) (l0 : x0.length ≤ maxLen) (wf0 : ∀ x ∈ x0, (Lit.int .u8 x).wf = true) (l1 : x1.length ≤ maxLen) (wf1 : ∀ x ∈ x1, (Lit.int .u8 x).wf = true)
    (w : World) (row0 : Row w .u8 v0 x0) (row1 : Row w .u8 v1 x1) :
    Calls Try.prog 5 #[v0, v1] w fun e w' => e = .returned (.bool true) ∧ Below w.heap.size w w' := by
  have b0 := bytes_of_wf wf0
  have b1 := bytes_of_wf wf1
  have m0 : x0.length ≤ 9223372036854775807 := by have h := l0; unfold maxLen at h; omega
  have m1 : x1.length ≤ 9223372036854775807 := by have h := l1; unfold maxLen at h; omega
  refine digest_walkOf (e1 := 52) v0 x0 v1 x1 (digestV x0 x1) w (fun _ => True) (fun _ _ => trivial) l0 wf0 l1 wf1 row0 row1 (by have := digestV_length x0 x1; omega) ?_ ?_
  · intro w u0 u1 r0 r1
    obtain ⟨ao0, cp0, rfl⟩ := r0.form
    obtain ⟨ao1, cp1, rfl⟩ := r1.form
    by_cases h : x0.length ≤ 65536 ∧ x1.length ≤ 65536
    · have e : digestV x0 x1 = digV x0 x1 := if_pos h
      rw [e, digV_length]
      exact specDigest_ok _ _ _ _ _ _ x0 x1 w r0 r1 b0 b1 rfl rfl h.1 h.2
    · have e : digestV x0 x1 = [] := if_neg h
      rw [e]
      exact specDigest_long _ _ _ _ _ _ w h m0 m1
  · intro w u0 u1 _ r0 r1
    obtain ⟨ao0, cp0, rfl⟩ := r0.form
    obtain ⟨ao1, cp1, rfl⟩ := r1.form
    by_cases h : x0.length ≤ 65536 ∧ x1.length ≤ 65536
    · have e : digestV x0 x1 = digV x0 x1 := if_pos h
      rw [e, digV_length]
      exact implDigest_ok _ _ _ _ _ _ x0 x1 w r0 r1 b0 b1 rfl rfl h.1 h.2
    · have e : digestV x0 x1 = [] := if_neg h
      rw [e]
      exact implDigest_long _ _ _ _ _ _ w h m0 m1
end Go.Proofs.Ytjachnpcplmdgai
