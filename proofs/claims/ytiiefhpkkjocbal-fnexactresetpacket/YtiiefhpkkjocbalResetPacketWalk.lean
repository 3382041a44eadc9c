import Derived.Test.YtiiefhpkkjocbalResetPacketLaw
import Derived.Test.YtiiefhpkkjocbalIRp
namespace Go.Proofs.Ytiiefhpkkjocbal
open Go.RowKit
set_option linter.unusedVariables false

theorem fnExactResetPacket_walk (v0 : Value) (x0 : List Int) (v1 : Value) (x1 : List Int) (l0 : x0.length ≤ maxLen) (wf0 : ∀ x ∈ x0, (Lit.int .u8 x).wf = true) (l1 : x1.length ≤ maxLen) (wf1 : ∀ x ∈ x1, (Lit.int .u8 x).wf = true) (w : World) (row0 : Row w .u8 v0 x0) (row1 : Row w .u8 v1 x1) :
    Calls Try.prog 4 #[v0, v1] w fun e w' => e = .returned (.bool true) ∧ Below w.heap.size w w' := by
  have b1 := bytes_of_wf wf1
  have m0 : x0.length ≤ 9223372036854775807 := by have h := l0; unfold maxLen at h; omega
  have m1 : x1.length ≤ 9223372036854775807 := by have h := l1; unfold maxLen at h; omega
  by_cases hb : x0.length ≠ 8 ∨ x1.length < 13 ∨ 100 < x1.length
  · refine resetPacket_walkOf v0 x0 v1 x1 [] 1 w (fun _ => True) (fun _ _ => trivial) l0 wf0 l1 wf1 row0 row1 (by simp) ?_ ?_
    · intro w u0 u1 r0 r1
      obtain ⟨ao, cp, rfl⟩ := r0.form
      obtain ⟨ao1, cp1, rfl⟩ := r1.form
      exact rp_bad ao ao1 _ _ cp cp1 w hb m0 m1
    · intro w u0 u1 _ r0 r1
      obtain ⟨ao, cp, rfl⟩ := r0.form
      obtain ⟨ao1, cp1, rfl⟩ := r1.form
      exact irp_bad ao ao1 _ _ cp cp1 w hb m0 m1
  · have h8 : x0.length = 8 := by omega
    refine resetPacket_walkOf v0 x0 v1 x1 (rpV x0 x1) 0 w (fun _ => True) (fun _ _ => trivial) l0 wf0 l1 wf1 row0 row1 (by rw [rpV_length]; omega) ?_ ?_
    · intro w u0 u1 r0 r1
      obtain ⟨ao, cp, rfl⟩ := r0.form
      obtain ⟨ao1, cp1, rfl⟩ := r1.form
      rw [h8] at r0 ⊢
      exact rp_ok ao ao1 _ cp cp1 x0 x1 w r0 r1 h8 rfl (by omega) (by omega) b1
    · intro w u0 u1 _ r0 r1
      obtain ⟨ao, cp, rfl⟩ := r0.form
      obtain ⟨ao1, cp1, rfl⟩ := r1.form
      rw [h8] at r0 ⊢
      exact irp_ok ao ao1 _ cp cp1 x0 x1 w r0 r1 h8 rfl (by omega) (by omega) b1
end Go.Proofs.Ytiiefhpkkjocbal
