import Derived.Test.YteekpdmblododaaTokenMakeLaw
import Derived.Test.YteekpdmblododaaTkB
namespace Go.Proofs.Yteekpdmblododaa
open Go.RowKit
set_option linter.unusedVariables false

theorem fnExactTokenMake_walk (v0 : Value) (x0 : List Int) (v1 : Value) (x1 : List Int) (a2 : Int) (v3 : Value) (x3 : List Int) (l0 : x0.length ≤ maxLen) (wf0 : ∀ x ∈ x0, (Lit.int .u8 x).wf = true) (l1 : x1.length ≤ maxLen) (wf1 : ∀ x ∈ x1, (Lit.int .u8 x).wf = true) (wf2 : (Lit.int .i64 a2).wf = true) (l3 : x3.length ≤ maxLen) (wf3 : ∀ x ∈ x3, (Lit.int .u8 x).wf = true)
    (w : World) (row0 : Row w .u8 v0 x0) (row1 : Row w .u8 v1 x1) (row3 : Row w .u8 v3 x3) :
    Calls Try.prog 3 #[v0, v1, .int .i64 a2, v3] w fun e w' => e = .returned (.bool true) ∧ Below w.heap.size w w' := by
  have b0 := bytes_of_wf wf0
  have b1 := bytes_of_wf wf1
  have b3 := bytes_of_wf wf3
  have m0 : x0.length ≤ 9223372036854775807 := by have h := l0; unfold maxLen at h; omega
  have m1 : x1.length ≤ 9223372036854775807 := by have h := l1; unfold maxLen at h; omega
  have m3 : x3.length ≤ 9223372036854775807 := by have h := l3; unfold maxLen at h; omega
  by_cases hk : tArg x0.length x1.length a2 ∧ x3.length ≤ 8
  · obtain ⟨⟨h16, h24, ht⟩, h8⟩ := hk
    refine tokenMake_walkOf v0 x0 v1 x1 a2 v3 x3 (tokM x0 x1 a2 x3) 0 w (fun _ => True) (fun _ _ => trivial) l0 wf0 l1 wf1 wf2 l3 wf3 row0 row1 row3 (by rw [tokM_length]; omega) ?_ ?_
    · intro w u0 u1 u3 r0 r1 r3
      obtain ⟨ao0, cp0, rfl⟩ := r0.form
      obtain ⟨ao1, cp1, rfl⟩ := r1.form
      obtain ⟨ao3, cp3, rfl⟩ := r3.form
      rw [h16] at r0 ⊢
      exact tmkS_ok ao0 ao1 ao3 _ _ cp0 cp1 cp3 a2 x0 x1 x3 w h24 ht h8 r0 r1 r3 h16 rfl rfl b0 b1 b3
    · intro w u0 u1 u3 _ r0 r1 r3
      obtain ⟨ao0, cp0, rfl⟩ := r0.form
      obtain ⟨ao1, cp1, rfl⟩ := r1.form
      obtain ⟨ao3, cp3, rfl⟩ := r3.form
      rw [h16] at r0 ⊢
      exact tmkI_ok ao0 ao1 ao3 _ _ cp0 cp1 cp3 a2 x0 x1 x3 w h24 ht h8 r0 r1 r3 h16 rfl rfl b0 b1 b3
  · refine tokenMake_walkOf v0 x0 v1 x1 a2 v3 x3 [] 1 w (fun _ => True) (fun _ _ => trivial) l0 wf0 l1 wf1 wf2 l3 wf3 row0 row1 row3 (by simp) ?_ ?_
    · intro w u0 u1 u3 r0 r1 r3
      obtain ⟨ao0, cp0, rfl⟩ := r0.form
      obtain ⟨ao1, cp1, rfl⟩ := r1.form
      obtain ⟨ao3, cp3, rfl⟩ := r3.form
      exact tmkS_bad ao0 ao1 ao3 _ _ _ cp0 cp1 cp3 a2 w m0 m1 m3 hk
    · intro w u0 u1 u3 _ r0 r1 r3
      obtain ⟨ao0, cp0, rfl⟩ := r0.form
      obtain ⟨ao1, cp1, rfl⟩ := r1.form
      obtain ⟨ao3, cp3, rfl⟩ := r3.form
      exact tmkI_bad ao0 ao1 ao3 _ _ _ cp0 cp1 cp3 a2 x3 w m0 m1 m3 hk r3 rfl
end Go.Proofs.Yteekpdmblododaa
