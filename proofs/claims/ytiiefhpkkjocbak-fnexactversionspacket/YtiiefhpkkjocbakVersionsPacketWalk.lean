import Derived.Test.YtiiefhpkkjocbakVersionsPacketLaw
import Derived.Test.YtiiefhpkkjocbakIVers
namespace Go.Proofs.Ytiiefhpkkjocbak
open Go.RowKit
set_option linter.unusedVariables false

theorem fnExactVersionsPacket_walk (v0 : Value) (x0 : List Int) (v1 : Value) (x1 : List Int) (v2 : Value) (x2 : List Int) (l0 : x0.length ≤ maxLen) (wf0 : ∀ x ∈ x0, (Lit.int .u8 x).wf = true) (l1 : x1.length ≤ maxLen) (wf1 : ∀ x ∈ x1, (Lit.int .u8 x).wf = true) (l2 : x2.length ≤ maxLen) (wf2 : ∀ x ∈ x2, (Lit.int .i64 x).wf = true) (w : World) (row0 : Row w .u8 v0 x0) (row1 : Row w .u8 v1 x1) (row2 : Row w .i64 v2 x2) :
    Calls Try.prog 3 #[v0, v1, v2] w fun e w' => e = .returned (.bool true) ∧ Below w.heap.size w w' := by
  have m0 : x0.length ≤ 9223372036854775807 := by have h := l0; unfold maxLen at h; omega
  have m1 : x1.length ≤ 9223372036854775807 := by have h := l1; unfold maxLen at h; omega
  have m2 : x2.length ≤ 9223372036854775807 := by have h := l2; unfold maxLen at h; omega
  by_cases hb : 8 < x0.length ∨ 8 < x1.length ∨ x2.length < 1 ∨ 8 < x2.length
  · refine versionsPacket_walkOf v0 x0 v1 x1 v2 x2 [] 1 w (fun _ => True) (fun _ _ => trivial) l0 wf0 l1 wf1 l2 wf2 row0 row1 row2 (by simp) ?_ ?_
    · intro w u0 u1 u2 r0 r1 r2
      obtain ⟨ao, cp, rfl⟩ := r0.form
      obtain ⟨ao1, cp1, rfl⟩ := r1.form
      obtain ⟨ao2, cp2, rfl⟩ := r2.form
      exact vers_bad ao ao1 ao2 _ _ _ cp cp1 cp2 w hb m0 m1 m2
    · intro w u0 u1 u2 _ r0 r1 r2
      obtain ⟨ao, cp, rfl⟩ := r0.form
      obtain ⟨ao1, cp1, rfl⟩ := r1.form
      obtain ⟨ao2, cp2, rfl⟩ := r2.form
      exact ivers_bad ao ao1 ao2 _ _ _ cp cp1 cp2 x0 x1 w r0 r1 rfl rfl hb m0 m1 m2
  · have hy : ∃ y c, VersOut x0 x1 x2 y c ∧ y.length ≤ 4194304 := by
      by_cases hg : ∀ j, j < x2.length → vok (x2.getD j 0)
      · refine ⟨(128 :: idsV 0 x0 x1) ++ versV x2, 0, ⟨fun _ => ⟨rfl, rfl⟩, fun ⟨j, hj, hn⟩ => absurd (hg j hj) hn⟩, ?_⟩
        rw [List.length_append, List.length_cons, idsV_length, versV_length]; omega
      · exact ⟨[], 1, ⟨fun h => absurd h hg, fun _ => ⟨rfl, rfl⟩⟩, by simp⟩
    obtain ⟨y, c, hy, ly⟩ := hy
    refine versionsPacket_walkOf v0 x0 v1 x1 v2 x2 y c w (fun _ => True) (fun _ _ => trivial) l0 wf0 l1 wf1 l2 wf2 row0 row1 row2 ly ?_ ?_
    · intro w u0 u1 u2 r0 r1 r2
      obtain ⟨ao, cp, rfl⟩ := r0.form
      obtain ⟨ao1, cp1, rfl⟩ := r1.form
      obtain ⟨b, off, cp2, rfl, hlt, hc⟩ := r2.at (by omega)
      exact vers_ok ao ao1 b off _ _ _ cp cp1 cp2 x0 x1 x2 y c w r0 r1 rfl rfl rfl (by omega) (by omega) (by omega) (by omega) hlt hc hy
    · intro w u0 u1 u2 _ r0 r1 r2
      obtain ⟨ao, cp, rfl⟩ := r0.form
      obtain ⟨ao1, cp1, rfl⟩ := r1.form
      obtain ⟨b, off, cp2, rfl, hlt, hc⟩ := r2.at (by omega)
      exact ivers_ok ao ao1 b off _ _ _ cp cp1 cp2 x0 x1 x2 y c w r0 r1 rfl rfl rfl (by omega) (by omega) (by omega) (by omega) hlt hc hy
end Go.Proofs.Ytiiefhpkkjocbak
