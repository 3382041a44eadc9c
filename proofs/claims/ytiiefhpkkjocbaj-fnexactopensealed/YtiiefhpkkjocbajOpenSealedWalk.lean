import Derived.Test.YtiiefhpkkjocbajOpenSealedLaw
import Derived.Test.YtiiefhpkkjocbajIOpenAll
namespace Go.Proofs.Ytiiefhpkkjocbaj
open Go.RowKit
set_option linter.unusedVariables false

theorem fnExactOpenSealed_walk (v0 : Value) (k0 : K4) (a1 : Int) (v2 : Value) (x2 : List Int) (v3 : Value) (x3 : List Int) (sm0 : k0.small maxLen) (kb0 : k0.bytes) (wf1 : (Lit.int .i64 a1).wf = true) (l2 : x2.length ≤ maxLen) (wf2 : ∀ x ∈ x2, (Lit.int .u8 x).wf = true) (l3 : x3.length ≤ maxLen) (wf3 : ∀ x ∈ x3, (Lit.int .u8 x).wf = true)
    (w : World) (row0 : KRow w v0 k0) (row2 : Row w .u8 v2 x2) (row3 : Row w .u8 v3 x3) :
    Calls Try.prog 4 #[v0, .int .i64 a1, v2, v3] w fun e w' => e = .returned (.bool true) ∧ Below w.heap.size w w' := by
  have b2 := bytes_of_wf wf2
  have b3 := bytes_of_wf wf3
  have m2 : x2.length ≤ 9223372036854775807 := by have h := l2; unfold maxLen at h; omega
  have m3 : x3.length ≤ 9223372036854775807 := by have h := l3; unfold maxLen at h; omega
  by_cases g2 : 1048576 < x2.length
  · obtain ⟨ao2, cp2, rfl⟩ := row2.form
    obtain ⟨ao3, cp3, rfl⟩ := row3.form
    exact openSealed_huge2 v0 k0 a1 ao2 _ cp2 ao3 _ cp3 w row0 g2 m2
  by_cases g3 : 1048576 < x3.length
  · obtain ⟨ao2, cp2, rfl⟩ := row2.form
    obtain ⟨ao3, cp3, rfl⟩ := row3.form
    exact openSealed_huge3 v0 k0 a1 ao2 _ cp2 ao3 _ cp3 w row0 (by omega) g3 m3
  by_cases hk : kok k0
  · by_cases hn : a1 < 0 ∨ 4611686018427387903 < a1
    · exact openSealed_walkOf v0 k0 a1 v2 x2 v3 x3 [] 1 w (fun _ => True) (fun _ _ => trivial) sm0 kb0 wf1 l2 wf2 l3 wf3 row0 row2 row3 (by simp)
        (fun w u0 u2 u3 r0 r2 r3 => open_badnum u0 u2 u3 k0 a1 w r0 hk hn) (fun w u0 u2 u3 _ r0 r2 r3 => iopen_badnum u0 u2 u3 k0 a1 w r0 hk hn)
    · by_cases hl : 1508 < x2.length + x3.length
      · refine openSealed_walkOf v0 k0 a1 v2 x2 v3 x3 [] 4 w (fun _ => True) (fun _ _ => trivial) sm0 kb0 wf1 l2 wf2 l3 wf3 row0 row2 row3 (by simp) ?_ ?_
        · intro w u0 u2 u3 r0 r2 r3
          obtain ⟨ao2, cp2, rfl⟩ := r2.form
          obtain ⟨ao3, cp3, rfl⟩ := r3.form
          exact open_long u0 ao2 ao3 _ _ cp2 cp3 k0 a1 w r0 hk (by omega) (by omega) hl (by omega) (by omega)
        · intro w u0 u2 u3 _ r0 r2 r3
          obtain ⟨ao2, cp2, rfl⟩ := r2.form
          obtain ⟨ao3, cp3, rfl⟩ := r3.form
          exact iopen_long u0 ao2 ao3 _ _ cp2 cp3 k0 a1 w r0 hk (by omega) (by omega) hl (by omega) (by omega)
      · by_cases h8 : x3.length < 8
        · refine openSealed_walkOf v0 k0 a1 v2 x2 v3 x3 [] 2 w (fun _ => True) (fun _ _ => trivial) sm0 kb0 wf1 l2 wf2 l3 wf3 row0 row2 row3 (by simp) ?_ ?_
          · intro w u0 u2 u3 r0 r2 r3
            obtain ⟨ao2, cp2, rfl⟩ := r2.form
            obtain ⟨ao3, cp3, rfl⟩ := r3.form
            exact open_short u0 ao2 ao3 _ _ cp2 cp3 k0 a1 w r0 hk (by omega) (by omega) (by omega) h8 (by omega) (by omega)
          · intro w u0 u2 u3 _ r0 r2 r3
            obtain ⟨ao2, cp2, rfl⟩ := r2.form
            obtain ⟨ao3, cp3, rfl⟩ := r3.form
            exact iopen_short u0 ao2 ao3 _ _ cp2 cp3 k0 a1 w r0 hk (by omega) (by omega) (by omega) h8 (by omega) (by omega)
        · obtain ⟨n, hN⟩ : ∃ n, x3.length = n + 8 := ⟨x3.length - 8, by omega⟩
          by_cases hc : tagV k0.b (nonV k0 a1) x2 (x3.take n) = x3.drop n
          · refine openSealed_walkOf v0 k0 a1 v2 x2 v3 x3 (overV k0 a1 (x3.take n)) 0 w (fun _ => True) (fun _ _ => trivial) sm0 kb0 wf1 l2 wf2 l3 wf3 row0 row2 row3 (by rw [overV_length, List.length_take]; omega) ?_ ?_
            · intro w u0 u2 u3 r0 r2 r3
              obtain ⟨ao2, cp2, rfl⟩ := r2.form
              obtain ⟨b, off, cp3, rfl, _⟩ := r3.at (by omega)
              rw [hN] at r3 ⊢
              exact open_right u0 ao2 cp2 b off n cp3 k0 a1 x2 x3 w r0 kb0 hk (by omega) (by omega) hN (by omega) r2 r3 b2 b3 hc
            · intro w u0 u2 u3 _ r0 r2 r3
              obtain ⟨ao2, cp2, rfl⟩ := r2.form
              obtain ⟨b, off, cp3, rfl, _⟩ := r3.at (by omega)
              rw [hN] at r3 ⊢
              exact iopen_right u0 ao2 cp2 b off n cp3 k0 a1 x2 x3 w r0 kb0 hk (by omega) (by omega) hN (by omega) r2 r3 b2 b3 hc
          · refine openSealed_walkOf v0 k0 a1 v2 x2 v3 x3 [] 5 w (fun _ => True) (fun _ _ => trivial) sm0 kb0 wf1 l2 wf2 l3 wf3 row0 row2 row3 (by simp) ?_ ?_
            · intro w u0 u2 u3 r0 r2 r3
              obtain ⟨ao2, cp2, rfl⟩ := r2.form
              obtain ⟨b, off, cp3, rfl, _⟩ := r3.at (by omega)
              rw [hN] at r3 ⊢
              exact open_wrong u0 ao2 cp2 b off n cp3 k0 a1 x2 x3 w r0 kb0 hk (by omega) (by omega) hN (by omega) r2 r3 b2 b3 hc
            · intro w u0 u2 u3 _ r0 r2 r3
              obtain ⟨ao2, cp2, rfl⟩ := r2.form
              obtain ⟨b, off, cp3, rfl, _⟩ := r3.at (by omega)
              rw [hN] at r3 ⊢
              exact iopen_wrong u0 ao2 cp2 b off n cp3 k0 a1 x2 x3 w r0 kb0 hk (by omega) (by omega) hN (by omega) r2 r3 b2 b3 hc
  · exact openSealed_walkOf v0 k0 a1 v2 x2 v3 x3 [] 1 w (fun _ => True) (fun _ _ => trivial) sm0 kb0 wf1 l2 wf2 l3 wf3 row0 row2 row3 (by simp)
      (fun w u0 u2 u3 r0 r2 r3 => open_badkey u0 u2 u3 k0 a1 w r0 hk) (fun w u0 u2 u3 _ r0 r2 r3 => iopen_badkey u0 u2 u3 k0 a1 w r0 hk)
end Go.Proofs.Ytiiefhpkkjocbaj
