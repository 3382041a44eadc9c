import Derived.Test.YtocinjcbkolnhaaTgB
import Derived.Laws.MakeOwn
namespace Go.Proofs.Ytocinjcbkolnhaa
open Go.RowKit
set_option linter.unusedVariables false

/-- Where a place's cell lies. -/
theorem atF (g o c p : Nat) (w : World) (hc : w.cell? ⟨g, o, none⟩ = some (.slice (some ⟨c, 0, none⟩) 124 124)) (hp : p ≤ 4611686018427387903) :
    Calls Try.prog 33 #[.pointer (some ⟨g, o, none⟩), .int .i64 (p : Int)] w fun e w' => e = .returned (.pointer (some ⟨c, p % 124 * 2, none⟩)) ∧ ∃ m, w' = w.drewN m := by
  obtain ⟨r, er⟩ : ∃ r, r = p % 124 := ⟨_, rfl⟩
  have hr : (p : Int).tmod 124 = (r : Int) := by rw [er, Int.tmod_eq_emod_of_nonneg (by omega)]; omega
  have hr2 : (p : Int) % 124 = (r : Int) := by rw [er]; omega
  have hlt : r < 124 := by omega
  have h1 : 0 ≤ (r : Int) ∧ (r : Int) < 124 := by omega
  rw [← er]
  clear er
  go_enter Try.func33, Try.ntmps33
  go_wp2_with fail
  go_quiet (fail)
  go_wp2
  go_ret
  exact ⟨rfl, nq, rfl⟩
end Go.Proofs.Ytocinjcbkolnhaa
