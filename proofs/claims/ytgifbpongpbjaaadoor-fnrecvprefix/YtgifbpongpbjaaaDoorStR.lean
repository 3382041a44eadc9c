import Derived.Test.YtgifbpongpbjaaaDoorStQ
namespace Go.Proofs.YtgifbpongpbjaaaDoor
open Go.RowKit
set_option linter.unusedVariables false

set_option maxRecDepth 20000 in
/-- Where a place's cell lies. -/
theorem atI (g o c win p : Nat) (w : World) (hc : w.cell? ⟨g, o, none⟩ = some (.slice (some ⟨c, 0, none⟩) win win)) (hw : 0 < win) (hwm : win ≤ 16384) (hp : p ≤ 1099511627776) :
    Calls Tryd.prog 22 #[.pointer (some ⟨g, o, none⟩), .int .i64 (p : Int)] w fun e w' => e = .returned (.pointer (some ⟨c, p % win * 2, none⟩)) ∧ ∃ m, w' = w.drewN m := by
  obtain ⟨r, er⟩ : ∃ r, r = p % win := ⟨_, rfl⟩
  have hr : (p : Int).tmod (win : Int) = (r : Int) := by rw [er, Int.tmod_eq_emod_of_nonneg (by omega)]; omega
  have hlt : r < win := by rw [er]; exact Nat.mod_lt _ hw
  have h1 : 0 ≤ (r : Int) ∧ (r : Int) < (win : Int) := by omega
  have hz : ((win : Int) == 0) = false := by simp; omega
  have hz2 : ¬ (win : Int) = 0 := by omega
  rw [← er]
  clear er hw
  go_enter Tryd.func22, Tryd.ntmps22
  go_wp2_with fail
  go_quiet (fail)
  go_wp2
  go_ret
  exact ⟨rfl, nq, rfl⟩
end Go.Proofs.YtgifbpongpbjaaaDoor
