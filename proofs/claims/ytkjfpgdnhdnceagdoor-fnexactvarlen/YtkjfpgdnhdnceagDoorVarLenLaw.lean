import Derived.Test.YtkjfpgdnhdnceagDoorShort
namespace Go.Proofs.YtkjfpgdnhdnceagDoor
open Go.RowKit
set_option linter.unusedVariables false

theorem fnExactVarLen_walk (v : Int) (_ : (Lit.int .i64 v).wf = true) (w : World) (ht : Tab w) :
    Calls Tryd.prog 3 #[.int .i64 v] w fun e w' => e = .returned (.bool true) ∧ Below w.heap.size w w' := by
  have c1 := specVarLen v w
  have c2 := implVarLen v w ht
  have hrefl : ((vsize v) != (vsize v)) = false := by simp
  generalize vsize v = s at c1 c2 hrefl
  clear ht
  go_enter Tryd.func3, Tryd.ntmps3
  go_wp2_with (first | (go_at_call 5; refine c1.mono ?_; rintro e w' ⟨rfl, rfl⟩) | (go_at_call 6; refine c2.mono ?_; rintro e w' ⟨rfl, rfl⟩))
  go_ret
  exact ⟨rfl, Below.refl _ _⟩
end Go.Proofs.YtkjfpgdnhdnceagDoor
