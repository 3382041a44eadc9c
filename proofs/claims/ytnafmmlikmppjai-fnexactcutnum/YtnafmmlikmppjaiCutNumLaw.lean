import Derived.Test.YtnafmmlikmppjaiCutS
import Derived.Test.YtnafmmlikmppjaiCutI
namespace Go.Proofs.Ytnafmmlikmppjai
open Go.RowKit
set_option linter.unusedVariables false

theorem fnExactCutNum_walk (num n : Int) (_ : (Lit.int .i64 num).wf = true) (_ : (Lit.int .i64 n).wf = true) (w : World) :
    Calls Try.prog 3 #[.int .i64 num, .int .i64 n] w fun e w' => e = .returned (.bool true) ∧ Below w.heap.size w w' := by
  have c1 := specCut num n w
  have c2 := implCut num n w
  have hrefl : ((cutV num n) != (cutV num n)) = false := by simp
  generalize cutV num n = s at c1 c2 hrefl
  go_enter Try.func3, Try.ntmps3
  go_wp2_with (first | (go_at_call 7; refine c1.mono ?_; rintro e w' ⟨rfl, rfl⟩) | (go_at_call 8; refine c2.mono ?_; rintro e w' ⟨rfl, rfl⟩))
  go_ret
  exact ⟨rfl, Below.refl _ _⟩
end Go.Proofs.Ytnafmmlikmppjai
