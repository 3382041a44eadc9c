import Derived.Test.YtnafmmlikmppjahNumB
namespace Go.Proofs.Ytnafmmlikmppjah
open Go.RowKit
set_option linter.unusedVariables false

theorem fnExactNumBytes_walk (num acked : Int) (_ : (Lit.int .i64 num).wf = true) (_ : (Lit.int .i64 acked).wf = true) (w : World) :
    Calls Try.prog 5 #[.int .i64 num, .int .i64 acked] w fun e w' => e = .returned (.bool true) ∧ Below w.heap.size w w' := by
  have c1 := specNB num acked w
  have c2 := implNB num acked w
  have hrefl : ((nbV num acked) != (nbV num acked)) = false := by simp
  generalize nbV num acked = s at c1 c2 hrefl
  go_enter Try.func5, Try.ntmps5
  go_wp2_with (first | (go_at_call 14; refine c1.mono ?_; rintro e w' ⟨rfl, rfl⟩) | (go_at_call 15; refine c2.mono ?_; rintro e w' ⟨rfl, rfl⟩))
  go_ret
  exact ⟨rfl, Below.refl _ _⟩
end Go.Proofs.Ytnafmmlikmppjah
