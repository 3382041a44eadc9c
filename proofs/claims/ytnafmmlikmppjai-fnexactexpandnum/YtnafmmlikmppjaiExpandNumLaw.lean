import Derived.Test.YtnafmmlikmppjaiExS
import Derived.Test.YtnafmmlikmppjaiExI
namespace Go.Proofs.Ytnafmmlikmppjai
open Go.RowKit
set_option linter.unusedVariables false

theorem fnExactExpandNum_walk (l c n : Int) (_ : (Lit.int .i64 l).wf = true) (hc : (Lit.int .i64 c).wf = true) (_ : (Lit.int .i64 n).wf = true) (w : World) :
    Calls Try.prog 4 #[.int .i64 l, .int .i64 c, .int .i64 n] w fun e w' => e = .returned (.bool true) ∧ Below w.heap.size w w' := by
  have hm : c ≤ 9223372036854775807 := by have := hc; simp [Lit.wf, IntKind.min, IntKind.max, IntKind.signed, IntKind.bits] at this; omega
  have c1 := specEx l c n w hm
  have c2 := implEx l c n w hm
  have hrefl : ((expV l c n) != (expV l c n)) = false := by simp
  generalize expV l c n = s at c1 c2 hrefl
  go_enter Try.func4, Try.ntmps4
  go_wp2_with (first | (go_at_call 9; refine c1.mono ?_; rintro e w' ⟨rfl, rfl⟩) | (go_at_call 10; refine c2.mono ?_; rintro e w' ⟨rfl, rfl⟩))
  go_ret
  exact ⟨rfl, Below.refl _ _⟩
end Go.Proofs.Ytnafmmlikmppjai
