import Derived.Test.YthokfbgpoffafaaGreatDoorICover
import Derived.Test.YthokfbgpoffafaaGreatDoorITag
namespace Go.Proofs.YthokfbgpoffafaaGreatDoor
open Go.RowKit
set_option linter.unusedVariables false

theorem vnum_ok (num : Int) (w : World) (h0 : 0 ≤ num) (h1 : num ≤ 4611686018427387903) : Calls Tryz.prog 84 #[.int .i64 num] w fun e w' => e = .returned (.bool true) ∧ w' = w := by
  go_enter Tryz.func84, Tryz.ntmps84
  go_wp2
  go_ret
  exact ⟨rfl, rfl⟩
theorem vnum_low (num : Int) (w : World) (h0 : num < 0) : Calls Tryz.prog 84 #[.int .i64 num] w fun e w' => e = .returned (.bool false) ∧ w' = w := by
  go_enter Tryz.func84, Tryz.ntmps84
  go_wp2
  go_ret
  exact ⟨rfl, rfl⟩
theorem vnum_high (num : Int) (w : World) (h0 : 0 ≤ num) (h1 : 4611686018427387903 < num) : Calls Tryz.prog 84 #[.int .i64 num] w fun e w' => e = .returned (.bool false) ∧ w' = w := by
  go_enter Tryz.func84, Tryz.ntmps84
  go_wp2
  go_ret
  refine ⟨?_, rfl⟩
  simp
  omega
theorem vnum_bad (num : Int) (w : World) (h : num < 0 ∨ 4611686018427387903 < num) : Calls Tryz.prog 84 #[.int .i64 num] w fun e w' => e = .returned (.bool false) ∧ w' = w := by
  by_cases h0 : num < 0
  · exact vnum_low num w h0
  · exact vnum_high num w (by omega) (by omega)

end Go.Proofs.YthokfbgpoffafaaGreatDoor
