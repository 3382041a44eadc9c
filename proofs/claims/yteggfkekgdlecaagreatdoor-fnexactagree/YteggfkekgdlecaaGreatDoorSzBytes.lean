import Derived.Test.YteggfkekgdlecaaGreatDoorMem
namespace Go.Proofs.YteggfkekgdlecaaGreatDoor
open Go.RowKit
set_option linter.unusedVariables false

theorem szBytes_fit (v : Value) (xs : List Int) (l : Int) (w : World) (h : Row w .u8 v xs) (h0 : (xs.length : Int) ≤ l) (h1 : l ≤ 9223372036854775807) :
    Calls Tryz.prog 16 #[v, .int .i64 l] w fun e w' => e = .returned (.int .i64 (l - (xs.length : Int))) ∧ w' = w := by
  obtain ⟨ao, cap, rfl⟩ := h.form
  clear h
  generalize xs.length = n at *
  go_enter Tryz.func16, Tryz.ntmps16
  go_wp2
  go_ret
  exact ⟨rfl, rfl⟩
theorem szBytes_over (v : Value) (xs : List Int) (l : Int) (w : World) (h : Row w .u8 v xs) (hx : xs.length ≤ 9223372036854775807) (h0 : l < (xs.length : Int)) (h1 : 0 ≤ l) :
    Calls Tryz.prog 16 #[v, .int .i64 l] w fun e w' => e = .returned (.int .i64 (-1)) ∧ w' = w := by
  obtain ⟨ao, cap, rfl⟩ := h.form
  clear h
  generalize xs.length = n at *
  go_enter Tryz.func16, Tryz.ntmps16
  go_wp2
  go_ret
  exact ⟨rfl, rfl⟩
end Go.Proofs.YteggfkekgdlecaaGreatDoor
