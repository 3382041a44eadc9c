import Derived.Test.YtdommkpeilmdnaaDoorMem
namespace Go.Proofs.YtdommkpeilmdnaaDoor
open Go.RowKit
set_option linter.unusedVariables false

theorem place_long (ao : Option Addr) (n cap : Nat) (a : Int) (w : World) (h : 65536 < n) (hm : n ≤ 9223372036854775807) :
    Calls Tryd.prog 52 #[.slice ao n cap, .int .i64 a] w fun e w' => e = .returned (.int .i64 4) ∧ w' = w := by
  go_enter Tryd.func52, Tryd.ntmps52
  go_wp2
  go_ret
  exact ⟨rfl, rfl⟩
theorem place_bad (ao : Option Addr) (n cap : Nat) (a : Int) (w : World) (h : n ≤ 65536) (h1 : a < 0 ∨ (n : Int) < a) :
    Calls Tryd.prog 52 #[.slice ao n cap, .int .i64 a] w fun e w' => e = .returned (.int .i64 1) ∧ w' = w := by
  by_cases h2 : a < 0
  · clear h1
    go_enter Tryd.func52, Tryd.ntmps52
    go_wp2
    go_ret
    exact ⟨rfl, rfl⟩
  · have h3 : (n : Int) < a := by omega
    clear h1
    go_enter Tryd.func52, Tryd.ntmps52
    go_wp2
    go_ret
    exact ⟨rfl, rfl⟩
theorem place_ok (ao : Option Addr) (n cap : Nat) (a : Int) (w : World) (h : n ≤ 65536) (h1 : 0 ≤ a) (h2 : a ≤ (n : Int)) :
    Calls Tryd.prog 52 #[.slice ao n cap, .int .i64 a] w fun e w' => e = .returned (.int .i64 0) ∧ w' = w := by
  go_enter Tryd.func52, Tryd.ntmps52
  go_wp2
  go_ret
  exact ⟨rfl, rfl⟩
end Go.Proofs.YtdommkpeilmdnaaDoor
