import Derived.Test.YtkjfpgdnhdnceahDoorGetVarI
import Derived.Test.YtkjfpgdnhdnceahDoorGetVarP
import Derived.Test.YtkjfpgdnhdnceahDoorToBytes
import Derived.Test.YtkjfpgdnhdnceahDoorEqBytes
namespace Go.Proofs.YtkjfpgdnhdnceahDoor
open Go.RowKit
set_option linter.unusedVariables false

theorem getVar_huge (ao : Option Addr) (n cap : Nat) (a : Int) (w : World) (h : 1048576 < n) (hm : n ≤ 9223372036854775807) :
    Calls Tryd.prog 3 #[.slice ao n cap, .int .i64 a] w fun e w' => e = .returned (.bool true) ∧ Below w.heap.size w w' := by
  go_enter Tryd.func3, Tryd.ntmps3
  go_wp2
  go_ret
  exact ⟨rfl, Below.refl _ _⟩

set_option maxHeartbeats 800000 in
theorem getVarLaw (v : Value) (xs : List Int) (a : Int) (x y z : Int) (w : World) (ht : Tab w) (hrow : Row w .u8 v xs) (hn : xs.length ≤ 1048576)
    (hS : ∀ (w : World) (v : Value), Row w .u8 v xs → Calls Tryd.prog 6 #[v, .int .i64 a] w fun e w' => e = .returned (.tuple #[.int .i64 x, .int .i64 y, .int .i64 z]) ∧ w' = w)
    (hI : ∀ (w : World) (v : Value), Tab w → Row w .u8 v xs → Calls Tryd.prog 8 #[v, .int .i64 a] w fun e w' => e = .returned (.tuple #[.int .i64 x, .int .i64 y, .int .i64 z]) ∧ w' = w) :
    Calls Tryd.prog 3 #[v, .int .i64 a] w fun e w' => e = .returned (.bool true) ∧ Below w.heap.size w w' := by
  have tb : ∀ w : World, Row w .u8 v xs → Calls Tryd.prog 7 #[v] w fun e w' => ∃ r, e = .returned r ∧ w'.ownsRow w.heap.size 5 1 r xs.length (xs.map (Value.int .u8)) ∧ Below w.heap.size w w' :=
    fun w h => toBytes v xs w h (by omega)
  obtain ⟨ao, cap, hv⟩ := hrow.form
  rw [hv] at tb hrow ⊢
  clear hv
  have HN : Hid (xs.length ≤ 1048576) := hn
  obtain ⟨n, en⟩ : ∃ n, n = xs.length := ⟨_, rfl⟩
  rw [← en] at tb hrow hn ⊢
  have EN : Hid (n = xs.length) := en
  clear en
  go_enter Tryd.func3, Tryd.ntmps3
  go_wp2_with fail
  go_at_call 7
  refine (tb _ hrow).mono ?_
  rintro e w1 ⟨r1, rfl, o1, b1⟩
  have hrow1 := hrow.below b1
  go_wp2_with fail
  go_at_call 6
  refine (hS _ _ (row_of_owns o1)).mono ?_
  rintro e w2 ⟨rfl, rfl⟩
  go_wp2_with fail
  go_at_call 7
  refine (tb _ hrow1).mono ?_
  rintro e w3 ⟨r3, rfl, o3, b3⟩
  have hrow3 := hrow1.below b3
  have t3 := (ht.below b1 ht.lt).below b3 (Nat.lt_of_lt_of_le ht.lt b1.size)
  go_wp2_with fail
  go_at_call 8
  refine (hI _ _ t3 (row_of_owns o3)).mono ?_
  rintro e w4 ⟨rfl, rfl⟩
  go_wp2_with fail
  go_at_call 7
  refine (tb _ hrow3).mono ?_
  rintro e w5 ⟨r5, rfl, o5, b5⟩
  go_wp2_with fail
  go_at_call 9
  refine (eqBytes_same _ _ xs _ ((row_of_owns o3).below b5) (row_of_owns o5) (by have := HN.out; omega)).mono ?_
  rintro e w6 ⟨rfl, m6, rfl⟩
  go_wp2
  go_ret
  exact ⟨rfl, below_drewN ((b1.trans (b3.mono b1.size)).trans (b5.mono (Nat.le_trans b1.size b3.size))) m6⟩

theorem fnExactGetVar_walk (v : Value) (xs : List Int) (a : Int) (hl : xs.length ≤ maxLen) (hwf : ∀ x ∈ xs, (Lit.int .u8 x).wf = true) (ha : (Lit.int .i64 a).wf = true)
    (w : World) (hrow : Row w .u8 v xs) (ht : Tab w) :
    Calls Tryd.prog 3 #[v, .int .i64 a] w fun e w' => e = .returned (.bool true) ∧ Below w.heap.size w w' := by
  have hm : xs.length ≤ 9223372036854775807 := by unfold maxLen at hl; omega
  have hB := bytes_of_wf hwf
  by_cases h20 : 1048576 < xs.length
  · obtain ⟨ao, cap, rfl⟩ := hrow.form
    exact getVar_huge ao _ cap a w h20 hm
  · exact getVarLaw v xs a _ _ _ w ht hrow (by omega) (fun w v h => specGetVar v xs a w h hB hm) (fun w v ht h => implGetVar v xs a w ht h hB hm)
end Go.Proofs.YtkjfpgdnhdnceahDoor
