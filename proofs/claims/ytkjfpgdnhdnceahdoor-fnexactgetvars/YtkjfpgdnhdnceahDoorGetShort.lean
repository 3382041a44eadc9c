import Derived.Test.YtkjfpgdnhdnceahDoorGVSeq
import Derived.Test.YtkjfpgdnhdnceahDoorGetVarI
namespace Go.Proofs.YtkjfpgdnhdnceahDoor
open Go.RowKit
set_option linter.unusedVariables false

theorem getShort_core (v : Value) (x y c s a : Int) (w : World) (hx : 0 ≤ x ∧ x ≤ 4611686018427387903) (hy : 0 ≤ y ∧ y ≤ 65536) (ha : 0 ≤ a ∧ a ≤ 65536)
    (hG : Calls Tryd.prog 8 #[v, .int .i64 a] w fun e w' => e = .returned (.tuple #[.int .i64 x, .int .i64 y, .int .i64 c]) ∧ w' = w)
    (hV : Calls Tryd.prog 31 #[.int .i64 x] w fun e w' => e = .returned (.int .i64 s) ∧ w' = w) :
    Calls Tryd.prog 26 #[v, .int .i64 a] w fun e w' => e = .returned (.tuple #[.int .i64 x, .int .i64 y, .bool (decide (c = 0 ∧ y - a = s))]) ∧ w' = w := by
  by_cases hc : c = 0
  · by_cases hs : y - a = s
    · have e : decide (c = 0 ∧ y - a = s) = true := by simp [hc, hs]
      rw [e]
      have hc' : (c == 0) = true := by simp [hc]
      have hs' : (y - a == s) = true := by simp [hs]
      clear hc hs e
      go_enter Tryd.func26, Tryd.ntmps26
      go_wp2_with (first | (go_at_call 8; refine hG.mono ?_; rintro e w' ⟨rfl, rfl⟩) | (go_at_call 31; refine hV.mono ?_; rintro e w' ⟨rfl, rfl⟩))
      go_ret3
      exact ⟨rfl, rfl⟩
    · have e : decide (c = 0 ∧ y - a = s) = false := by simp [hs]
      rw [e]
      have hc' : (c == 0) = true := by simp [hc]
      have hs' : (y - a == s) = false := by simp [hs]
      clear hc hs e
      go_enter Tryd.func26, Tryd.ntmps26
      go_wp2_with (first | (go_at_call 8; refine hG.mono ?_; rintro e w' ⟨rfl, rfl⟩) | (go_at_call 31; refine hV.mono ?_; rintro e w' ⟨rfl, rfl⟩))
      go_ret3
      exact ⟨rfl, rfl⟩
  · have e : decide (c = 0 ∧ y - a = s) = false := by simp [hc]
    rw [e]
    have hc' : (c == 0) = false := by simp [hc]
    clear hc e
    go_enter Tryd.func26, Tryd.ntmps26
    go_wp2_with (go_at_call 8; refine hG.mono ?_; rintro e w' ⟨rfl, rfl⟩)
    go_ret3
    exact ⟨rfl, rfl⟩

theorem getShort (v : Value) (xs : List Int) (a : Int) (w : World) (ht : Tab w) (hrow : Row w .u8 v xs) (hB : Bytes xs) (hm : xs.length ≤ 9223372036854775807) (ha : 0 ≤ a ∧ a ≤ 65536) :
    Calls Tryd.prog 26 #[v, .int .i64 a] w fun e w' => e = .returned (.tuple #[.int .i64 (gv xs a).1, .int .i64 (gv xs a).2.1, .bool (short xs a)]) ∧ w' = w :=
  getShort_core v _ _ _ _ a w (gv_num xs a ha.1) (gv_next xs a ha.1) ha (implGetVar v xs a w ht hrow hB hm) (implVarLen _ w ht)
end Go.Proofs.YtkjfpgdnhdnceahDoor
