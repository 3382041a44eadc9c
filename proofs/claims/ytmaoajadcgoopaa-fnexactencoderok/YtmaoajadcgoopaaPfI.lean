import Derived.Test.YtmaoajadcgoopaaPfS
import Derived.Test.YtmaoajadcgoopaaIdOfLaw
namespace Go.Proofs.Ytmaoajadcgoopaa
open Go.RowKit
set_option linter.unusedVariables false

theorem numI (v : Int) (w : World) : Calls Try.prog 26 #[.int .i64 v] w fun e w' => e = .returned (.bool (decide (0 ≤ v ∧ v ≤ 4611686018427387903))) ∧ w' = w := by
  by_cases h0 : 0 ≤ v
  · by_cases h1 : v ≤ 4611686018427387903
    · rw [decide_eq_true ⟨h0, h1⟩]
      go_enter Try.func26, Try.ntmps26
      go_wp2
      go_ret
      exact ⟨rfl, rfl⟩
    · rw [decide_eq_false (fun h => h1 h.2)]
      have hd : decide (v ≤ 4611686018427387903) = false := decide_eq_false h1
      go_enter Try.func26, Try.ntmps26
      go_wp2
      go_ret
      exact ⟨rfl, rfl⟩
  · rw [decide_eq_false (fun h => h0 h.1)]
    have hd : v < 0 := by omega
    go_enter Try.func26, Try.ntmps26
    go_wp2
    go_ret
    exact ⟨rfl, rfl⟩
/-- The value of an opening. -/
def opV (h k : Int) : Value := .agg #[.int .i64 h, .int .i64 k]
theorem andF (h : Int) (k : Nat) (h0 : 0 ≤ h) (h1 : h ≤ 255) (h8 : k ≤ 8) : bits .and .i64 h (fl k - 1) = h % fl k := by
  obtain ⟨n, rfl⟩ := Int.eq_ofNat_of_zero_le h0
  have e1 : fl k - 1 = ((2 ^ k - 1 : Nat) : Int) := by unfold fl; have := Nat.one_le_two_pow (n := k); omega
  have hb : (2 : Nat) ^ k ≤ 256 := by have := fl_hi k h8; unfold fl at this; omega
  rw [e1, and_i64 n (2 ^ k - 1) (n % 2 ^ k) (by omega) (by omega) (by have := Nat.mod_le n (2 ^ k); omega) (Nat.and_two_pow_sub_one_eq_mod n k)]
  unfold fl; omega
end Go.Proofs.Ytmaoajadcgoopaa
