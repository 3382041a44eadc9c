import Derived.Test.YtdjflbanbhhniaaDoorFdS
import Derived.Test.YtdjflbanbhhniaaDoorFdA
namespace Go.Proofs.YtdjflbanbhhniaaDoor
open Go.RowKit
set_option linter.unusedVariables false

/-- A value as a field may have it, without a blank at its ends. -/
def vpl (v : ByteArray) : Bool := vOK v && (decide (v.size = 0) || (decide (bt v 0 ≠ 32) && decide (bt v (v.size - 1) ≠ 32)))
theorem nOK_x : nOK ⟨#[120]⟩ = true := by decide
set_option maxHeartbeats 2000000 in
theorem valS (v : ByteArray) (w : World) (hv : v.size ≤ 9223372036854775807) :
    Calls Tryd.prog 31 #[.string v] w fun e w' => e = .returned (.bool (vpl v)) ∧ Below w.heap.size w w' := by
  have C := fieldS ⟨#[120]⟩ v w (by decide) hv
  rw [show fOK ⟨#[120]⟩ v = vOK v by unfold fOK; rw [nOK_x]; rfl] at C
  obtain ⟨N, eN⟩ : ∃ N, N = vpl v := ⟨_, rfl⟩
  rw [← eN]
  unfold vpl at eN
  obtain ⟨V, eV⟩ : ∃ V, V = vOK v := ⟨_, rfl⟩
  rw [← eV] at C eN
  have H : Hid _ := And.intro C True.intro
  clear C eV
  cases V with
  | false =>
    have HN : Hid (N = false) := by show N = false; rw [eN]; rfl
    clear eN
    go_enter Tryd.func31, Tryd.ntmps31
    go_wp2_with fail
    go_at_call 42
    refine H.out.1.mono ?_
    rintro e w1 ⟨rfl, b1⟩
    have B1 : Hid _ := And.intro b1 True.intro
    clear b1
    go_wp2
    go_ret
    exact ⟨by rw [HN.out]; rfl, B1.out.1⟩
  | true =>
    rw [Bool.true_and] at eN
    go_enter Tryd.func31, Tryd.ntmps31
    go_wp2_with fail
    go_at_call 42
    refine H.out.1.mono ?_
    rintro e w1 ⟨rfl, b1⟩
    have B1 : Hid _ := And.intro b1 True.intro
    clear b1
    by_cases h0 : v.size = 0
    · have HN : Hid (N = true) := by show N = true; rw [eN]; simp [h0]
      have h0' : ((v.size : Nat) : Int) = 0 := by omega
      clear eN
      go_wp2
      go_ret
      exact ⟨by rw [HN.out]; rfl, B1.out.1⟩
    · have h0' : ((((v.size : Nat) : Int)) == 0) = false := by simp [h0]
      have ix0 : ∀ u, (Instr.index 9 (.string v) (.int .i64 0)).run Tryd.prog u = .ok (.int .u8 (bt v 0)) u := fun u => ixC v 0 (by omega) u
      have ix1 : ∀ u, (Instr.index 9 (.string v) (.int .i64 (((v.size : Nat) : Int) - 1))).run Tryd.prog u = .ok (.int .u8 (bt v (v.size - 1))) u := fun u => by
        have := ixC v (v.size - 1) (by omega) u
        rw [show ((v.size - 1 : Nat) : Int) = ((v.size : Nat) : Int) - 1 by omega] at this
        exact this
      obtain ⟨x, ex⟩ : ∃ x, x = bt v 0 := ⟨_, rfl⟩
      obtain ⟨y, ey⟩ : ∃ y, y = bt v (v.size - 1) := ⟨_, rfl⟩
      rw [← ex] at ix0 eN
      rw [← ey] at ix1 eN
      rw [show decide (v.size = 0) = false from decide_eq_false h0, Bool.false_or] at eN
      have h1 : 1 ≤ v.size := by omega
      clear ex ey h0
      by_cases hx : x = 32
      · have HN : Hid (N = false) := by show N = false; rw [eN]; simp [hx]
        have x0 : (x != 32) = false := by simp [hx]
        clear eN
        go_wp2
        go_ret
        exact ⟨by rw [HN.out]; rfl, B1.out.1⟩
      · have x0 : (x != 32) = true := by simp [hx]
        have HN : Hid (N = (y != 32)) := by show N = _; rw [eN]; by_cases hy : y = 32 <;> simp [hx, hy]
        clear eN
        go_wp2
        go_ret
        exact ⟨by rw [HN.out]; rfl, B1.out.1⟩
end Go.Proofs.YtdjflbanbhhniaaDoor
