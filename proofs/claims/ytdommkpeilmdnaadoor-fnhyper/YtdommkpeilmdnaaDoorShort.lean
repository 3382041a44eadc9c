import Derived.Test.YtdommkpeilmdnaaDoorForms
namespace Go.Proofs.YtdommkpeilmdnaaDoor
open Go.RowKit
set_option linter.unusedVariables false

def vform (v : Int) : Int := if v ≤ 63 then 0 else if v ≤ 16383 then 1 else if v ≤ 1073741823 then 2 else 3

theorem vform_bd (v : Int) : 0 ≤ vform v ∧ vform v < 4 := by unfold vform; split <;> (try split) <;> (try split) <;> omega

theorem vmost_mono (a b : Int) (h : a ≤ b) (h0 : 0 ≤ a) (h1 : b < 4) : vmost a ≤ vmost b := by
  rcases forms a h0 (by omega) with rfl | rfl | rfl | rfl <;> rcases forms b (by omega) h1 with rfl | rfl | rfl | rfl <;> first | (unfold vmost; simp; done) | omega

theorem vform_eq (v k : Int) (h0 : 0 ≤ k) (h4 : k < 4) (hle : v ≤ vmost k) (hlo : ∀ j : Int, 0 ≤ j → j < k → vmost j < v) : vform v = k := by
  rcases forms k h0 h4 with rfl | rfl | rfl | rfl
  · simp only [vmost] at hle; simp at hle; unfold vform; rw [if_pos hle]
  · have := hlo 0 (by omega) (by omega)
    simp [vmost] at this hle; unfold vform; rw [if_neg (by omega), if_pos hle]
  · have := hlo 1 (by omega) (by omega)
    simp [vmost] at this hle; unfold vform; rw [if_neg (by omega), if_neg (by omega), if_pos hle]
  · have := hlo 2 (by omega) (by omega)
    simp [vmost] at this hle; unfold vform; rw [if_neg (by omega), if_neg (by omega), if_neg (by omega)]

theorem short_neg (v : Int) (hv : v < 0) (w : World) :
    Calls Tryd.prog 47 #[.int .i64 v] w fun e w' => e = .returned (.tuple #[.int .i64 0, .bool false]) ∧ w' = w := by
  go_enter Tryd.func47, Tryd.ntmps47
  go_wp2
  go_ret2
  exact ⟨rfl, rfl⟩

/-- What it answers: the form, and whether there is one. -/
def sform (v : Int) : Int := if v ≤ 4611686018427387903 then vform v else 0
def sok (v : Int) : Bool := decide (v ≤ 4611686018427387903)

theorem sform_at (v k : Int) (h0 : 0 ≤ k) (h4 : k < 4) (hle : v ≤ vmost k) (hlo : ∀ j : Int, 0 ≤ j → j < k → vmost j < v) : sform v = k ∧ sok v = true := by
  have h3 : v ≤ 4611686018427387903 := by
    have := vmost_mono k 3 (by omega) h0 (by omega)
    have e : vmost 3 = 4611686018427387903 := rfl
    omega
  unfold sform sok
  rw [if_pos h3, vform_eq v k h0 h4 hle hlo]
  exact ⟨rfl, by simpa using h3⟩
theorem sform_none (v : Int) (hlo : ∀ j : Int, 0 ≤ j → j < 4 → vmost j < v) : sform v = 0 ∧ sok v = false := by
  have h3 := hlo 3 (by omega) (by omega)
  have e : vmost 3 = 4611686018427387903 := rfl
  unfold sform sok
  rw [if_neg (by omega)]
  exact ⟨rfl, by simp; omega⟩

set_option maxHeartbeats 400000 in
theorem short_any (v : Int) (hv : 0 ≤ v) (w : World) (ht : Tab w) :
    Calls Tryd.prog 47 #[.int .i64 v] w fun e w' => e = .returned (.tuple #[.int .i64 (sform v), .bool (sok v)]) ∧ w' = w := by
  go_enter Tryd.func47, Tryd.ntmps47
  go_wp2
  go_loop [7] (fun t => ∃ k : Nat, k ≤ 4 ∧ t = .int .i64 k ∧ ∀ j : Int, 0 ≤ j → j < k → vmost j < v) (fun t => 4 - (intOf t).toNat)
  case atStart => exact ⟨0, by omega, rfl, fun j h1 h2 => by omega⟩
  case round =>
    obtain ⟨k, hk, rfl, hlo⟩ := hrel
    have HL : Hid (∀ j : Int, 0 ≤ j → j < k → vmost j < v) := hlo
    clear hlo
    by_cases hlt : k < 4
    · by_cases hle : v ≤ vmost k
      · go_wp2_with (go_at_call 54; refine (greatest_any _ (by omega) (by omega) _ ht).mono ?_; rintro e w' ⟨rfl, rfl⟩)
        go_ret2
        have := sform_at v k (by omega) (by omega) hle HL.out
        rw [this.1, this.2]
        exact ⟨rfl, rfl⟩
      · go_wp2_with (go_at_call 54; refine (greatest_any _ (by omega) (by omega) _ ht).mono ?_; rintro e w' ⟨rfl, rfl⟩)
        go_round
        case rel =>
          refine ⟨k + 1, by omega, by go_num, fun j h1 h2 => ?_⟩
          by_cases hj : j < k
          · exact HL.out j h1 hj
          · obtain rfl : j = k := by omega
            omega
        case measure => simp [intOf]; omega
    · go_wp2
      go_ret2
      have := sform_none v (fun j h1 h2 => HL.out j h1 (by omega))
      rw [this.1, this.2]
      exact ⟨rfl, rfl⟩

/-- The length of the shortest form; 0 where there is none. -/
def vsize (v : Int) : Int := if v < 0 then 0 else if v ≤ 63 then 1 else if v ≤ 16383 then 2 else if v ≤ 1073741823 then 4 else if v ≤ 4611686018427387903 then 8 else 0

theorem vsize_form (v : Int) (h0 : 0 ≤ v) (h1 : v ≤ 4611686018427387903) : vlen (sform v) = vsize v ∧ sok v = true := by
  unfold sform sok vsize
  rw [if_pos h1, if_neg (by omega)]
  refine ⟨?_, by simpa using h1⟩
  unfold vform
  by_cases a : v ≤ 63
  · simp [a, vlen]
  · by_cases b : v ≤ 16383
    · simp [a, b, vlen]
    · by_cases c : v ≤ 1073741823
      · simp [a, b, c, vlen]
      · simp [a, b, c, h1, vlen]

theorem specVarLen (v : Int) (w : World) :
    Calls Tryd.prog 50 #[.int .i64 v] w fun e w' => e = .returned (.int .i64 (vsize v)) ∧ w' = w := by
  have HV : Hid (vsize v = if v < 0 then 0 else if v ≤ 63 then 1 else if v ≤ 16383 then 2 else if v ≤ 1073741823 then 4 else if v ≤ 4611686018427387903 then 8 else 0) := rfl
  by_cases h0 : v < 0
  · go_enter Tryd.func50, Tryd.ntmps50
    go_wp2
    go_ret
    rw [HV.out, if_pos (by omega)]; exact ⟨rfl, rfl⟩
  · by_cases h4 : v ≤ 4611686018427387903
    · by_cases h1 : v ≤ 63
      · go_enter Tryd.func50, Tryd.ntmps50
        go_wp2
        go_ret
        rw [HV.out, if_neg (by omega), if_pos (by omega)]; exact ⟨rfl, rfl⟩
      · by_cases h2 : v ≤ 16383
        · go_enter Tryd.func50, Tryd.ntmps50
          go_wp2
          go_ret
          rw [HV.out, if_neg (by omega), if_neg (by omega), if_pos (by omega)]; exact ⟨rfl, rfl⟩
        · by_cases h3 : v ≤ 1073741823
          · go_enter Tryd.func50, Tryd.ntmps50
            go_wp2
            go_ret
            rw [HV.out, if_neg (by omega), if_neg (by omega), if_neg (by omega), if_pos (by omega)]; exact ⟨rfl, rfl⟩
          · go_enter Tryd.func50, Tryd.ntmps50
            go_wp2
            go_ret
            rw [HV.out, if_neg (by omega), if_neg (by omega), if_neg (by omega), if_neg (by omega), if_pos (by omega)]; exact ⟨rfl, rfl⟩
    · go_enter Tryd.func50, Tryd.ntmps50
      go_wp2
      go_ret
      rw [HV.out, if_neg (by omega), if_neg (by omega), if_neg (by omega), if_neg (by omega), if_neg (by omega)]; exact ⟨rfl, rfl⟩
end Go.Proofs.YtdommkpeilmdnaaDoor
