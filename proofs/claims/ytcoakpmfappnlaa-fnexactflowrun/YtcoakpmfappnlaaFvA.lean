import Derived.Test.YtcoakpmfappnlaaFuZ
namespace Go.Proofs.Ytcoakpmfappnlaa
open Go.RowKit
set_option linter.unusedVariables false
set_option linter.unusedSimpArgs false

/-- The setup as a value. -/
def fsV (F : FS) : Value := .agg #[.bool F.sv, .int .i64 F.cw, .int .i64 F.sw, .int .i64 F.tw, .int .i64 F.ow, .int .i64 F.pc, .int .i64 F.ps, .int .i64 F.pt, .int .i64 F.po]

set_option maxRecDepth 20000 in
set_option maxHeartbeats 4000000 in
theorem validI (F : FS) (w : World) : Calls Try.prog 18 #[fsV F] w fun e w' => e = .returned (.bool (fsOK F)) ∧ Below w.heap.size w w' := by
  obtain ⟨sv, cw, sw, tw, ow, pc, ps, pt, po⟩ := F
  unfold fsV
  dsimp only
  have eF : fsOK ⟨sv, cw, sw, tw, ow, pc, ps, pt, po⟩ = decide (1 ≤ min cw sw ∧ max cw sw ≤ 16384 ∧ 0 ≤ min tw ow ∧ max tw ow ≤ 64 ∧ 0 ≤ min pc ps ∧ max pc ps ≤ 4611686018427387903 ∧ 0 ≤ min pt po ∧ max pt po ≤ 1152921504606846976) := by
    unfold fsOK
    refine decide_eq_decide.2 ?_
    dsimp only
    omega
  rw [eF]
  clear eF
  obtain ⟨z0, e0⟩ : ∃ z, min cw sw = z := ⟨_, rfl⟩
  obtain ⟨z1, e1⟩ : ∃ z, max cw sw = z := ⟨_, rfl⟩
  obtain ⟨z2, e2⟩ : ∃ z, min tw ow = z := ⟨_, rfl⟩
  obtain ⟨z3, e3⟩ : ∃ z, max tw ow = z := ⟨_, rfl⟩
  obtain ⟨z4, e4⟩ : ∃ z, min pc ps = z := ⟨_, rfl⟩
  obtain ⟨z5, e5⟩ : ∃ z, max pc ps = z := ⟨_, rfl⟩
  obtain ⟨z6, e6⟩ : ∃ z, min pt po = z := ⟨_, rfl⟩
  obtain ⟨z7, e7⟩ : ∃ z, max pt po = z := ⟨_, rfl⟩
  rw [e0, e1, e2, e3, e4, e5, e6, e7]
  by_cases h0 : 1 ≤ z0
  case neg =>
    rw [decide_eq_false (by omega)]
    have d0 : decide (1 ≤ z0) = false := decide_eq_false h0
    go_enter Try.func18, Try.ntmps18
    go_wp2
    go_ret
    exact ⟨rfl, (Below.refl _ _).alloc (Nat.le_refl _) _⟩
  by_cases h1 : z1 ≤ 16384
  case neg =>
    rw [decide_eq_false (by omega)]
    have d1 : decide (z1 ≤ 16384) = false := decide_eq_false h1
    have d0 : decide (1 ≤ z0) = true := decide_eq_true h0
    go_enter Try.func18, Try.ntmps18
    go_wp2
    go_ret
    exact ⟨rfl, (Below.refl _ _).alloc (Nat.le_refl _) _⟩
  by_cases h2 : 0 ≤ z2
  case neg =>
    rw [decide_eq_false (by omega)]
    have d2 : decide (0 ≤ z2) = false := decide_eq_false h2
    have d0 : decide (1 ≤ z0) = true := decide_eq_true h0
    have d1 : decide (z1 ≤ 16384) = true := decide_eq_true h1
    go_enter Try.func18, Try.ntmps18
    go_wp2
    go_ret
    exact ⟨rfl, (Below.refl _ _).alloc (Nat.le_refl _) _⟩
  by_cases h3 : z3 ≤ 64
  case neg =>
    rw [decide_eq_false (by omega)]
    have d3 : decide (z3 ≤ 64) = false := decide_eq_false h3
    have d0 : decide (1 ≤ z0) = true := decide_eq_true h0
    have d1 : decide (z1 ≤ 16384) = true := decide_eq_true h1
    have d2 : decide (0 ≤ z2) = true := decide_eq_true h2
    go_enter Try.func18, Try.ntmps18
    go_wp2
    go_ret
    exact ⟨rfl, (Below.refl _ _).alloc (Nat.le_refl _) _⟩
  by_cases h4 : 0 ≤ z4
  case neg =>
    rw [decide_eq_false (by omega)]
    have d4 : decide (0 ≤ z4) = false := decide_eq_false h4
    have d0 : decide (1 ≤ z0) = true := decide_eq_true h0
    have d1 : decide (z1 ≤ 16384) = true := decide_eq_true h1
    have d2 : decide (0 ≤ z2) = true := decide_eq_true h2
    have d3 : decide (z3 ≤ 64) = true := decide_eq_true h3
    go_enter Try.func18, Try.ntmps18
    go_wp2
    go_ret
    exact ⟨rfl, (Below.refl _ _).alloc (Nat.le_refl _) _⟩
  by_cases h5 : z5 ≤ 4611686018427387903
  case neg =>
    rw [decide_eq_false (by omega)]
    have d5 : decide (z5 ≤ 4611686018427387903) = false := decide_eq_false h5
    have d0 : decide (1 ≤ z0) = true := decide_eq_true h0
    have d1 : decide (z1 ≤ 16384) = true := decide_eq_true h1
    have d2 : decide (0 ≤ z2) = true := decide_eq_true h2
    have d3 : decide (z3 ≤ 64) = true := decide_eq_true h3
    have d4 : decide (0 ≤ z4) = true := decide_eq_true h4
    go_enter Try.func18, Try.ntmps18
    go_wp2
    go_ret
    exact ⟨rfl, (Below.refl _ _).alloc (Nat.le_refl _) _⟩
  by_cases h6 : 0 ≤ z6
  case neg =>
    rw [decide_eq_false (by omega)]
    have d6 : decide (0 ≤ z6) = false := decide_eq_false h6
    have d0 : decide (1 ≤ z0) = true := decide_eq_true h0
    have d1 : decide (z1 ≤ 16384) = true := decide_eq_true h1
    have d2 : decide (0 ≤ z2) = true := decide_eq_true h2
    have d3 : decide (z3 ≤ 64) = true := decide_eq_true h3
    have d4 : decide (0 ≤ z4) = true := decide_eq_true h4
    have d5 : decide (z5 ≤ 4611686018427387903) = true := decide_eq_true h5
    go_enter Try.func18, Try.ntmps18
    go_wp2
    go_ret
    exact ⟨rfl, (Below.refl _ _).alloc (Nat.le_refl _) _⟩
  by_cases h7 : z7 ≤ 1152921504606846976
  case neg =>
    rw [decide_eq_false (by omega)]
    have d7 : decide (z7 ≤ 1152921504606846976) = false := decide_eq_false h7
    have d0 : decide (1 ≤ z0) = true := decide_eq_true h0
    have d1 : decide (z1 ≤ 16384) = true := decide_eq_true h1
    have d2 : decide (0 ≤ z2) = true := decide_eq_true h2
    have d3 : decide (z3 ≤ 64) = true := decide_eq_true h3
    have d4 : decide (0 ≤ z4) = true := decide_eq_true h4
    have d5 : decide (z5 ≤ 4611686018427387903) = true := decide_eq_true h5
    have d6 : decide (0 ≤ z6) = true := decide_eq_true h6
    go_enter Try.func18, Try.ntmps18
    go_wp2
    go_ret
    exact ⟨rfl, (Below.refl _ _).alloc (Nat.le_refl _) _⟩
  rw [decide_eq_true (by omega)]
  have d0 : decide (1 ≤ z0) = true := decide_eq_true h0
  have d1 : decide (z1 ≤ 16384) = true := decide_eq_true h1
  have d2 : decide (0 ≤ z2) = true := decide_eq_true h2
  have d3 : decide (z3 ≤ 64) = true := decide_eq_true h3
  have d4 : decide (0 ≤ z4) = true := decide_eq_true h4
  have d5 : decide (z5 ≤ 4611686018427387903) = true := decide_eq_true h5
  have d6 : decide (0 ≤ z6) = true := decide_eq_true h6
  have d7 : decide (z7 ≤ 1152921504606846976) = true := decide_eq_true h7
  go_enter Try.func18, Try.ntmps18
  go_wp2
  go_ret
  exact ⟨rfl, (Below.refl _ _).alloc (Nat.le_refl _) _⟩
end Go.Proofs.Ytcoakpmfappnlaa
