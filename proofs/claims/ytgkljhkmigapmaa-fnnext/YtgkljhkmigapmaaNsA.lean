import Derived.Test.YtgkljhkmigapmaaFlWaiting
import Derived.Deep.RegionWith
namespace Go.Proofs.Ytgkljhkmigapmaa
open Go.RowKit
set_option linter.unusedVariables false

/-- Is a sent ahead of b? -/
def ahd (a b : SWaiting) : Bool :=
  if a.f1 = b.f1 then (if a.f3 = b.f3 then (if a.f3 = true ∧ a.f2 ≠ b.f2 then decide (a.f2 < b.f2) else decide (a.f0 < b.f0)) else b.f3) else decide (a.f1 < b.f1)
theorem ahd_self (a : SWaiting) : ahd a a = false := by
  unfold ahd; simp
/-- The place of what goes first among the first n. -/
def nxt (L : List SWaiting) : Nat → Nat
  | 0 => 0
  | n + 1 => if ahd (L.getD n default) (L.getD (nxt L n) default) then n else nxt L n
theorem nxt_lt (L : List SWaiting) (n : Nat) (h : 0 < n) : nxt L n < n := by
  induction n with
  | zero => omega
  | succ n ih =>
    simp only [nxt]
    split
    · omega
    · by_cases h0 : n = 0
      · subst h0; simp [nxt]
      · have := ih (by omega); omega
theorem nxt_one (L : List SWaiting) : nxt L 1 = 0 := by
  simp [nxt]
def nxV (L : List SWaiting) : Int := if L.length = 0 ∨ 4096 < L.length then -1 else nxt L L.length

abbrev wtV (a : SWaiting) : Value := .agg #[.int .i64 a.f0, .int .i64 a.f1, .int .i64 a.f2, .bool a.f3]
set_option maxHeartbeats 2000000 in
theorem aheadS (a b : SWaiting) (w : World) : Calls Try.prog 12 #[wtV a, wtV b] w fun e w' => e = .returned (.bool (ahd a b)) ∧ Below w.heap.size w w' := by
  obtain ⟨a0, a1, a2, a3⟩ := a
  obtain ⟨b0, b1, b2, b3⟩ := b
  have fin : ∀ N : Bool, N = ahd ⟨a0, a1, a2, a3⟩ ⟨b0, b1, b2, b3⟩ → Calls Try.prog 12 #[wtV ⟨a0, a1, a2, a3⟩, wtV ⟨b0, b1, b2, b3⟩] w fun e w' => e = .returned (.bool N) ∧ Below w.heap.size w w' := by
    intro N eN
    unfold ahd at eN
    simp only at eN
    unfold wtV
    simp only
    by_cases c1 : a1 = b1
    · subst c1
      rw [if_pos rfl] at eN
      have d1 : (a1 != a1) = false := by simp
      by_cases c2 : a3 = b3
      · subst c2
        rw [if_pos rfl] at eN
        have d2 : (a3 != a3) = false := by simp
        by_cases c3 : a3 = true ∧ a2 ≠ b2
        · obtain ⟨c4, c5⟩ := c3
          rw [if_pos ⟨c4, c5⟩] at eN
          subst c4
          have d3 : (a2 != b2) = true := by simp [c5]
          subst eN
          go_enter Try.func12, Try.ntmps12
          go_wp2
          go_ret
          exact ⟨rfl, ((Below.refl _ _).alloc (Nat.le_refl _) _).alloc (by simp) _⟩
        · rw [if_neg c3] at eN
          subst eN
          cases a3
          · go_enter Try.func12, Try.ntmps12
            go_wp2
            go_ret
            exact ⟨rfl, ((Below.refl _ _).alloc (Nat.le_refl _) _).alloc (by simp) _⟩
          · have c5 : a2 = b2 := by by_cases h : a2 = b2; exact h; exact absurd ⟨rfl, h⟩ c3
            subst c5
            have d3 : (a2 != a2) = false := by simp
            go_enter Try.func12, Try.ntmps12
            go_wp2
            go_ret
            exact ⟨rfl, ((Below.refl _ _).alloc (Nat.le_refl _) _).alloc (by simp) _⟩
      · rw [if_neg c2] at eN
        rw [eN]
        clear eN
        cases a3 <;> cases b3 <;> first
          | exact absurd rfl c2
          | (clear c2
             go_enter Try.func12, Try.ntmps12
             go_wp2
             go_ret
             exact ⟨rfl, ((Below.refl _ _).alloc (Nat.le_refl _) _).alloc (by simp) _⟩)
    · rw [if_neg c1] at eN
      have d1 : (a1 != b1) = true := by simp [c1]
      subst eN
      go_enter Try.func12, Try.ntmps12
      go_wp2
      go_ret
      exact ⟨rfl, ((Below.refl _ _).alloc (Nat.le_refl _) _).alloc (by simp) _⟩
  exact fin _ rfl
set_option maxHeartbeats 2000000 in
theorem aheadI (a b : SWaiting) (w : World) : Calls Try.prog 11 #[wtV a, wtV b] w fun e w' => e = .returned (.bool (ahd a b)) ∧ Below w.heap.size w w' := by
  obtain ⟨a0, a1, a2, a3⟩ := a
  obtain ⟨b0, b1, b2, b3⟩ := b
  have fin : ∀ N : Bool, N = ahd ⟨a0, a1, a2, a3⟩ ⟨b0, b1, b2, b3⟩ → Calls Try.prog 11 #[wtV ⟨a0, a1, a2, a3⟩, wtV ⟨b0, b1, b2, b3⟩] w fun e w' => e = .returned (.bool N) ∧ Below w.heap.size w w' := by
    intro N eN
    unfold ahd at eN
    simp only at eN
    unfold wtV
    simp only
    by_cases c1 : a1 = b1
    · subst c1
      rw [if_pos rfl] at eN
      have d1 : (a1 != a1) = false := by simp
      by_cases c2 : a3 = b3
      · subst c2
        rw [if_pos rfl] at eN
        have d2 : (a3 != a3) = false := by simp
        by_cases c3 : a3 = true ∧ a2 ≠ b2
        · obtain ⟨c4, c5⟩ := c3
          rw [if_pos ⟨c4, c5⟩] at eN
          subst c4
          have d3 : (a2 != b2) = true := by simp [c5]
          subst eN
          go_enter Try.func11, Try.ntmps11
          go_wp2
          go_ret
          exact ⟨rfl, ((Below.refl _ _).alloc (Nat.le_refl _) _).alloc (by simp) _⟩
        · rw [if_neg c3] at eN
          subst eN
          cases a3
          · go_enter Try.func11, Try.ntmps11
            go_wp2
            go_ret
            exact ⟨rfl, ((Below.refl _ _).alloc (Nat.le_refl _) _).alloc (by simp) _⟩
          · have c5 : a2 = b2 := by by_cases h : a2 = b2; exact h; exact absurd ⟨rfl, h⟩ c3
            subst c5
            have d3 : (a2 != a2) = false := by simp
            go_enter Try.func11, Try.ntmps11
            go_wp2
            go_ret
            exact ⟨rfl, ((Below.refl _ _).alloc (Nat.le_refl _) _).alloc (by simp) _⟩
      · rw [if_neg c2] at eN
        rw [eN]
        clear eN
        cases a3 <;> cases b3 <;> first
          | exact absurd rfl c2
          | (clear c2
             go_enter Try.func11, Try.ntmps11
             go_wp2
             go_ret
             exact ⟨rfl, ((Below.refl _ _).alloc (Nat.le_refl _) _).alloc (by simp) _⟩)
    · rw [if_neg c1] at eN
      have d1 : (a1 != b1) = true := by simp [c1]
      subst eN
      go_enter Try.func11, Try.ntmps11
      go_wp2
      go_ret
      exact ⟨rfl, ((Below.refl _ _).alloc (Nat.le_refl _) _).alloc (by simp) _⟩
  exact fin _ rfl
end Go.Proofs.Ytgkljhkmigapmaa
