import Derived.Test.YtkpmdcmgcdnpfaaKeys
namespace Go.Proofs.Ytkpmdcmgcdnpfaa
open Go.RowKit
set_option linter.unusedVariables false

/-- Keys that are valid. -/
def kok (k : K4) : Prop := k.a.length = 16 ∧ k.b.length = 16 ∧ k.c.length = 8 ∧ k.d.length = 16
theorem kok_yes (a0 a1 a2 a3 : Option Addr) (n0 n1 n2 n3 p0 p1 p2 p3 : Nat) (w : World) (h0 : n0 = 16) (h1 : n1 = 16) (h2 : n2 = 8) (h3 : n3 = 16) :
    Calls Try.prog 41 #[.agg #[.slice a0 n0 p0, .slice a1 n1 p1, .slice a2 n2 p2, .slice a3 n3 p3]] w fun e w' => e = .returned (.bool true) ∧ Below w.heap.size w w' := by
  subst h0
  subst h1
  subst h2
  subst h3
  go_enter Try.func41, Try.ntmps41
  go_wp2
  go_ret
  exact ⟨rfl, (Below.refl _ _).alloc (Nat.le_refl _) _⟩
theorem kok_no0 (a0 a1 a2 a3 : Option Addr) (n0 n1 n2 n3 p0 p1 p2 p3 : Nat) (w : World) (h0 : n0 ≠ 16) :
    Calls Try.prog 41 #[.agg #[.slice a0 n0 p0, .slice a1 n1 p1, .slice a2 n2 p2, .slice a3 n3 p3]] w fun e w' => e = .returned (.bool false) ∧ Below w.heap.size w w' := by
  have e0 : ((n0 : Int) == 16) = false := by rw [beq_eq_false_iff_ne]; omega
  go_enter Try.func41, Try.ntmps41
  go_wp2
  go_ret
  exact ⟨rfl, (Below.refl _ _).alloc (Nat.le_refl _) _⟩
theorem kok_no1 (a0 a1 a2 a3 : Option Addr) (n0 n1 n2 n3 p0 p1 p2 p3 : Nat) (w : World) (h0 : n0 = 16) (h1 : n1 ≠ 16) :
    Calls Try.prog 41 #[.agg #[.slice a0 n0 p0, .slice a1 n1 p1, .slice a2 n2 p2, .slice a3 n3 p3]] w fun e w' => e = .returned (.bool false) ∧ Below w.heap.size w w' := by
  subst h0
  have e1 : ((n1 : Int) == 16) = false := by rw [beq_eq_false_iff_ne]; omega
  go_enter Try.func41, Try.ntmps41
  go_wp2
  go_ret
  exact ⟨rfl, (Below.refl _ _).alloc (Nat.le_refl _) _⟩
theorem kok_no2 (a0 a1 a2 a3 : Option Addr) (n0 n1 n2 n3 p0 p1 p2 p3 : Nat) (w : World) (h0 : n0 = 16) (h1 : n1 = 16) (h2 : n2 ≠ 8) :
    Calls Try.prog 41 #[.agg #[.slice a0 n0 p0, .slice a1 n1 p1, .slice a2 n2 p2, .slice a3 n3 p3]] w fun e w' => e = .returned (.bool false) ∧ Below w.heap.size w w' := by
  subst h0
  subst h1
  have e2 : ((n2 : Int) == 8) = false := by rw [beq_eq_false_iff_ne]; omega
  go_enter Try.func41, Try.ntmps41
  go_wp2
  go_ret
  exact ⟨rfl, (Below.refl _ _).alloc (Nat.le_refl _) _⟩
theorem kok_no3 (a0 a1 a2 a3 : Option Addr) (n0 n1 n2 n3 p0 p1 p2 p3 : Nat) (w : World) (h0 : n0 = 16) (h1 : n1 = 16) (h2 : n2 = 8) (h3 : n3 ≠ 16) :
    Calls Try.prog 41 #[.agg #[.slice a0 n0 p0, .slice a1 n1 p1, .slice a2 n2 p2, .slice a3 n3 p3]] w fun e w' => e = .returned (.bool false) ∧ Below w.heap.size w w' := by
  subst h0
  subst h1
  subst h2
  have e3 : ((n3 : Int) == 16) = false := by rw [beq_eq_false_iff_ne]; omega
  go_enter Try.func41, Try.ntmps41
  go_wp2
  go_ret
  exact ⟨rfl, (Below.refl _ _).alloc (Nat.le_refl _) _⟩
theorem kok_true (v : Value) (k : K4) (w : World) (h : KRow w v k) (hk : kok k) : Calls Try.prog 41 #[v] w fun e w' => e = .returned (.bool true) ∧ Below w.heap.size w w' := by
  obtain ⟨v0, v1, v2, v3, rfl, r0, r1, r2, r3⟩ := h
  obtain ⟨a0, p0, rfl⟩ := r0.form
  obtain ⟨a1, p1, rfl⟩ := r1.form
  obtain ⟨a2, p2, rfl⟩ := r2.form
  obtain ⟨a3, p3, rfl⟩ := r3.form
  exact kok_yes a0 a1 a2 a3 _ _ _ _ p0 p1 p2 p3 w hk.1 hk.2.1 hk.2.2.1 hk.2.2.2
theorem kok_false (v : Value) (k : K4) (w : World) (h : KRow w v k) (hk : ¬ kok k) : Calls Try.prog 41 #[v] w fun e w' => e = .returned (.bool false) ∧ Below w.heap.size w w' := by
  obtain ⟨v0, v1, v2, v3, rfl, r0, r1, r2, r3⟩ := h
  obtain ⟨a0, p0, rfl⟩ := r0.form
  obtain ⟨a1, p1, rfl⟩ := r1.form
  obtain ⟨a2, p2, rfl⟩ := r2.form
  obtain ⟨a3, p3, rfl⟩ := r3.form
  by_cases h0 : k.a.length = 16
  · by_cases h1 : k.b.length = 16
    · by_cases h2 : k.c.length = 8
      · exact kok_no3 a0 a1 a2 a3 _ _ _ _ p0 p1 p2 p3 w h0 h1 h2 (fun h3 => hk ⟨h0, h1, h2, h3⟩)
      · exact kok_no2 a0 a1 a2 a3 _ _ _ _ p0 p1 p2 p3 w h0 h1 h2
    · exact kok_no1 a0 a1 a2 a3 _ _ _ _ p0 p1 p2 p3 w h0 h1
  · exact kok_no0 a0 a1 a2 a3 _ _ _ _ p0 p1 p2 p3 w h0
end Go.Proofs.Ytkpmdcmgcdnpfaa
