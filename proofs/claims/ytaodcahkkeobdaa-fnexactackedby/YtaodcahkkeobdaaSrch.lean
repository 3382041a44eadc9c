import Derived.Test.YtaodcahkkeobdaaRngOK
namespace Go.Proofs.Ytaodcahkkeobdaa
open Go.RowKit
set_option linter.unusedVariables false

theorem half64 (a c : Nat) (h : a + c ≤ 4194304) : IntKind.i64.wrap ((a : Int) + (c : Int)) = (a : Int) + (c : Int) := by rw [IntKind.wrap_i64]; omega

theorem endClo (gl gn b off cp m : Nat) (R : List (Int × Int)) (n : Int) (i : Nat) (hi : i < m) (hm : m ≤ 1048576) (w : World) (hl : w.cell? ⟨gl, 0, none⟩ = some (.slice (some ⟨b, off, none⟩) m cp)) (hn : w.cell? ⟨gn, 0, none⟩ = some (.int .i64 n)) (hc : w.cell? ⟨b, off + i * 2 + 1, none⟩ = some (.int .i64 (rhi R i))) :
    Calls Try.prog 50 #[.int .i64 (i : Int), .pointer (some ⟨gl, 0, none⟩), .pointer (some ⟨gn, 0, none⟩)] w fun e w' => e = .returned (.bool (decide (n ≤ rhi R i))) ∧ Below w.heap.size w w' := by
  obtain ⟨y, ey⟩ : ∃ y, y = rhi R i := ⟨_, rfl⟩
  rw [← ey] at hc ⊢
  clear ey
  go_enter Try.func50, Try.ntmps50
  go_wp2_with fail
  go_quiet (fail)
  go_wp2
  go_ret
  exact ⟨rfl, below_drewN (Below.refl _ _) _⟩
set_option maxRecDepth 20000 in
set_option maxHeartbeats 2000000 in
theorem endSearch (p : Nat → Bool) (m : Nat) (hm : m ≤ 1048576) (c1 c2 : Value) (w : World)
    (hC : ∀ i, i < m → ∀ w', Below w.heap.size w w' → Calls Try.prog 50 #[.int .i64 (i : Int), c1, c2] w' fun e w'' => e = .returned (.bool (p i)) ∧ Below w'.heap.size w' w'')
    (mono : ∀ i j, i ≤ j → j < m → p i = true → p j = true) :
    Calls Try.prog 49 #[.int .i64 (m : Int), .func (.func 50) #[] #[c1, c2]] w fun e w' => ∃ k : Nat, k ≤ m ∧ e = .returned (.int .i64 (k : Int)) ∧ (∀ j, j < k → p j = false) ∧ (∀ j, k ≤ j → j < m → p j = true) ∧ Below w.heap.size w w' := by
  have HH : Hid _ := And.intro hC mono
  clear hC mono
  go_enter Try.func49, Try.ntmps49
  go_wp2_with fail
  go_loopg [5, 6] m (fun q x y wr => ∃ a c : Nat, a ≤ c ∧ c ≤ m ∧ q = c - a ∧ x = .int .i64 (a : Int) ∧ y = .int .i64 (c : Int) ∧ (∀ j, j < a → p j = false) ∧ (∀ j, c ≤ j → j < m → p j = true) ∧ Below w.heap.size w wr)
  case atStart => exact ⟨0, m, by omega, Nat.le_refl _, by omega, rfl, rfl, fun j hj => by omega, fun j h1 h2 => by omega, Below.refl _ _⟩
  case round =>
    obtain ⟨a, c, hac, hcm, hq, rfl, rfl, hlo, hhi, bw⟩ := hrel
    by_cases hlt : a < c
    · have hw := half64 a c (by omega)
      obtain ⟨h, eh⟩ : ∃ h, h = (a + c) / 2 := ⟨_, rfl⟩
      have hac2 : ((a : Int) + (c : Int)) / 2 = (h : Int) := by omega
      have CL := HH.out.1 h (by omega) wr bw
      have H2 : Hid _ := And.intro CL (And.intro eh (And.intro hlo (And.intro hhi bw)))
      clear CL eh hlo hhi bw
      cases hp : p h with
      | true =>
        rw [hp] at H2
        go_wp2_with (go_at_call 50; refine H2.out.1.mono ?_; rintro e w2 ⟨rfl, b2⟩)
        have H3 : Hid _ := And.intro b2 True.intro
        clear b2
        go_roundg (h - a)
        case measure => have := H2.out.2.1; omega
        case rel => exact ⟨a, h, by have := H2.out.2.1; omega, by have := H2.out.2.1; omega, rfl, rfl, by go_num, H2.out.2.2.1, fun j h1 h2 => HH.out.2 h j h1 h2 hp, H2.out.2.2.2.2.trans (H3.out.1.mono H2.out.2.2.2.2.size)⟩
      | false =>
        rw [hp] at H2
        go_wp2_with (go_at_call 50; refine H2.out.1.mono ?_; rintro e w2 ⟨rfl, b2⟩)
        have H3 : Hid _ := And.intro b2 True.intro
        clear b2
        go_roundg (c - (h + 1))
        case measure => have := H2.out.2.1; omega
        case rel => exact ⟨h + 1, c, by have := H2.out.2.1; omega, by omega, rfl, by go_num, rfl, fun j hj => by
          cases hj2 : p j with
          | false => rfl
          | true => exact absurd (HH.out.2 j h (by omega) (by have := H2.out.2.1; omega) hj2) (by rw [hp]; decide), H2.out.2.2.2.1, H2.out.2.2.2.2.trans (H3.out.1.mono H2.out.2.2.2.2.size)⟩
    · obtain rfl : a = c := by omega
      have H2 : Hid _ := And.intro hlo (And.intro hhi bw)
      clear hlo hhi bw
      go_wp2
      go_ret
      exact ⟨a, hcm, rfl, H2.out.1, H2.out.2.1, H2.out.2.2⟩
end Go.Proofs.Ytaodcahkkeobdaa
