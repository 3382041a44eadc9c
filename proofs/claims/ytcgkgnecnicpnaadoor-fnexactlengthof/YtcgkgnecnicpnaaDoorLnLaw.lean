import Derived.Test.YtcgkgnecnicpnaaDoorLnD
namespace Go.Proofs.YtcgkgnecnicpnaaDoor
open Go.RowKit
set_option linter.unusedVariables false

set_option maxRecDepth 20000 in
set_option maxHeartbeats 1000000 in
theorem fnExactLengthOf_of (v : Value) (R : List SField) (sm : R.length ≤ maxLen) (fn : fin R) (w : World) (row : GRow 2 w v (SField.L R)) (both : (R.length : Int) + txs R ≤ 1048576 → ∃ s c : Int, (∀ v w, GRow 2 w v (SField.L R) → Calls Tryd.prog 5 #[v] w fun e w' => e = .returned (.tuple #[.int .i64 s, .int .i64 c]) ∧ Below w.heap.size w w') ∧ (∀ v w, GRow 2 w v (SField.L R) → Calls Tryd.prog 7 #[v] w fun e w' => e = .returned (.tuple #[.int .i64 s, .int .i64 c]) ∧ Below w.heap.size w w')) :
    Calls Tryd.prog 3 #[v] w fun e w' => e = .returned (.bool true) ∧ Below w.heap.size w w' := by
  by_cases hf : (R.length : Int) + txs R ≤ 1048576
  case neg =>
    have C := szFldS v R 1048576 (-1) w row (Nat.le_trans sm (by decide)) (by decide) (by decide) fn (by rw [if_neg hf])
    obtain ⟨ao, cp, rfl⟩ := frow_form row
    obtain ⟨n, en⟩ : ∃ n, n = R.length := ⟨_, rfl⟩
    rw [← en] at C ⊢
    have HC : Hid _ := And.intro C True.intro
    clear C row sm both hf fn en
    go_enter Tryd.func3, Tryd.ntmps3
    go_wp2_with fail
    go_at_call 4
    refine HC.out.1.mono ?_
    rintro e w1 ⟨rfl, hw⟩
    have HW : Hid _ := And.intro hw True.intro
    clear hw
    go_wp2
    go_ret
    exact ⟨rfl, HW.out.1⟩
  case pos =>
    obtain ⟨s, c, hS, hI⟩ := both hf
    have hn : R.length ≤ 1048576 := by have := txs_nn R; omega
    obtain ⟨ao, cp, ev⟩ := frow_form row
    have C := szFldS v R 1048576 (1048576 - (R.length + txs R)) w row (by omega) (by decide) (by decide) fn (by rw [if_pos hf])
    obtain ⟨lt, el⟩ : ∃ lt : Int, lt = 1048576 - ((R.length : Int) + txs R) := ⟨_, rfl⟩
    rw [← el] at C
    have hl : ¬ (lt < 0) := by omega
    have hss : (s != s) = false := by simp
    have hcc : (c != c) = false := by simp
    have HH : Hid _ := And.intro row (And.intro hn (And.intro hS (And.intro hI C)))
    subst ev
    have HN : Hid (R.length ≤ 1048576) := hn
    obtain ⟨n, en⟩ : ∃ n, n = R.length := ⟨_, rfl⟩
    rw [← en] at HH ⊢
    clear row sm both hf hS hI C el fn hn en
    go_enter Tryd.func3, Tryd.ntmps3
    go_wp2_with fail
    go_at_call 4
    refine HH.out.2.2.2.2.mono ?_
    rintro e w1 ⟨rfl, hw⟩
    have HW : Hid _ := And.intro hw True.intro
    clear hw
    go_wp2_with fail
    go_at_call 6
    refine (toFieldS _ R w1 (HH.out.1.below HW.out.1) HN.out).mono ?_
    rintro e w2 ⟨r1, rfl, o2, b2⟩
    have B2 : Hid _ := And.intro (HW.out.1.trans (b2.mono HW.out.1.size)) o2.row
    clear b2 o2
    go_wp2_with fail
    go_at_call 5
    refine (HH.out.2.2.1 _ _ B2.out.2).mono ?_
    rintro e w3 ⟨rfl, b3⟩
    have B3 : Hid _ := And.intro (B2.out.1.trans (b3.mono B2.out.1.size)) True.intro
    clear b3
    go_wp2_with fail
    go_at_call 6
    refine (toFieldS _ R w3 (HH.out.1.below B3.out.1) HN.out).mono ?_
    rintro e w4 ⟨r2, rfl, o4, b4⟩
    have B4 : Hid _ := And.intro (B3.out.1.trans (b4.mono B3.out.1.size)) o4.row
    clear b4 o4
    go_wp2_with fail
    go_at_call 7
    refine (HH.out.2.2.2.1 _ _ B4.out.2).mono ?_
    rintro e w5 ⟨rfl, b5⟩
    have B5 : Hid _ := And.intro (B4.out.1.trans (b5.mono B4.out.1.size)) (B4.out.2.below b5)
    clear b5
    go_wp2_with fail
    go_at_call 6
    refine (toFieldS _ R w5 (HH.out.1.below B5.out.1) HN.out).mono ?_
    rintro e w6 ⟨r3, rfl, o6, b6⟩
    have B6 : Hid _ := And.intro (B5.out.1.trans (b6.mono B5.out.1.size)) (And.intro (B5.out.2.below b6) o6.row)
    clear b6 o6
    go_wp2_with fail
    go_at_call 8
    refine (eqFieldS _ _ R w6 B6.out.2.1 B6.out.2.2 HN.out).mono ?_
    rintro e w7 ⟨rfl, b7⟩
    have B7 : Hid _ := And.intro (B6.out.1.trans (b7.mono B6.out.1.size)) True.intro
    clear b7
    go_wp2
    go_ret
    exact ⟨rfl, B7.out.1⟩
theorem fnExactLengthOf_walk (v : Value) (L : List SField) (sm : L.length ≤ maxLen) (fn : fin L) (w : World) (r : GRow 2 w v (SField.L L)) :
    Calls Tryd.prog 3 #[v] w fun e w' => e = .returned (.bool true) ∧ Below w.heap.size w w' :=
  fnExactLengthOf_of v L sm fn w r fun h => ⟨lnV L, lnC L, fun v w hr => (lenS v L w hr (by have := txs_nn L; omega) fn).mono fun e w' h => ⟨h.1, by rw [h.2]; exact Below.refl _ _⟩, fun v w hr => lenI v L w hr (by have := txs_nn L; omega) fn⟩
end Go.Proofs.YtcgkgnecnicpnaaDoor
