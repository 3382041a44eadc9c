import Derived.Test.YtejhobnfhplidaaNsC
namespace Go.Proofs.Ytejhobnfhplidaa
open Go.RowKit
set_option linter.unusedVariables false

set_option maxRecDepth 20000 in
set_option maxHeartbeats 1000000 in
theorem fnExactNextStream_of (v : Value) (R : List SWaiting) (sm : R.length ≤ maxLen) (w : World) (row : GRow 4 w v (SWaiting.L R)) (both : R.length ≤ 1048576 → ∃ s : Int, (∀ v w, GRow 4 w v (SWaiting.L R) → Calls Try.prog 8 #[v] w fun e w' => e = .returned (.int .i64 s) ∧ Below w.heap.size w w') ∧ (∀ v w, GRow 4 w v (SWaiting.L R) → Calls Try.prog 10 #[v] w fun e w' => e = .returned (.int .i64 s) ∧ Below w.heap.size w w')) :
    Calls Try.prog 4 #[v] w fun e w' => e = .returned (.bool true) ∧ Below w.heap.size w w' := by
  by_cases hf : R.length ≤ 1048576
  case neg =>
    have C := fun ao cp => szWaiting_over ao R.length cp 1048576 w (by decide) (Nat.le_trans sm (by decide)) (by omega)
    obtain ⟨ao, cp, rfl⟩ := row.form
    rw [List.length_map] at *
    replace C := C ao cp
    have HC : Hid _ := And.intro C True.intro
    clear C row sm both hf
    go_enter Try.func4, Try.ntmps4
    go_wp2_with fail
    go_at_call 7
    refine HC.out.1.mono ?_
    rintro e w1 ⟨rfl, hw⟩
    subst w1
    go_wp2
    go_ret
    exact ⟨rfl, Below.refl _ _⟩
  case pos =>
    obtain ⟨s, hS, hI⟩ := both hf
    obtain ⟨ao, cp, ev⟩ := row.form
    rw [List.length_map] at ev
    have C := szWaiting_fit ao R.length cp 1048576 w (by decide) (by omega)
    obtain ⟨lt, el⟩ : ∃ lt : Int, lt = 1048576 - (R.length : Int) := ⟨_, rfl⟩
    rw [← el] at C
    have hl : ¬ (lt < 0) := by omega
    have hss : (s != s) = false := by simp
    have HH : Hid _ := And.intro row (And.intro hf (And.intro hS (And.intro hI C)))
    subst ev
    clear row sm both hf hS hI C el
    go_enter Try.func4, Try.ntmps4
    go_wp2_with fail
    go_at_call 7
    refine HH.out.2.2.2.2.mono ?_
    rintro e w1 ⟨rfl, hw⟩
    subst w1
    go_wp2_with fail
    go_at_call 9
    refine (toWaitingS _ R w HH.out.1 HH.out.2.1).mono ?_
    rintro e w2 ⟨r1, rfl, o2, b2⟩
    have B2 : Hid _ := And.intro b2 o2.row
    clear b2 o2
    go_wp2_with fail
    go_at_call 8
    refine (HH.out.2.2.1 _ _ B2.out.2).mono ?_
    rintro e w3 ⟨rfl, b3⟩
    have B3 : Hid _ := And.intro (B2.out.1.trans (b3.mono B2.out.1.size)) True.intro
    clear b3
    go_wp2_with fail
    go_at_call 9
    refine (toWaitingS _ R w3 (HH.out.1.below B3.out.1) HH.out.2.1).mono ?_
    rintro e w4 ⟨r2, rfl, o4, b4⟩
    have B4 : Hid _ := And.intro (B3.out.1.trans (b4.mono B3.out.1.size)) o4.row
    clear b4 o4
    go_wp2_with fail
    go_at_call 10
    refine (HH.out.2.2.2.1 _ _ B4.out.2).mono ?_
    rintro e w5 ⟨rfl, b5⟩
    have B5 : Hid _ := And.intro (B4.out.1.trans (b5.mono B4.out.1.size)) (B4.out.2.below b5)
    clear b5
    go_wp2_with fail
    go_at_call 9
    refine (toWaitingS _ R w5 (HH.out.1.below B5.out.1) HH.out.2.1).mono ?_
    rintro e w6 ⟨r3, rfl, o6, b6⟩
    have B6 : Hid _ := And.intro (B5.out.1.trans (b6.mono B5.out.1.size)) (And.intro (B5.out.2.below b6) o6.row)
    clear b6 o6
    go_wp2_with fail
    go_at_call 11
    refine (eqWaitingS _ _ R w6 B6.out.2.1 B6.out.2.2 HH.out.2.1).mono ?_
    rintro e w7 ⟨rfl, b7⟩
    have B7 : Hid _ := And.intro (B6.out.1.trans (b7.mono B6.out.1.size)) True.intro
    clear b7
    go_wp2
    go_ret
    exact ⟨rfl, B7.out.1⟩
theorem fnExactNextStream_walk (v : Value) (L : List SWaiting) (sm : L.length ≤ maxLen) (w : World) (r : GRow 4 w v (SWaiting.L L)) :
    Calls Try.prog 4 #[v] w fun e w' => e = .returned (.bool true) ∧ Below w.heap.size w w' :=
  fnExactNextStream_of v L sm w r fun h => ⟨nxV L, fun v w hr => nextS v L w hr h, fun v w hr => nextI v L w hr h⟩
end Go.Proofs.Ytejhobnfhplidaa
