import Derived.Test.YtlmfgnjampeckaaMarkR
namespace Go.Proofs.Ytlmfgnjampeckaa
open Go.RowKit
set_option linter.unusedVariables false

theorem ROwns.apart {w1 w2 : World} {b1 b2 : Nat} {v1 v2 : Value} {R1 R2 : List (Int × Int)} (h1 : ROwns w1 b1 v1 R1) (h2 : ROwns w2 b2 v2 R2) (hs : w1.heap.size ≤ b2) : ∀ k, v2.ownBlock = some k → some k ≠ v1.ownBlock := by
  obtain ⟨z1, o1, _⟩ := h1
  obtain ⟨z2, o2, _⟩ := h2
  intro k hk hk1
  replace hk1 := hk1.symm
  have := (o1.lt k hk1).2
  have := (o2.lt k hk).1
  omega

set_option maxRecDepth 20000 in
set_option maxHeartbeats 4000000 in
theorem fnExactRangesAdd_of (v : Value) (R : List (Int × Int)) (n : Int) (sm : R.length ≤ maxLen) (w : World) (row : RRow w v R) (both : R.length ≤ 1048576 → ∃ (Y : List (Int × Int)) (c : Int), Y.length ≤ 1048576 ∧ (∀ v w, RRow w v R → Calls Try.prog 13 #[v, .int .i64 n] w fun e w' => ∃ r, e = .returned (.tuple #[r, .int .i64 c]) ∧ ROwns w' w.heap.size r Y ∧ Below w.heap.size w w') ∧ (∀ v w, RRow w v R → Calls Try.prog 14 #[v, .int .i64 n] w fun e w' => ∃ r, e = .returned (.tuple #[r, .int .i64 c]) ∧ ROwns w' w.heap.size r Y ∧ Below w.heap.size w w')) :
    Calls Try.prog 4 #[v, .int .i64 n] w fun e w' => e = .returned (.bool true) ∧ Below w.heap.size w w' := by
  by_cases hf : R.length ≤ 1048576
  case neg =>
    have C := szRng_over v R 1048576 w row (by decide) (Nat.le_trans sm (by decide)) (by omega)
    obtain ⟨ao, cp, rfl⟩ := row.form
    have HC : Hid _ := And.intro C True.intro
    clear C row sm both hf
    go_enter Try.func4, Try.ntmps4
    go_wp2_with fail
    go_at_call 8
    refine HC.out.1.mono ?_
    rintro e w1 ⟨rfl, hw⟩
    subst w1
    go_wp2
    go_ret
    exact ⟨rfl, Below.refl _ _⟩
  case pos =>
    obtain ⟨Y, c, hY, hS, hI⟩ := both hf
    have C := szRng_fit v R 1048576 w row (by decide) (by omega)
    obtain ⟨lt, el⟩ : ∃ lt : Int, lt = 1048576 - (R.length : Int) := ⟨_, rfl⟩
    rw [← el] at C
    have hl : ¬ (lt < 0) := by omega
    have hcc : (c != c) = false := by simp
    have HH : Hid _ := And.intro row (And.intro hf (And.intro hS (And.intro hI (And.intro C hY))))
    obtain ⟨K, eK⟩ : ∃ K : Int, K = 1 + 2 * (R.length : Int) := ⟨_, rfl⟩
    obtain ⟨M, eM⟩ : ∃ M : Int, M = 1 + 2 * (Y.length : Int) := ⟨_, rfl⟩
    have hK : ¬ (K < 0) := by omega
    have hM : ¬ (M < 0) := by omega
    have hMM : (M != M) = false := by simp
    have EK : Hid _ := And.intro eK eM
    obtain ⟨ao, cp, rfl⟩ := row.form
    clear row sm both hf hS hI C el hY eK eM
    go_enter Try.func4, Try.ntmps4
    go_wp2_with fail
    go_at_call 8
    refine HH.out.2.2.2.2.1.mono ?_
    rintro e w0 ⟨rfl, hw⟩
    subst w0
    go_wp2_with fail
    go_at_call 10
    refine (toRngs _ R w HH.out.1 HH.out.2.1).mono ?_
    rintro e w1 ⟨r1, rfl, o1, b1⟩
    have B1 : Hid _ := And.intro b1 o1.row
    clear b1 o1
    go_wp2_with fail
    go_at_call 13
    refine (HH.out.2.2.1 _ _ B1.out.2).mono ?_
    rintro e w2 ⟨rS, rfl, oS, b2⟩
    have B2 : Hid _ := And.intro (B1.out.1.trans (b2.mono B1.out.1.size)) oS.row
    clear b2 oS
    go_wp2_with fail
    go_at_call 10
    refine (toRngs _ R w2 (HH.out.1.below B2.out.1) HH.out.2.1).mono ?_
    rintro e w3 ⟨x0, rfl, oX, b3⟩
    have B3 : Hid _ := And.intro (B2.out.1.trans (b3.mono B2.out.1.size)) (And.intro oX b3)
    clear b3 oX
    go_wp2_with fail
    go_at_call 14
    refine (HH.out.2.2.2.1 _ _ B3.out.2.1.row).mono ?_
    rintro e w4 ⟨g0, rfl, oG, b4⟩
    have B4 : Hid _ := And.intro (B3.out.2.2.trans (b4.mono B3.out.2.2.size)) (And.intro oG b4)
    clear b4 oG
    go_wp2_with fail
    go_at_call 12
    refine (eqRngs _ _ Y w4 B4.out.2.1.row (B2.out.2.below B4.out.1) HH.out.2.2.2.2.2).mono ?_
    rintro e w5 ⟨rfl, b5⟩
    have B5 : Hid _ := And.intro (B4.out.1.trans (b5.mono B4.out.1.size)) (And.intro (B4.out.2.1.below b5) (B4.out.2.2.trans (b5.mono B4.out.2.2.size)))
    clear b5
    go_wp2_with fail
    go_at_call 10
    refine (toRngs _ R w5 (HH.out.1.below (B2.out.1.trans (B5.out.1.mono B2.out.1.size))) HH.out.2.1).mono ?_
    rintro e w6 ⟨r6, rfl, o6, b6⟩
    have B6 : Hid _ := And.intro (B5.out.1.trans (b6.mono B5.out.1.size)) (And.intro (B5.out.2.1.below b6) (And.intro (B3.out.2.1.below (B5.out.2.2.trans (b6.mono B5.out.2.2.size))) o6.row))
    clear b6 o6
    go_wp2_with fail
    go_at_call 12
    refine (eqRngs _ _ R w6 B6.out.2.2.1.row B6.out.2.2.2 HH.out.2.1).mono ?_
    rintro e w7 ⟨rfl, b7⟩
    have B7 : Hid _ := And.intro (B6.out.1.trans (b7.mono B6.out.1.size)) (And.intro (B6.out.2.1.below b7) (B6.out.2.2.1.below b7))
    clear b7
    go_wp2_with fail
    go_at_call 15
    refine (markRngs 1 w2.heap.size _ R w7 (Nat.le_trans HH.out.2.1 (by decide)) (by decide) (by decide) B7.out.2.2).mono ?_
    rintro e w8 ⟨rfl, oX8, b8, z8, n8⟩
    have B8 : Hid _ := And.intro (B7.out.1.trans b8) (ROwns.only n8 B7.out.2.1 (ROwns.apart B3.out.2.1 B4.out.2.1 (Nat.le_refl _)))
    clear b8 oX8 z8 n8
    rw [← EK.out.1]
    go_wp2_with fail
    go_at_call 12
    refine (eqRngs _ _ Y w8 B8.out.2.row (B2.out.2.below B8.out.1) HH.out.2.2.2.2.2).mono ?_
    rintro e w9 ⟨rfl, b9⟩
    have B9 : Hid _ := And.intro (B8.out.1.trans (b9.mono B8.out.1.size)) (B8.out.2.below b9)
    clear b9
    go_wp2_with fail
    go_at_call 15
    refine (markRngs 1 w3.heap.size _ Y w9 (Nat.le_trans HH.out.2.2.2.2.2 (by decide)) (by decide) (by decide) B9.out.2).mono ?_
    rintro e w10 ⟨rfl, oG10, b10, z10, n10⟩
    have B10 : Hid _ := And.intro (B9.out.1.trans (b10.mono B3.out.2.2.size)) oG10
    clear b10 z10 n10 oG10
    rw [← EK.out.2]
    go_wp2_with fail
    go_at_call 16
    refine (heldRngs 1 Y.length _ w10 B10.out.2.row (Nat.le_trans HH.out.2.2.2.2.2 (by decide)) (by decide) (by decide)).mono ?_
    rintro e w11 ⟨rfl, hw⟩
    subst w11
    rw [← EK.out.2]
    go_wp2_with fail
    go_at_call 10
    refine (toRngs _ R w10 (HH.out.1.below (B2.out.1.trans (B10.out.1.mono B2.out.1.size))) HH.out.2.1).mono ?_
    rintro e w12 ⟨r12, rfl, o12, b12⟩
    have B12 : Hid _ := And.intro (B10.out.1.trans (b12.mono B10.out.1.size)) (And.intro (B10.out.2.below b12) o12.row)
    clear b12 o12
    go_wp2_with fail
    go_at_call 14
    refine (HH.out.2.2.2.1 _ _ B12.out.2.2).mono ?_
    rintro e w13 ⟨h0, rfl, oH, b13⟩
    have B13 : Hid _ := And.intro (B12.out.1.trans (b13.mono B12.out.1.size)) (And.intro (B12.out.2.1.below b13) oH.row)
    clear b13 oH
    go_wp2_with fail
    go_at_call 12
    refine (eqRngs _ _ Y w13 B13.out.2.2 (B2.out.2.below B13.out.1) HH.out.2.2.2.2.2).mono ?_
    rintro e w14 ⟨rfl, b14⟩
    have B14 : Hid _ := And.intro (B13.out.1.trans (b14.mono B13.out.1.size)) (B13.out.2.1.below b14)
    clear b14
    go_wp2_with fail
    go_at_call 16
    refine (heldRngs 1 Y.length _ w14 B14.out.2.row (Nat.le_trans HH.out.2.2.2.2.2 (by decide)) (by decide) (by decide)).mono ?_
    rintro e w15 ⟨rfl, hw⟩
    subst w15
    rw [← EK.out.2]
    go_wp2
    go_ret
    exact ⟨rfl, B2.out.1.trans (B14.out.1.mono B2.out.1.size)⟩
set_option maxRecDepth 20000 in
set_option maxHeartbeats 4000000 in
theorem fnExactRangesFrom_of (v : Value) (R : List (Int × Int)) (n : Int) (sm : R.length ≤ maxLen) (w : World) (row : RRow w v R) (both : R.length ≤ 1048576 → ∃ (Y : List (Int × Int)) (c : Int), Y.length ≤ 1048576 ∧ (∀ v w, RRow w v R → Calls Try.prog 17 #[v, .int .i64 n] w fun e w' => ∃ r, e = .returned (.tuple #[r, .int .i64 c]) ∧ ROwns w' w.heap.size r Y ∧ Below w.heap.size w w') ∧ (∀ v w, RRow w v R → Calls Try.prog 18 #[v, .int .i64 n] w fun e w' => ∃ r, e = .returned (.tuple #[r, .int .i64 c]) ∧ ROwns w' w.heap.size r Y ∧ Below w.heap.size w w')) :
    Calls Try.prog 5 #[v, .int .i64 n] w fun e w' => e = .returned (.bool true) ∧ Below w.heap.size w w' := by
  by_cases hf : R.length ≤ 1048576
  case neg =>
    have C := szRng_over v R 1048576 w row (by decide) (Nat.le_trans sm (by decide)) (by omega)
    obtain ⟨ao, cp, rfl⟩ := row.form
    have HC : Hid _ := And.intro C True.intro
    clear C row sm both hf
    go_enter Try.func5, Try.ntmps5
    go_wp2_with fail
    go_at_call 8
    refine HC.out.1.mono ?_
    rintro e w1 ⟨rfl, hw⟩
    subst w1
    go_wp2
    go_ret
    exact ⟨rfl, Below.refl _ _⟩
  case pos =>
    obtain ⟨Y, c, hY, hS, hI⟩ := both hf
    have C := szRng_fit v R 1048576 w row (by decide) (by omega)
    obtain ⟨lt, el⟩ : ∃ lt : Int, lt = 1048576 - (R.length : Int) := ⟨_, rfl⟩
    rw [← el] at C
    have hl : ¬ (lt < 0) := by omega
    have hcc : (c != c) = false := by simp
    have HH : Hid _ := And.intro row (And.intro hf (And.intro hS (And.intro hI (And.intro C hY))))
    obtain ⟨K, eK⟩ : ∃ K : Int, K = 1 + 2 * (R.length : Int) := ⟨_, rfl⟩
    obtain ⟨M, eM⟩ : ∃ M : Int, M = 1 + 2 * (Y.length : Int) := ⟨_, rfl⟩
    have hK : ¬ (K < 0) := by omega
    have hM : ¬ (M < 0) := by omega
    have hMM : (M != M) = false := by simp
    have EK : Hid _ := And.intro eK eM
    obtain ⟨ao, cp, rfl⟩ := row.form
    clear row sm both hf hS hI C el hY eK eM
    go_enter Try.func5, Try.ntmps5
    go_wp2_with fail
    go_at_call 8
    refine HH.out.2.2.2.2.1.mono ?_
    rintro e w0 ⟨rfl, hw⟩
    subst w0
    go_wp2_with fail
    go_at_call 10
    refine (toRngs _ R w HH.out.1 HH.out.2.1).mono ?_
    rintro e w1 ⟨r1, rfl, o1, b1⟩
    have B1 : Hid _ := And.intro b1 o1.row
    clear b1 o1
    go_wp2_with fail
    go_at_call 17
    refine (HH.out.2.2.1 _ _ B1.out.2).mono ?_
    rintro e w2 ⟨rS, rfl, oS, b2⟩
    have B2 : Hid _ := And.intro (B1.out.1.trans (b2.mono B1.out.1.size)) oS.row
    clear b2 oS
    go_wp2_with fail
    go_at_call 10
    refine (toRngs _ R w2 (HH.out.1.below B2.out.1) HH.out.2.1).mono ?_
    rintro e w3 ⟨x0, rfl, oX, b3⟩
    have B3 : Hid _ := And.intro (B2.out.1.trans (b3.mono B2.out.1.size)) (And.intro oX b3)
    clear b3 oX
    go_wp2_with fail
    go_at_call 18
    refine (HH.out.2.2.2.1 _ _ B3.out.2.1.row).mono ?_
    rintro e w4 ⟨g0, rfl, oG, b4⟩
    have B4 : Hid _ := And.intro (B3.out.2.2.trans (b4.mono B3.out.2.2.size)) (And.intro oG b4)
    clear b4 oG
    go_wp2_with fail
    go_at_call 12
    refine (eqRngs _ _ Y w4 B4.out.2.1.row (B2.out.2.below B4.out.1) HH.out.2.2.2.2.2).mono ?_
    rintro e w5 ⟨rfl, b5⟩
    have B5 : Hid _ := And.intro (B4.out.1.trans (b5.mono B4.out.1.size)) (And.intro (B4.out.2.1.below b5) (B4.out.2.2.trans (b5.mono B4.out.2.2.size)))
    clear b5
    go_wp2_with fail
    go_at_call 10
    refine (toRngs _ R w5 (HH.out.1.below (B2.out.1.trans (B5.out.1.mono B2.out.1.size))) HH.out.2.1).mono ?_
    rintro e w6 ⟨r6, rfl, o6, b6⟩
    have B6 : Hid _ := And.intro (B5.out.1.trans (b6.mono B5.out.1.size)) (And.intro (B5.out.2.1.below b6) (And.intro (B3.out.2.1.below (B5.out.2.2.trans (b6.mono B5.out.2.2.size))) o6.row))
    clear b6 o6
    go_wp2_with fail
    go_at_call 12
    refine (eqRngs _ _ R w6 B6.out.2.2.1.row B6.out.2.2.2 HH.out.2.1).mono ?_
    rintro e w7 ⟨rfl, b7⟩
    have B7 : Hid _ := And.intro (B6.out.1.trans (b7.mono B6.out.1.size)) (And.intro (B6.out.2.1.below b7) (B6.out.2.2.1.below b7))
    clear b7
    go_wp2_with fail
    go_at_call 15
    refine (markRngs 1 w2.heap.size _ R w7 (Nat.le_trans HH.out.2.1 (by decide)) (by decide) (by decide) B7.out.2.2).mono ?_
    rintro e w8 ⟨rfl, oX8, b8, z8, n8⟩
    have B8 : Hid _ := And.intro (B7.out.1.trans b8) (ROwns.only n8 B7.out.2.1 (ROwns.apart B3.out.2.1 B4.out.2.1 (Nat.le_refl _)))
    clear b8 oX8 z8 n8
    rw [← EK.out.1]
    go_wp2_with fail
    go_at_call 12
    refine (eqRngs _ _ Y w8 B8.out.2.row (B2.out.2.below B8.out.1) HH.out.2.2.2.2.2).mono ?_
    rintro e w9 ⟨rfl, b9⟩
    have B9 : Hid _ := And.intro (B8.out.1.trans (b9.mono B8.out.1.size)) (B8.out.2.below b9)
    clear b9
    go_wp2_with fail
    go_at_call 15
    refine (markRngs 1 w3.heap.size _ Y w9 (Nat.le_trans HH.out.2.2.2.2.2 (by decide)) (by decide) (by decide) B9.out.2).mono ?_
    rintro e w10 ⟨rfl, oG10, b10, z10, n10⟩
    have B10 : Hid _ := And.intro (B9.out.1.trans (b10.mono B3.out.2.2.size)) oG10
    clear b10 z10 n10 oG10
    rw [← EK.out.2]
    go_wp2_with fail
    go_at_call 16
    refine (heldRngs 1 Y.length _ w10 B10.out.2.row (Nat.le_trans HH.out.2.2.2.2.2 (by decide)) (by decide) (by decide)).mono ?_
    rintro e w11 ⟨rfl, hw⟩
    subst w11
    rw [← EK.out.2]
    go_wp2_with fail
    go_at_call 10
    refine (toRngs _ R w10 (HH.out.1.below (B2.out.1.trans (B10.out.1.mono B2.out.1.size))) HH.out.2.1).mono ?_
    rintro e w12 ⟨r12, rfl, o12, b12⟩
    have B12 : Hid _ := And.intro (B10.out.1.trans (b12.mono B10.out.1.size)) (And.intro (B10.out.2.below b12) o12.row)
    clear b12 o12
    go_wp2_with fail
    go_at_call 18
    refine (HH.out.2.2.2.1 _ _ B12.out.2.2).mono ?_
    rintro e w13 ⟨h0, rfl, oH, b13⟩
    have B13 : Hid _ := And.intro (B12.out.1.trans (b13.mono B12.out.1.size)) (And.intro (B12.out.2.1.below b13) oH.row)
    clear b13 oH
    go_wp2_with fail
    go_at_call 12
    refine (eqRngs _ _ Y w13 B13.out.2.2 (B2.out.2.below B13.out.1) HH.out.2.2.2.2.2).mono ?_
    rintro e w14 ⟨rfl, b14⟩
    have B14 : Hid _ := And.intro (B13.out.1.trans (b14.mono B13.out.1.size)) (B13.out.2.1.below b14)
    clear b14
    go_wp2_with fail
    go_at_call 16
    refine (heldRngs 1 Y.length _ w14 B14.out.2.row (Nat.le_trans HH.out.2.2.2.2.2 (by decide)) (by decide) (by decide)).mono ?_
    rintro e w15 ⟨rfl, hw⟩
    subst w15
    rw [← EK.out.2]
    go_wp2
    go_ret
    exact ⟨rfl, B2.out.1.trans (B14.out.1.mono B2.out.1.size)⟩
end Go.Proofs.Ytlmfgnjampeckaa
