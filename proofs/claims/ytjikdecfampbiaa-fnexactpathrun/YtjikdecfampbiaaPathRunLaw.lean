import Derived.Test.YtjikdecfampbiaaFmPathOp
import Derived.Test.YtjikdecfampbiaaFlPathObs
namespace Go.Proofs.Ytjikdecfampbiaa
open Go.RowKit
set_option linter.unusedVariables false

theorem GOwns.high {T : TypeId} {K : Nat} {w w' : World} {B base : Nat} {v : Value} {L : List (List Value)} (hh : ∀ k, B ≤ k → k < w.heap.size → w'.heap[k]? = w.heap[k]?) (h : GOwns T K w base v L) (hb : B ≤ base) : GOwns T K w' base v L := by
  obtain ⟨zs, g, hz⟩ := h
  exact ⟨zs, owns_highB hh g hb, hz⟩
theorem sumB_one {α : Type} [Inhabited α] (m : Nat) (d : α → List Int) (L : List α) (j n : Nat) (h : j < n) : (d (L.getD j default)).length ≤ sumB m d L n := by
  have := sumB_mono m d L (show j + 1 ≤ n by omega)
  simp only [sumB] at this
  omega
theorem sumB_all {α : Type} [Inhabited α] (m : Nat) (d : α → List Int) (L : List α) (n : Nat) : sumB m d L n = m * n + sumB 0 d L n := by
  induction n with
  | zero => simp [sumB]
  | succ n ih => simp only [sumB, ih, Nat.mul_succ]; omega
set_option maxRecDepth 20000 in
set_option maxHeartbeats 4000000 in
theorem fnExactPathRun_of (n : Bool) (v : Value) (R : List SPathOp) (sm : R.length ≤ 9223372036854775807) (sd : ∀ j, j < R.length → (R.getD j default).d.length ≤ 9223372036854775807) (w : World) (row : BRow 4 SPathOp.c SPathOp.d w v R)
    (both : (R.length : Int) + (sumB 0 SPathOp.d R R.length : Int) ≤ 1048576 → ∃ (Y : List SPathObs) (c : Int), (Y.length ≤ 1048576 ∧ True) ∧ (∀ v w', Below w.heap.size w w' → BRow 4 SPathOp.c SPathOp.d w' v R → Calls Try.prog 5 #[.bool n, v] w' fun e w'' => ∃ r, e = .returned (.tuple #[r, .int .i64 c]) ∧ GOwns 41 5 w'' w'.heap.size r (SPathObs.L Y) ∧ Below w'.heap.size w' w'') ∧ (∀ v w', Below w.heap.size w w' → BRow 4 SPathOp.c SPathOp.d w' v R → Calls Try.prog 7 #[.bool n, v] w' fun e w'' => ∃ r, e = .returned (.tuple #[r, .int .i64 c]) ∧ GOwns 41 5 w'' w'.heap.size r (SPathObs.L Y) ∧ Below w'.heap.size w' w'')) :
    Calls Try.prog 3 #[.bool n, v] w fun e w' => e = .returned (.bool true) ∧ Below w.heap.size w w' := by
  have C := szPathOpS v R 1048576 w row (by decide) (by decide) sm sd
  by_cases hf : (R.length : Int) + (sumB 0 SPathOp.d R R.length : Int) ≤ 1048576
  case neg =>
    obtain ⟨ao, cp, rfl⟩ := row.form
    have HC : Hid _ := And.intro C hf
    clear C row sm both hf sd
    go_enter Try.func3, Try.ntmps3
    go_wp2_with fail
    go_at_call 4
    refine HC.out.1.mono ?_
    rintro e w1 ⟨h1 | ⟨_, rfl⟩, b1⟩
    · exact absurd h1.1 (by have := HC.out.2; omega)
    have B1 : Hid _ := And.intro b1 True.intro
    clear b1
    go_wp2
    go_ret
    exact ⟨rfl, B1.out.1⟩
  case pos =>
    obtain ⟨Y, c, hY, hS, hI⟩ := both hf
    obtain ⟨ao, cp, ev⟩ := row.form
    have hf1 : R.length ≤ 1048576 := by omega
    have hf2 : sumB 3 SPathOp.d R R.length ≤ 1099511627776 := by rw [sumB_all]; omega
    obtain ⟨lt, el⟩ : ∃ lt : Int, lt = 1048576 - (R.length : Int) - (sumB 0 SPathOp.d R R.length : Int) := ⟨_, rfl⟩
    rw [← el] at C
    have hl : ¬ (lt < 0) := by omega
    have hcc : (c != c) = false := by simp
    have HH : Hid _ := And.intro row (And.intro hf (And.intro hS (And.intro hI (And.intro C hY))))
    have RD : Hid _ := And.intro (fun j hj => Nat.le_trans (sumB_one 0 SPathOp.d R j R.length hj) (by omega) : ∀ j, j < R.length → (R.getD j default).d.length ≤ 140737488355328) (And.intro hf1 hf2)
    skip
    obtain ⟨K, eK⟩ : ∃ K : Int, K = 1 + (sumB 3 SPathOp.d R R.length : Int) := ⟨_, rfl⟩
    obtain ⟨M, eM⟩ : ∃ M : Int, M = 1 + 5 * (Y.length : Int) := ⟨_, rfl⟩
    have hK : ¬ (K < 0) := by omega
    have hM : ¬ (M < 0) := by omega
    have hMM : (M != M) = false := by simp
    have EK : Hid _ := And.intro eK eM
    subst ev
    clear row sm both hf hS hI C el hY eK eM sd hf1 hf2
    go_enter Try.func3, Try.ntmps3
    go_wp2_with fail
    go_at_call 4
    refine HH.out.2.2.2.2.1.mono ?_
    rintro e w0 ⟨⟨_, rfl⟩ | h1, b0⟩
    rotate_left
    · exact absurd HH.out.2.1 (by have := h1.1; omega)
    have B0 : Hid _ := And.intro b0 True.intro
    clear b0
    go_wp2_with fail
    go_at_call 6
    refine (toPathOpS _ R w0 (HH.out.1.below B0.out.1) RD.out.2.1 RD.out.1).mono ?_
    rintro e w1 ⟨r1, rfl, o1, b1⟩
    have B1 : Hid _ := And.intro (B0.out.1.trans (b1.mono B0.out.1.size)) o1.row
    clear b1 o1
    go_wp2_with fail
    go_at_call 5
    refine (HH.out.2.2.1 _ _ B1.out.1 B1.out.2).mono ?_
    rintro e w2 ⟨rS, rfl, oS, b2⟩
    have B2 : Hid _ := And.intro (B1.out.1.trans (b2.mono B1.out.1.size)) oS.row
    clear b2 oS
    go_wp2_with fail
    go_at_call 6
    refine (toPathOpS _ R w2 (HH.out.1.below B2.out.1) RD.out.2.1 RD.out.1).mono ?_
    rintro e w3 ⟨x0, rfl, oX, b3⟩
    have B3 : Hid _ := And.intro (B2.out.1.trans (b3.mono B2.out.1.size)) (And.intro oX.lo b3)
    clear b3 oX
    go_wp2_with fail
    go_at_call 7
    refine (HH.out.2.2.2.1 _ _ B3.out.1 B3.out.2.1.owns.row).mono ?_
    rintro e w4 ⟨g0, rfl, oG, b4⟩
    have B4 : Hid _ := And.intro (B3.out.2.2.trans (b4.mono B3.out.2.2.size)) (And.intro oG b4)
    clear b4 oG
    go_wp2_with fail
    go_at_call 8
    refine (eqPathObsS _ _ Y w4 (B4.out.2.1.row) (B2.out.2.below B4.out.1) HH.out.2.2.2.2.2.1).mono ?_
    rintro e w5 ⟨rfl, b5⟩
    have B5 : Hid _ := And.intro (B4.out.1.trans (b5.mono B4.out.1.size)) (And.intro (B4.out.2.1.below b5) (B4.out.2.2.trans (b5.mono B4.out.2.2.size)))
    clear b5
    go_wp2_with fail
    go_at_call 6
    refine (toPathOpS _ R w5 (HH.out.1.below (B2.out.1.trans (B5.out.1.mono B2.out.1.size))) RD.out.2.1 RD.out.1).mono ?_
    rintro e w6 ⟨r6, rfl, o6, b6⟩
    have B6 : Hid _ := And.intro (B5.out.1.trans (b6.mono B5.out.1.size)) (And.intro (B5.out.2.1.below b6) (And.intro (B3.out.2.1.below (B5.out.2.2.trans (b6.mono B5.out.2.2.size))) o6.row))
    clear b6 o6
    go_wp2_with fail
    go_at_call 9
    refine (eqPathOpS _ _ R w6 B6.out.2.2.1.owns.row B6.out.2.2.2 RD.out.2.1 RD.out.1).mono ?_
    rintro e w7 ⟨rfl, b7⟩
    have B7 : Hid _ := And.intro (B6.out.1.trans (b7.mono B6.out.1.size)) (And.intro (B6.out.2.1.below b7) (B6.out.2.2.1.below b7))
    clear b7
    go_wp2_with fail
    go_at_call 10
    refine (markPathOpS 1 w2.heap.size w3.heap.size _ R w7 RD.out.2.1 RD.out.2.2 (by decide) (by decide) B7.out.2.2.owns B7.out.2.2).mono ?_
    rintro e w8 ⟨rfl, oX8, b8, z8, n8⟩
    have B8 : Hid _ := And.intro (B7.out.1.trans b8) (GOwns.high n8 (B7.out.2.1) (Nat.le_refl _))
    clear b8 oX8 z8 n8
    rw [← EK.out.1]
    go_wp2_with fail
    go_at_call 8
    refine (eqPathObsS _ _ Y w8 (B8.out.2.row) (B2.out.2.below B8.out.1) HH.out.2.2.2.2.2.1).mono ?_
    rintro e w9 ⟨rfl, b9⟩
    have B9 : Hid _ := And.intro (B8.out.1.trans (b9.mono B8.out.1.size)) (B8.out.2.below b9)
    clear b9
    go_wp2_with fail
    go_at_call 11
    refine (markPathObsS 1 w3.heap.size _ (SPathObs.L Y) w9 (by rw [List.length_map]; exact Nat.le_trans HH.out.2.2.2.2.2.1 (by decide)) (by decide) (by decide) B9.out.2).mono ?_
    rw [List.length_map]
    rintro e w10 ⟨rfl, oG10, b10, z10, n10⟩
    have B10 : Hid _ := And.intro (B9.out.1.trans (b10.mono B3.out.2.2.size)) oG10
    clear b10 z10 n10 oG10
    rw [← EK.out.2]
    go_wp2_with fail
    go_at_call 12
    refine (heldPathObsS 1 Y.length _ w10 (B10.out.2.row) (Nat.le_trans HH.out.2.2.2.2.2.1 (by decide)) (by decide) (by decide)).mono ?_
    rintro e w11 ⟨rfl, hw⟩
    subst w11
    rw [← EK.out.2]
    go_wp2_with fail
    go_at_call 6
    refine (toPathOpS _ R w10 (HH.out.1.below (B2.out.1.trans (B10.out.1.mono B2.out.1.size))) RD.out.2.1 RD.out.1).mono ?_
    rintro e w12 ⟨r12, rfl, o12, b12⟩
    have B12 : Hid _ := And.intro (B10.out.1.trans (b12.mono B10.out.1.size)) (And.intro (B10.out.2.below b12) o12.row)
    clear b12 o12
    go_wp2_with fail
    go_at_call 7
    refine (HH.out.2.2.2.1 _ _ (B2.out.1.trans (B12.out.1.mono B2.out.1.size)) B12.out.2.2).mono ?_
    rintro e w13 ⟨h0, rfl, oH, b13⟩
    have B13 : Hid _ := And.intro (B12.out.1.trans (b13.mono B12.out.1.size)) (And.intro (B12.out.2.1.below b13) oH.row)
    clear b13 oH
    go_wp2_with fail
    go_at_call 8
    refine (eqPathObsS _ _ Y w13 (B13.out.2.2) (B2.out.2.below B13.out.1) HH.out.2.2.2.2.2.1).mono ?_
    rintro e w14 ⟨rfl, b14⟩
    have B14 : Hid _ := And.intro (B13.out.1.trans (b14.mono B13.out.1.size)) (B13.out.2.1.below b14)
    clear b14
    go_wp2_with fail
    go_at_call 12
    refine (heldPathObsS 1 Y.length _ w14 (B14.out.2.row) (Nat.le_trans HH.out.2.2.2.2.2.1 (by decide)) (by decide) (by decide)).mono ?_
    rintro e w15 ⟨rfl, hw⟩
    subst w15
    rw [← EK.out.2]
    go_wp2
    go_ret
    exact ⟨rfl, B2.out.1.trans (B14.out.1.mono B2.out.1.size)⟩
end Go.Proofs.Ytjikdecfampbiaa
