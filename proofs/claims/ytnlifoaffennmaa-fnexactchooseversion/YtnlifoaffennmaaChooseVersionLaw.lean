import Derived.Test.YtnlifoaffennmaaChV
namespace Go.Proofs.Ytnlifoaffennmaa
open Go.RowKit
set_option linter.unusedVariables false

theorem specCh (va vb : Value) (xs ys : List Int) (w : World) (ha : Row w .i64 va xs) (hb : Row w .i64 vb ys) (hx : xs.length ≤ 9223372036854775807) (hy : ys.length ≤ 9223372036854775807) :
    Calls Try.prog 4 #[va, vb] w fun e w' => e = .returned (.int .i64 (chV xs ys)) ∧ Below w.heap.size w w' := by
  unfold chV
  by_cases h : 4096 < xs.length ∨ 4096 < ys.length
  · rw [if_pos h]
    obtain ⟨ao, ca, rfl⟩ := ha.form
    obtain ⟨bo, cb, rfl⟩ := hb.form
    exact spec_ch_long ao bo _ _ ca cb w hx hy h
  · rw [if_neg h]
    exact spec_ch va vb xs ys w ha hb (by omega) (by omega)
theorem implCh (va vb : Value) (xs ys : List Int) (w : World) (ha : Row w .i64 va xs) (hb : Row w .i64 vb ys) (hx : xs.length ≤ 9223372036854775807) (hy : ys.length ≤ 9223372036854775807)
    (wx : ∀ n ∈ xs, (Lit.int .i64 n).wf = true) (wy : ∀ n ∈ ys, (Lit.int .i64 n).wf = true) :
    Calls Try.prog 6 #[va, vb] w fun e w' => e = .returned (.int .i64 (chV xs ys)) ∧ Below w.heap.size w w' := by
  unfold chV
  by_cases h : 4096 < xs.length ∨ 4096 < ys.length
  · rw [if_pos h]
    obtain ⟨ao, ca, rfl⟩ := ha.form
    obtain ⟨bo, cb, rfl⟩ := hb.form
    exact impl_ch_long ao bo _ _ ca cb w hx hy h
  · rw [if_neg h]
    exact impl_ch va vb xs ys w ha hb (by omega) (by omega) wx wy

theorem ch_huge0 (ao bo : Option Addr) (n m ca cb : Nat) (w : World) (h : 1048576 < n) (hn : n ≤ 9223372036854775807) :
    Calls Try.prog 3 #[.slice ao n ca, .slice bo m cb] w fun e w' => e = .returned (.bool true) ∧ Below w.heap.size w w' := by
  go_enter Try.func3, Try.ntmps3
  go_wp2
  go_ret
  exact ⟨rfl, Below.refl _ _⟩
theorem ch_huge1 (ao bo : Option Addr) (n m ca cb : Nat) (w : World) (h0 : n ≤ 1048576) (h : 1048576 < m) (hn : m ≤ 9223372036854775807) :
    Calls Try.prog 3 #[.slice ao n ca, .slice bo m cb] w fun e w' => e = .returned (.bool true) ∧ Below w.heap.size w w' := by
  go_enter Try.func3, Try.ntmps3
  go_wp2
  go_ret
  exact ⟨rfl, Below.refl _ _⟩

theorem drewN_below {w w' : World} (h : ∃ n, w' = w.drewN n) : Below w.heap.size w w' := by
  obtain ⟨n, rfl⟩ := h
  exact below_drewN (Below.refl _ _) _

set_option maxRecDepth 20000 in
set_option maxHeartbeats 4000000 in
theorem chLaw (va vb : Value) (xs ys : List Int) (w : World) (ha : Row w .i64 va xs) (hb : Row w .i64 vb ys) (hx : xs.length ≤ 1048576) (hy : ys.length ≤ 1048576)
    (wx : ∀ n ∈ xs, (Lit.int .i64 n).wf = true) (wy : ∀ n ∈ ys, (Lit.int .i64 n).wf = true) :
    Calls Try.prog 3 #[va, vb] w fun e w' => e = .returned (.bool true) ∧ Below w.heap.size w w' := by
  obtain ⟨ao, ca, rfl⟩ := ha.form
  obtain ⟨bo, cb, rfl⟩ := hb.form
  have TA : Hid (∀ u : World, Below w.heap.size w u → Calls Try.prog 5 #[.slice ao xs.length ca] u fun e w' => ∃ r, e = .returned r ∧ w'.ownsRow u.heap.size 3 1 r xs.length (xs.map (Value.int .i64)) ∧ Below u.heap.size u w') := fun u h => toInts _ xs u (ha.below h) (by omega)
  have TB : Hid (∀ u : World, Below w.heap.size w u → Calls Try.prog 5 #[.slice bo ys.length cb] u fun e w' => ∃ r, e = .returned r ∧ w'.ownsRow u.heap.size 3 1 r ys.length (ys.map (Value.int .i64)) ∧ Below u.heap.size u w') := fun u h => toInts _ ys u (hb.below h) (by omega)
  have HS : Hid (∀ (u : World) (p q : Value), Row u .i64 p xs → Row u .i64 q ys → Calls Try.prog 4 #[p, q] u fun e w' => e = .returned (.int .i64 (chV xs ys)) ∧ Below u.heap.size u w') := fun u p q h1 h2 => specCh p q xs ys u h1 h2 (by omega) (by omega)
  have HI : Hid (∀ (u : World) (p q : Value), Row u .i64 p xs → Row u .i64 q ys → Calls Try.prog 6 #[p, q] u fun e w' => e = .returned (.int .i64 (chV xs ys)) ∧ Below u.heap.size u w') := fun u p q h1 h2 => implCh p q xs ys u h1 h2 (by omega) (by omega) wx wy
  have HA : Hid (∀ (u : World) (p q : Value), Row u .i64 p xs → Row u .i64 q xs → Calls Try.prog 7 #[p, q] u fun e w' => e = .returned (.bool true) ∧ Below u.heap.size u w') := fun u p q h1 h2 => (eqInts_same p q xs u h1 h2 (by omega)).mono fun e w' h => ⟨h.1, drewN_below h.2⟩
  have HB : Hid (∀ (u : World) (p q : Value), Row u .i64 p ys → Row u .i64 q ys → Calls Try.prog 7 #[p, q] u fun e w' => e = .returned (.bool true) ∧ Below u.heap.size u w') := fun u p q h1 h2 => (eqInts_same p q ys u h1 h2 (by omega)).mono fun e w' h => ⟨h.1, drewN_below h.2⟩
  generalize chV xs ys = z at HS HI
  obtain ⟨n, en⟩ : ∃ n, n = xs.length := ⟨_, rfl⟩
  obtain ⟨m, em⟩ : ∃ m, m = ys.length := ⟨_, rfl⟩
  rw [← en] at hx TA ⊢
  rw [← em] at hy TB ⊢
  clear en em ha hb wx wy
  have hz : (z != z) = false := by simp
  go_enter Try.func3, Try.ntmps3
  go_wp2_with fail
  go_at_call 5
  refine (TA.out _ (Below.refl _ _)).mono ?_
  rintro e w1 ⟨r1, rfl, o1, b1⟩
  have H1 : Hid _ := And.intro (row_of_owns o1) b1
  clear o1 b1
  go_wp2_with fail
  go_at_call 5
  refine (TB.out _ H1.out.2).mono ?_
  rintro e w2 ⟨r2, rfl, o2, b2⟩
  have H2 : Hid _ := And.intro (row_of_owns o2) (And.intro (H1.out.1.below b2) (H1.out.2.trans (b2.mono H1.out.2.size)))
  clear o2 b2
  go_wp2_with fail
  go_at_call 4
  refine (HS.out _ _ _ H2.out.2.1 H2.out.1).mono ?_
  rintro e w3 ⟨rfl, b3⟩
  have H3 : Hid _ := And.intro (H2.out.2.2.trans (b3.mono H2.out.2.2.size)) True.intro
  clear b3
  go_wp2_with fail
  go_at_call 5
  refine (TA.out _ H3.out.1).mono ?_
  rintro e w4 ⟨r4, rfl, o4, b4⟩
  have H4 : Hid _ := And.intro (row_of_owns o4) (H3.out.1.trans (b4.mono H3.out.1.size))
  clear o4 b4
  go_wp2_with fail
  go_at_call 5
  refine (TB.out _ H4.out.2).mono ?_
  rintro e w5 ⟨r5, rfl, o5, b5⟩
  have H5 : Hid _ := And.intro (row_of_owns o5) (And.intro (H4.out.1.below b5) (H4.out.2.trans (b5.mono H4.out.2.size)))
  clear o5 b5
  go_wp2_with fail
  go_at_call 6
  refine (HI.out _ _ _ H5.out.2.1 H5.out.1).mono ?_
  rintro e w6 ⟨rfl, b6⟩
  have H6 : Hid _ := And.intro (H5.out.1.below b6) (And.intro (H5.out.2.1.below b6) (H5.out.2.2.trans (b6.mono H5.out.2.2.size)))
  clear b6
  go_wp2_with fail
  go_at_call 5
  refine (TA.out _ H6.out.2.2).mono ?_
  rintro e w7 ⟨r7, rfl, o7, b7⟩
  have H7 : Hid _ := And.intro (row_of_owns o7) (And.intro (H6.out.1.below b7) (And.intro (H6.out.2.1.below b7) (H6.out.2.2.trans (b7.mono H6.out.2.2.size))))
  clear o7 b7
  go_wp2_with fail
  go_at_call 7
  refine (HA.out _ _ _ H7.out.2.2.1 H7.out.1).mono ?_
  rintro e w8 ⟨rfl, b8⟩
  have H8 : Hid _ := And.intro (H7.out.2.1.below b8) (H7.out.2.2.2.trans (b8.mono H7.out.2.2.2.size))
  clear b8
  go_wp2_with fail
  go_at_call 5
  refine (TB.out _ H8.out.2).mono ?_
  rintro e w9 ⟨r9, rfl, o9, b9⟩
  have H9 : Hid _ := And.intro (row_of_owns o9) (And.intro (H8.out.1.below b9) (H8.out.2.trans (b9.mono H8.out.2.size)))
  clear o9 b9
  go_wp2_with fail
  go_at_call 7
  refine (HB.out _ _ _ H9.out.2.1 H9.out.1).mono ?_
  rintro e w10 ⟨rfl, b10⟩
  have H10 : Hid _ := And.intro (H9.out.2.2.trans (b10.mono H9.out.2.2.size)) True.intro
  clear b10
  go_wp2
  go_ret
  exact ⟨rfl, H10.out.1⟩

theorem fnExactChooseVersion_walk (v0 : Value) (x0 : List Int) (v1 : Value) (x1 : List Int) (l0 : x0.length ≤ maxLen) (wf0 : ∀ x ∈ x0, (Lit.int .i64 x).wf = true) (l1 : x1.length ≤ maxLen) (wf1 : ∀ x ∈ x1, (Lit.int .i64 x).wf = true) (w : World) (row0 : Row w .i64 v0 x0) (row1 : Row w .i64 v1 x1) :
    Calls Try.prog 3 #[v0, v1] w fun e w' => e = .returned (.bool true) ∧ Below w.heap.size w w' := by
  have m0 : x0.length ≤ 9223372036854775807 := by have h := l0; unfold maxLen at h; omega
  have m1 : x1.length ≤ 9223372036854775807 := by have h := l1; unfold maxLen at h; omega
  by_cases h0 : 1048576 < x0.length
  · obtain ⟨ao, ca, rfl⟩ := row0.form
    obtain ⟨bo, cb, rfl⟩ := row1.form
    exact ch_huge0 ao bo _ _ ca cb w h0 m0
  by_cases h1 : 1048576 < x1.length
  · obtain ⟨ao, ca, rfl⟩ := row0.form
    obtain ⟨bo, cb, rfl⟩ := row1.form
    exact ch_huge1 ao bo _ _ ca cb w (by omega) h1 m1
  exact chLaw v0 v1 x0 x1 w row0 row1 (by omega) (by omega) wf0 wf1
end Go.Proofs.Ytnlifoaffennmaa
