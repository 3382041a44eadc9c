import Derived.Test.YtiiefhpkkjocbalIsRI
import Derived.Test.YtiiefhpkkjocbalEqSS
import Derived.Test.YtiiefhpkkjocbalToBytes
namespace Go.Proofs.Ytiiefhpkkjocbal
open Go.RowKit
set_option linter.unusedVariables false

set_option maxRecDepth 20000 in
theorem isr_huge (ao : Option Addr) (n cp : Nat) (v1 : Value) (w : World) (h0 : 1048576 < n) (m0 : n ≤ 9223372036854775807) :
    Calls Try.prog 5 #[.slice ao n cp, v1] w fun e w' => e = .returned (.bool true) ∧ Below w.heap.size w w' := by
  go_enter Try.func5, Try.ntmps5
  go_wp2
  go_ret
  exact ⟨rfl, Below.refl _ _⟩
set_option maxRecDepth 20000 in
theorem isr_hugeL (ao : Option Addr) (n cp : Nat) (v1 : Value) (L : List (List Int)) (w : World) (h0 : n ≤ 1048576) (hL : SRow w v1 L) (lL : L.length ≤ 9223372036854775807) (sL : ∀ j, (L.getD j []).length ≤ 9223372036854775807) (hb : 1048576 < sizeL L) :
    Calls Try.prog 5 #[.slice ao n cp, v1] w fun e w' => e = .returned (.bool true) ∧ Below w.heap.size w w' := by
  have HZ : Hid _ := And.intro (szSS_over v1 L 1048576 w hL (by decide) (by decide) lL sL (by omega)) True.intro
  clear hL lL sL hb
  go_enter Try.func5, Try.ntmps5
  go_wp2_with (go_at_call 14; refine HZ.out.1.mono ?_; rintro e w' ⟨rfl, hw⟩; subst w')
  go_ret
  exact ⟨rfl, Below.refl _ _⟩
set_option maxRecDepth 20000 in
set_option maxHeartbeats 4000000 in
/-- Over the model's contract and the program's. -/
theorem isrLaw (v0 v1 : Value) (xs : List Int) (L : List (List Int)) (r : Int) (w : World) (hx : Row w .u8 v0 xs) (lx : xs.length ≤ 1048576) (hL : SRow w v1 L) (zL : sizeL L ≤ 1048576)
    (hS : ∀ (w : World) (u0 u1 : Value), Row w .u8 u0 xs → SRow w u1 L → Calls Try.prog 15 #[u0, u1] w fun e w' => e = .returned (.int .i64 r) ∧ Below w.heap.size w w')
    (hI : ∀ (w : World) (u0 u1 : Value), Row w .u8 u0 xs → SRow w u1 L → Calls Try.prog 17 #[u0, u1] w fun e w' => e = .returned (.int .i64 r) ∧ Below w.heap.size w w') :
    Calls Try.prog 5 #[v0, v1] w fun e w' => e = .returned (.bool true) ∧ Below w.heap.size w w' := by
  have lL : L.length ≤ 1048576 := by unfold sizeL at zL; omega
  have sL : ∀ j, (L.getD j []).length ≤ 1048576 := fun j => by
    by_cases hj : j < L.length
    · have h1 := sumL_succ L j hj
      have h2 := sumL_mono L (j + 1) hj
      unfold sizeL at zL
      omega
    · simp [List.getD, List.getElem?_eq_none (show L.length ≤ j by omega)]
  obtain ⟨ao, cp, rfl⟩ := hx.form
  obtain ⟨z, ez⟩ : ∃ z : Int, z = 1048576 - (sizeL L : Int) := ⟨_, rfl⟩
  have hz : 0 ≤ z := by omega
  have CZ := szSS_fit v1 L 1048576 w hL (by decide) (by omega)
  rw [← ez] at CZ
  obtain ⟨n, en⟩ : ∃ n, n = xs.length := ⟨_, rfl⟩
  have TB : Hid (∀ W : World, Below w.heap.size w W → Calls Try.prog 7 #[.slice ao n cp] W fun e w' => ∃ r, e = .returned r ∧ w'.ownsRow W.heap.size 5 1 r xs.length (xs.map (Value.int .u8)) ∧ Below W.heap.size W w') := fun W hb => by rw [en]; exact toBytes _ xs W (hx.below hb) (by omega)
  have TS : Hid (∀ W : World, Below w.heap.size w W → Calls Try.prog 16 #[v1] W fun e w' => ∃ r, e = .returned r ∧ SRow w' r L ∧ Below W.heap.size W w') := fun W hb => toSS v1 L W (hL.below hb) lL sL
  have HH : Hid _ := And.intro CZ (And.intro hS (And.intro hI (And.intro lx (And.intro lL sL))))
  rw [← en] at lx ⊢
  have hrr : (r != r) = false := by simp
  clear hx hL CZ hS hI zL lL sL ez en
  go_enter Try.func5, Try.ntmps5
  go_wp2_with (go_at_call 14; refine HH.out.1.mono ?_; rintro e w' ⟨rfl, hw⟩; subst w')
  go_at_call 7
  refine (TB.out w (Below.refl _ _)).mono ?_
  rintro e w1 ⟨p1, rfl, o1, b1⟩
  have H1 : Hid _ := And.intro (row_of_owns o1) b1
  clear o1 b1
  go_wp2_with fail
  go_at_call 16
  refine (TS.out w1 H1.out.2).mono ?_
  rintro e w2 ⟨p2, rfl, s2, b2⟩
  have H2 : Hid _ := And.intro (H1.out.1.below b2) (And.intro s2 (H1.out.2.trans (b2.mono H1.out.2.size)))
  clear s2 b2
  go_wp2_with fail
  go_at_call 15
  refine (HH.out.2.1 w2 p1 p2 H2.out.1 H2.out.2.1).mono ?_
  rintro e w3 ⟨rfl, b3⟩
  have H3 : Hid _ := And.intro (H2.out.2.2.trans (b3.mono H2.out.2.2.size)) True.intro
  clear b3
  go_wp2_with fail
  go_at_call 7
  refine (TB.out w3 H3.out.1).mono ?_
  rintro e w4 ⟨p4, rfl, o4, b4⟩
  have H4 : Hid _ := And.intro (row_of_owns o4) (H3.out.1.trans (b4.mono H3.out.1.size))
  clear o4 b4
  go_wp2_with fail
  go_at_call 16
  refine (TS.out w4 H4.out.2).mono ?_
  rintro e w5 ⟨p5, rfl, s5, b5⟩
  have H5 : Hid _ := And.intro (H4.out.1.below b5) (And.intro s5 (H4.out.2.trans (b5.mono H4.out.2.size)))
  clear s5 b5
  go_wp2_with fail
  go_at_call 17
  refine (HH.out.2.2.1 w5 p4 p5 H5.out.1 H5.out.2.1).mono ?_
  rintro e w6 ⟨rfl, b6⟩
  have H6 : Hid _ := And.intro (H5.out.1.below b6) (And.intro (H5.out.2.1.below b6) (H5.out.2.2.trans (b6.mono H5.out.2.2.size)))
  clear b6
  go_wp2_with fail
  go_at_call 7
  refine (TB.out w6 H6.out.2.2).mono ?_
  rintro e w7 ⟨p7, rfl, o7, b7⟩
  have H7 : Hid _ := And.intro (row_of_owns o7) (And.intro (H6.out.1.below b7) (And.intro (H6.out.2.1.below b7) (H6.out.2.2.trans (b7.mono H6.out.2.2.size))))
  clear o7 b7
  go_wp2_with fail
  go_at_call 9
  refine (eqBytes_same _ _ xs w7 H7.out.2.1 H7.out.1 (by have := HH.out.2.2.2.1; omega)).mono ?_
  rintro e w8 ⟨rfl, m8, hw8⟩
  have b8 : Below w7.heap.size w7 w8 := by rw [hw8]; exact below_drewN (Below.refl _ _) m8
  have H8 : Hid _ := And.intro (H7.out.2.2.1.below b8) (H7.out.2.2.2.trans (b8.mono H7.out.2.2.2.size))
  clear hw8 b8
  go_wp2_with fail
  go_at_call 16
  refine (TS.out w8 H8.out.2).mono ?_
  rintro e w9 ⟨p9, rfl, s9, b9⟩
  have H9 : Hid _ := And.intro s9 (And.intro (H8.out.1.below b9) (H8.out.2.trans (b9.mono H8.out.2.size)))
  clear s9 b9
  go_wp2_with fail
  go_at_call 18
  refine (eqSS_same _ _ L w9 H9.out.2.1 H9.out.1 HH.out.2.2.2.2.1 HH.out.2.2.2.2.2).mono ?_
  rintro e w10 ⟨rfl, b10⟩
  have H10 : Hid _ := And.intro (H9.out.2.2.trans (b10.mono H9.out.2.2.size)) True.intro
  clear b10
  go_wp2
  go_ret
  exact ⟨rfl, H10.out.1⟩
theorem fnExactIsReset_walk (v0 : Value) (x0 : List Int) (v1 : Value) (L1 : List (List Int)) (l0 : x0.length ≤ maxLen) (wf0 : ∀ x ∈ x0, (Lit.int .u8 x).wf = true) (l1 : L1.length ≤ maxLen) (s1 : ∀ j, (L1.getD j []).length ≤ maxLen) (b1 : ∀ j, Bytes (L1.getD j [])) (w : World) (row0 : Row w .u8 v0 x0) (row1 : SRow w v1 L1) :
    Calls Try.prog 5 #[v0, v1] w fun e w' => e = .returned (.bool true) ∧ Below w.heap.size w w' := by
  have b0 := bytes_of_wf wf0
  have m0 : x0.length ≤ 9223372036854775807 := by have h := l0; unfold maxLen at h; omega
  have m1 : L1.length ≤ 9223372036854775807 := by have h := l1; unfold maxLen at h; omega
  have ms : ∀ j, (L1.getD j []).length ≤ 9223372036854775807 := fun j => by have h := s1 j; unfold maxLen at h; omega
  by_cases g0 : 1048576 < x0.length
  · obtain ⟨ao, cp, rfl⟩ := row0.form
    exact isr_huge ao _ cp v1 w g0 m0
  by_cases g1 : 1048576 < sizeL L1
  · obtain ⟨ao, cp, rfl⟩ := row0.form
    exact isr_hugeL ao _ cp v1 L1 w (by omega) row1 m1 ms g1
  have sL : ∀ j, (L1.getD j []).length ≤ 1048576 := fun j => by
    by_cases hj : j < L1.length
    · have h1 := sumL_succ L1 j hj
      have h2 := sumL_mono L1 (j + 1) hj
      unfold sizeL at g1
      omega
    · simp [List.getD, List.getElem?_eq_none (show L1.length ≤ j by omega)]
  by_cases h1 : x0.length ≤ 65536
  · by_cases h2 : L1.length ≤ 4096
    · by_cases h3 : 21 ≤ x0.length
      · by_cases h4 : 64 ≤ x0.getD 0 0
        · by_cases h5 : x0.getD 0 0 ≤ 127
          · obtain ⟨r, hr⟩ := idx_ex L1 (x0.drop (x0.length - 8))
            refine isrLaw v0 v1 x0 L1 r w row0 (by omega) row1 (by omega) ?_ ?_
            · intro w u0 u1 r0 r1
              obtain ⟨b, off, cp, rfl, hbl, hc⟩ := r0.at (by omega)
              obtain ⟨ao, ct, rfl⟩ := r1.form
              have e : x0.length = (x0.length - 8) + 8 := by omega
              rw [e] at r0 ⊢
              exact isrS_core b off (x0.length - 8) cp x0 v1 ao _ ct L1 r w r0 e (by omega) (by omega) b0 _ rfl h4 h5 r1 rfl h2 b1 sL hr
            · intro w u0 u1 r0 r1
              obtain ⟨b, off, cp, rfl, hbl, hc⟩ := r0.at (by omega)
              obtain ⟨ao, ct, rfl⟩ := r1.form
              have e : x0.length = (x0.length - 8) + 8 := by omega
              rw [e] at r0 ⊢
              exact isrI_core b off (x0.length - 8) cp x0 ao _ ct L1 r w r0 e (by omega) (by omega) b0 _ rfl h4 h5 r1 rfl h2 b1 sL hr
          · refine isrLaw v0 v1 x0 L1 (-1) w row0 (by omega) row1 (by omega) ?_ ?_
            · intro w u0 u1 r0 r1
              obtain ⟨b, off, cp, rfl, hbl, hc⟩ := r0.at (by omega)
              obtain ⟨ao, ct, rfl⟩ := r1.form
              have c0 := hc 0 (by omega)
              rw [Nat.add_zero] at c0
              exact isrS_high b off cp ao _ _ ct _ w hbl c0 h1 h2 h3 h4 (by omega)
            · intro w u0 u1 r0 r1
              obtain ⟨b, off, cp, rfl, hbl, hc⟩ := r0.at (by omega)
              obtain ⟨ao, ct, rfl⟩ := r1.form
              have c0 := hc 0 (by omega)
              rw [Nat.add_zero] at c0
              exact isrI_high b off cp ao _ _ ct _ w hbl c0 h1 h2 h3 h4 (by omega)
        · refine isrLaw v0 v1 x0 L1 (-1) w row0 (by omega) row1 (by omega) ?_ ?_
          · intro w u0 u1 r0 r1
            obtain ⟨b, off, cp, rfl, hbl, hc⟩ := r0.at (by omega)
            obtain ⟨ao, ct, rfl⟩ := r1.form
            have c0 := hc 0 (by omega)
            rw [Nat.add_zero] at c0
            exact isrS_low b off cp ao _ _ ct _ w hbl c0 h1 h2 h3 (by omega)
          · intro w u0 u1 r0 r1
            obtain ⟨b, off, cp, rfl, hbl, hc⟩ := r0.at (by omega)
            obtain ⟨ao, ct, rfl⟩ := r1.form
            have c0 := hc 0 (by omega)
            rw [Nat.add_zero] at c0
            exact isrI_low b off cp ao _ _ ct _ w hbl c0 h1 h2 h3 (by omega)
      · refine isrLaw v0 v1 x0 L1 (-1) w row0 (by omega) row1 (by omega) ?_ ?_
        · intro w u0 u1 r0 r1
          obtain ⟨a0, cp, rfl⟩ := r0.form
          obtain ⟨ao, ct, rfl⟩ := r1.form
          exact isrS_short a0 ao _ _ cp ct w m0 m1 (by omega) h2
        · intro w u0 u1 r0 r1
          obtain ⟨a0, cp, rfl⟩ := r0.form
          obtain ⟨ao, ct, rfl⟩ := r1.form
          exact isrI_short a0 ao _ _ cp ct w m0 m1 (by omega) h2
    · refine isrLaw v0 v1 x0 L1 (-1) w row0 (by omega) row1 (by omega) ?_ ?_
      · intro w u0 u1 r0 r1
        obtain ⟨a0, cp, rfl⟩ := r0.form
        obtain ⟨ao, ct, rfl⟩ := r1.form
        exact isrS_many a0 ao _ _ cp ct w m0 m1 h1 (by omega)
      · intro w u0 u1 r0 r1
        obtain ⟨a0, cp, rfl⟩ := r0.form
        obtain ⟨ao, ct, rfl⟩ := r1.form
        exact isrI_many a0 ao _ _ cp ct w m0 m1 h1 (by omega)
  · refine isrLaw v0 v1 x0 L1 (-1) w row0 (by omega) row1 (by omega) ?_ ?_
    · intro w u0 u1 r0 r1
      obtain ⟨a0, cp, rfl⟩ := r0.form
      obtain ⟨ao, ct, rfl⟩ := r1.form
      exact isrS_long a0 ao _ _ cp ct w m0 m1 (by omega)
    · intro w u0 u1 r0 r1
      obtain ⟨a0, cp, rfl⟩ := r0.form
      obtain ⟨ao, ct, rfl⟩ := r1.form
      exact isrI_long a0 ao _ _ cp ct w m0 m1 (by omega)
end Go.Proofs.Ytiiefhpkkjocbal
