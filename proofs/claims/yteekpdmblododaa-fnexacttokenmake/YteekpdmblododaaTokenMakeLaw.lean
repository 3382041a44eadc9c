import Derived.Test.YteekpdmblododaaEqBytes
import Derived.Test.YteekpdmblododaaMarkBytes
import Derived.Test.YteekpdmblododaaToBytes
import Derived.Test.YteekpdmblododaaKeys
import Derived.Test.YteekpdmblododaaBook
import Derived.Deep.RegionWith
import Derived.Deep.CutRange
namespace Go.Proofs.Yteekpdmblododaa
open Go.RowKit
set_option linter.unusedVariables false

theorem tokenMake_huge0 (ao0 : Option Addr) (n0 cp0 : Nat) (ao1 : Option Addr) (n1 cp1 : Nat) (a2 : Int) (ao3 : Option Addr) (n3 cp3 : Nat) (w : World) (h0 : 1048576 < n0) (m0 : n0 ≤ 9223372036854775807) :
    Calls Try.prog 3 #[.slice ao0 n0 cp0, .slice ao1 n1 cp1, .int .i64 a2, .slice ao3 n3 cp3] w fun e w' => e = .returned (.bool true) ∧ Below w.heap.size w w' := by
  go_enter Try.func3, Try.ntmps3
  go_wp2
  go_ret
  exact ⟨rfl, Below.refl _ _⟩
theorem tokenMake_huge1 (ao0 : Option Addr) (n0 cp0 : Nat) (ao1 : Option Addr) (n1 cp1 : Nat) (a2 : Int) (ao3 : Option Addr) (n3 cp3 : Nat) (w : World) (h0 : n0 ≤ 1048576) (h1 : 1048576 < n1) (m1 : n1 ≤ 9223372036854775807) :
    Calls Try.prog 3 #[.slice ao0 n0 cp0, .slice ao1 n1 cp1, .int .i64 a2, .slice ao3 n3 cp3] w fun e w' => e = .returned (.bool true) ∧ Below w.heap.size w w' := by
  go_enter Try.func3, Try.ntmps3
  go_wp2
  go_ret
  exact ⟨rfl, Below.refl _ _⟩
theorem tokenMake_huge3 (ao0 : Option Addr) (n0 cp0 : Nat) (ao1 : Option Addr) (n1 cp1 : Nat) (a2 : Int) (ao3 : Option Addr) (n3 cp3 : Nat) (w : World) (h0 : n0 ≤ 1048576) (h1 : n1 ≤ 1048576) (h3 : 1048576 < n3) (m3 : n3 ≤ 9223372036854775807) :
    Calls Try.prog 3 #[.slice ao0 n0 cp0, .slice ao1 n1 cp1, .int .i64 a2, .slice ao3 n3 cp3] w fun e w' => e = .returned (.bool true) ∧ Below w.heap.size w w' := by
  go_enter Try.func3, Try.ntmps3
  go_wp2
  go_ret
  exact ⟨rfl, Below.refl _ _⟩
set_option maxRecDepth 20000 in
set_option maxHeartbeats 8000000 in
theorem tokenMakeLaw (v0 : Value) (x0 : List Int) (v1 : Value) (x1 : List Int) (a2 : Int) (v3 : Value) (x3 : List Int) (y : List Int) (c1 : Int) (w : World) (Inv : World → Prop) (hInv : ∀ w' : World, Below w.heap.size w w' → Inv w') (row0 : Row w .u8 v0 x0) (l0 : x0.length ≤ 1048576) (row1 : Row w .u8 v1 x1) (l1 : x1.length ≤ 1048576) (row3 : Row w .u8 v3 x3) (l3 : x3.length ≤ 1048576) (lr : y.length ≤ 4194304)
    (hS : ∀ (w : World) (u0 : Value) (u1 : Value) (u3 : Value), Row w .u8 u0 x0 → Row w .u8 u1 x1 → Row w .u8 u3 x3 → Calls Try.prog 5 #[u0, u1, .int .i64 a2, u3] w fun e w' => ∃ r, e = .returned (.tuple #[r, .int .i64 c1]) ∧ w'.ownsRow w.heap.size 5 1 r y.length (y.map (Value.int .u8)) ∧ Below w.heap.size w w')
    (hI : ∀ (w : World) (u0 : Value) (u1 : Value) (u3 : Value), Inv w → Row w .u8 u0 x0 → Row w .u8 u1 x1 → Row w .u8 u3 x3 → Calls Try.prog 7 #[u0, u1, .int .i64 a2, u3] w fun e w' => ∃ r, e = .returned (.tuple #[r, .int .i64 c1]) ∧ w'.ownsRow w.heap.size 5 1 r y.length (y.map (Value.int .u8)) ∧ Below w.heap.size w w') :
    Calls Try.prog 3 #[v0, v1, .int .i64 a2, v3] w fun e w' => e = .returned (.bool true) ∧ Below w.heap.size w w' := by
  obtain ⟨ao0, cp0, ev0⟩ := row0.form
  subst ev0
  obtain ⟨n0, en0⟩ : ∃ n, n = x0.length := ⟨_, rfl⟩
  have TB0 : Hid (∀ w : World, Row w .u8 (.slice ao0 n0 cp0) x0 → Calls Try.prog 6 #[.slice ao0 n0 cp0] w fun e w' => ∃ r, e = .returned r ∧ w'.ownsRow w.heap.size 5 1 r x0.length (x0.map (Value.int .u8)) ∧ Below w.heap.size w w') := fun w h => toBytes _ x0 w h (by omega)
  rw [← en0] at row0 l0 ⊢
  have EN0 : Hid _ := And.intro en0 row0
  obtain ⟨ao1, cp1, ev1⟩ := row1.form
  subst ev1
  obtain ⟨n1, en1⟩ : ∃ n, n = x1.length := ⟨_, rfl⟩
  have TB1 : Hid (∀ w : World, Row w .u8 (.slice ao1 n1 cp1) x1 → Calls Try.prog 6 #[.slice ao1 n1 cp1] w fun e w' => ∃ r, e = .returned r ∧ w'.ownsRow w.heap.size 5 1 r x1.length (x1.map (Value.int .u8)) ∧ Below w.heap.size w w') := fun w h => toBytes _ x1 w h (by omega)
  rw [← en1] at row1 l1 ⊢
  have EN1 : Hid _ := And.intro en1 row1
  obtain ⟨ao3, cp3, ev3⟩ := row3.form
  subst ev3
  obtain ⟨n3, en3⟩ : ∃ n, n = x3.length := ⟨_, rfl⟩
  have TB3 : Hid (∀ w : World, Row w .u8 (.slice ao3 n3 cp3) x3 → Calls Try.prog 6 #[.slice ao3 n3 cp3] w fun e w' => ∃ r, e = .returned r ∧ w'.ownsRow w.heap.size 5 1 r x3.length (x3.map (Value.int .u8)) ∧ Below w.heap.size w w') := fun w h => toBytes _ x3 w h (by omega)
  rw [← en3] at row3 l3 ⊢
  have EN3 : Hid _ := And.intro en3 row3
  have hc1 : (c1 != c1) = false := by simp
  obtain ⟨m, em⟩ : ∃ m, m = y.length := ⟨_, rfl⟩
  rw [← em] at lr hS hI
  have EM : Hid _ := And.intro em True.intro
  have HS : Hid _ := And.intro hS True.intro
  have HI : Hid _ := And.intro hI True.intro
  have HV : Hid _ := And.intro hInv True.intro
  have C_0 : Hid _ := And.intro (Below.refl w.heap.size w) True.intro
  clear hS hI hInv row0 en0 row1 en1 row3 en3 em
  go_enter Try.func3, Try.ntmps3
  go_wp2_with fail
  go_at_call 6
  refine (TB0.out _ (EN0.out.2.below C_0.out.1)).mono ?_
  rintro e w1 ⟨T0, rfl, oT0, bT0⟩
  have z_1 : w.heap.size ≤ w1.heap.size := bT0.size
  have C_1 : Hid _ := And.intro (C_0.out.1.trans (bT0.mono C_0.out.1.size)) True.intro
  have T0_1 : Hid _ := And.intro oT0 (fun g (hg : Value.ownBlock _ = some g) => oT0.lt g hg)
  clear oT0 bT0
  go_wp2_with fail
  go_at_call 6
  refine (TB1.out _ (EN1.out.2.below C_1.out.1)).mono ?_
  rintro e w2 ⟨T1, rfl, oT1, bT1⟩
  have z_2 : w1.heap.size ≤ w2.heap.size := bT1.size
  have T0_2 : Hid _ := And.intro (owns_below T0_1.out.1 bT1) T0_1.out.2
  have C_2 : Hid _ := And.intro (C_1.out.1.trans (bT1.mono C_1.out.1.size)) True.intro
  have T1_2 : Hid _ := And.intro oT1 (fun g (hg : Value.ownBlock _ = some g) => oT1.lt g hg)
  clear oT1 bT1
  go_wp2_with fail
  go_at_call 6
  refine (TB3.out _ (EN3.out.2.below C_2.out.1)).mono ?_
  rintro e w3 ⟨T3, rfl, oT3, bT3⟩
  have z_3 : w2.heap.size ≤ w3.heap.size := bT3.size
  have T0_3 : Hid _ := And.intro (owns_below T0_2.out.1 bT3) T0_2.out.2
  have T1_3 : Hid _ := And.intro (owns_below T1_2.out.1 bT3) T1_2.out.2
  have C_3 : Hid _ := And.intro (C_2.out.1.trans (bT3.mono C_2.out.1.size)) True.intro
  have T3_3 : Hid _ := And.intro oT3 (fun g (hg : Value.ownBlock _ = some g) => oT3.lt g hg)
  clear oT3 bT3
  go_wp2_with fail
  go_at_call 5
  refine (HS.out.1 _ _ _ _ (row_of_owns T0_3.out.1) (row_of_owns T1_3.out.1) (row_of_owns T3_3.out.1)).mono ?_
  rintro e w4 ⟨S, rfl, oS, bS⟩
  have z_4 : w3.heap.size ≤ w4.heap.size := bS.size
  have T0_4 : Hid _ := And.intro (owns_below T0_3.out.1 bS) T0_3.out.2
  have T1_4 : Hid _ := And.intro (owns_below T1_3.out.1 bS) T1_3.out.2
  have T3_4 : Hid _ := And.intro (owns_below T3_3.out.1 bS) T3_3.out.2
  have C_4 : Hid _ := And.intro (C_3.out.1.trans (bS.mono C_3.out.1.size)) True.intro
  have S_4 : Hid _ := And.intro oS (fun g (hg : Value.ownBlock _ = some g) => oS.lt g hg)
  clear oS bS
  go_wp2_with fail
  go_at_call 6
  refine (TB0.out _ (EN0.out.2.below C_4.out.1)).mono ?_
  rintro e w5 ⟨X0, rfl, oX0, bX0⟩
  have z_5 : w4.heap.size ≤ w5.heap.size := bX0.size
  have S_5 : Hid _ := And.intro (owns_below S_4.out.1 bX0) S_4.out.2
  have C_5 : Hid _ := And.intro (C_4.out.1.trans (bX0.mono C_4.out.1.size)) True.intro
  have X0_5 : Hid _ := And.intro oX0 (fun g (hg : Value.ownBlock _ = some g) => oX0.lt g hg)
  clear oX0 bX0
  go_wp2_with fail
  go_at_call 6
  refine (TB1.out _ (EN1.out.2.below C_5.out.1)).mono ?_
  rintro e w6 ⟨X1, rfl, oX1, bX1⟩
  have z_6 : w5.heap.size ≤ w6.heap.size := bX1.size
  have S_6 : Hid _ := And.intro (owns_below S_5.out.1 bX1) S_5.out.2
  have X0_6 : Hid _ := And.intro (owns_below X0_5.out.1 bX1) X0_5.out.2
  have C_6 : Hid _ := And.intro (C_5.out.1.trans (bX1.mono C_5.out.1.size)) True.intro
  have X1_6 : Hid _ := And.intro oX1 (fun g (hg : Value.ownBlock _ = some g) => oX1.lt g hg)
  clear oX1 bX1
  go_wp2_with fail
  go_at_call 6
  refine (TB3.out _ (EN3.out.2.below C_6.out.1)).mono ?_
  rintro e w7 ⟨X3, rfl, oX3, bX3⟩
  have z_7 : w6.heap.size ≤ w7.heap.size := bX3.size
  have S_7 : Hid _ := And.intro (owns_below S_6.out.1 bX3) S_6.out.2
  have X0_7 : Hid _ := And.intro (owns_below X0_6.out.1 bX3) X0_6.out.2
  have X1_7 : Hid _ := And.intro (owns_below X1_6.out.1 bX3) X1_6.out.2
  have C_7 : Hid _ := And.intro (C_6.out.1.trans (bX3.mono C_6.out.1.size)) True.intro
  have X3_7 : Hid _ := And.intro oX3 (fun g (hg : Value.ownBlock _ = some g) => oX3.lt g hg)
  clear oX3 bX3
  go_wp2_with fail
  go_at_call 7
  refine (HI.out.1 _ _ _ _ (HV.out.1 _ C_7.out.1) (row_of_owns X0_7.out.1) (row_of_owns X1_7.out.1) (row_of_owns X3_7.out.1)).mono ?_
  rintro e w8 ⟨G, rfl, oG, bG⟩
  have z_8 : w7.heap.size ≤ w8.heap.size := bG.size
  have S_8 : Hid _ := And.intro (owns_below S_7.out.1 bG) S_7.out.2
  have X0_8 : Hid _ := And.intro (owns_below X0_7.out.1 bG) X0_7.out.2
  have X1_8 : Hid _ := And.intro (owns_below X1_7.out.1 bG) X1_7.out.2
  have X3_8 : Hid _ := And.intro (owns_below X3_7.out.1 bG) X3_7.out.2
  have C_8 : Hid _ := And.intro (C_7.out.1.trans (bG.mono C_7.out.1.size)) True.intro
  have G_8 : Hid _ := And.intro oG (fun g (hg : Value.ownBlock _ = some g) => oG.lt g hg)
  clear oG bG
  go_wp2_with fail
  go_at_call 8
  refine (eqBytes_same _ _ y _ (row_of_owns G_8.out.1) (row_of_owns S_8.out.1) (by rw [← EM.out.1]; omega)).mono ?_
  rintro e w9 ⟨rfl, mw9, hw⟩
  have dw9 : Below w8.heap.size w8 w9 := by rw [hw]; exact below_drewN (Below.refl _ _) mw9
  clear hw
  have z_9 : w8.heap.size ≤ w9.heap.size := dw9.size
  have S_9 : Hid _ := And.intro (owns_below S_8.out.1 dw9) S_8.out.2
  have X0_9 : Hid _ := And.intro (owns_below X0_8.out.1 dw9) X0_8.out.2
  have X1_9 : Hid _ := And.intro (owns_below X1_8.out.1 dw9) X1_8.out.2
  have X3_9 : Hid _ := And.intro (owns_below X3_8.out.1 dw9) X3_8.out.2
  have G_9 : Hid _ := And.intro (owns_below G_8.out.1 dw9) G_8.out.2
  have C_9 : Hid _ := And.intro (C_8.out.1.trans (dw9.mono C_8.out.1.size)) True.intro
  clear dw9
  go_wp2_with fail
  go_at_call 6
  refine (TB0.out _ (EN0.out.2.below C_9.out.1)).mono ?_
  rintro e w10 ⟨Y0, rfl, oY0, bY0⟩
  have z_10 : w9.heap.size ≤ w10.heap.size := bY0.size
  have S_10 : Hid _ := And.intro (owns_below S_9.out.1 bY0) S_9.out.2
  have X0_10 : Hid _ := And.intro (owns_below X0_9.out.1 bY0) X0_9.out.2
  have X1_10 : Hid _ := And.intro (owns_below X1_9.out.1 bY0) X1_9.out.2
  have X3_10 : Hid _ := And.intro (owns_below X3_9.out.1 bY0) X3_9.out.2
  have G_10 : Hid _ := And.intro (owns_below G_9.out.1 bY0) G_9.out.2
  have C_10 : Hid _ := And.intro (C_9.out.1.trans (bY0.mono C_9.out.1.size)) True.intro
  have Y0_10 : Hid _ := And.intro oY0 (fun g (hg : Value.ownBlock _ = some g) => oY0.lt g hg)
  clear oY0 bY0
  go_wp2_with fail
  go_at_call 8
  refine (eqBytes_same _ _ x0 _ (row_of_owns X0_10.out.1) (row_of_owns Y0_10.out.1) (by rw [← EN0.out.1]; omega)).mono ?_
  rintro e w11 ⟨rfl, mw11, hw⟩
  have dw11 : Below w10.heap.size w10 w11 := by rw [hw]; exact below_drewN (Below.refl _ _) mw11
  clear hw
  have z_11 : w10.heap.size ≤ w11.heap.size := dw11.size
  have S_11 : Hid _ := And.intro (owns_below S_10.out.1 dw11) S_10.out.2
  have X0_11 : Hid _ := And.intro (owns_below X0_10.out.1 dw11) X0_10.out.2
  have X1_11 : Hid _ := And.intro (owns_below X1_10.out.1 dw11) X1_10.out.2
  have X3_11 : Hid _ := And.intro (owns_below X3_10.out.1 dw11) X3_10.out.2
  have G_11 : Hid _ := And.intro (owns_below G_10.out.1 dw11) G_10.out.2
  have Y0_11 : Hid _ := And.intro (owns_below Y0_10.out.1 dw11) Y0_10.out.2
  have C_11 : Hid _ := And.intro (C_10.out.1.trans (dw11.mono C_10.out.1.size)) True.intro
  clear dw11
  go_wp2_with fail
  go_at_call 6
  refine (TB1.out _ (EN1.out.2.below C_11.out.1)).mono ?_
  rintro e w12 ⟨Y1, rfl, oY1, bY1⟩
  have z_12 : w11.heap.size ≤ w12.heap.size := bY1.size
  have S_12 : Hid _ := And.intro (owns_below S_11.out.1 bY1) S_11.out.2
  have X0_12 : Hid _ := And.intro (owns_below X0_11.out.1 bY1) X0_11.out.2
  have X1_12 : Hid _ := And.intro (owns_below X1_11.out.1 bY1) X1_11.out.2
  have X3_12 : Hid _ := And.intro (owns_below X3_11.out.1 bY1) X3_11.out.2
  have G_12 : Hid _ := And.intro (owns_below G_11.out.1 bY1) G_11.out.2
  have C_12 : Hid _ := And.intro (C_11.out.1.trans (bY1.mono C_11.out.1.size)) True.intro
  have Y1_12 : Hid _ := And.intro oY1 (fun g (hg : Value.ownBlock _ = some g) => oY1.lt g hg)
  clear oY1 bY1
  go_wp2_with fail
  go_at_call 8
  refine (eqBytes_same _ _ x1 _ (row_of_owns X1_12.out.1) (row_of_owns Y1_12.out.1) (by rw [← EN1.out.1]; omega)).mono ?_
  rintro e w13 ⟨rfl, mw13, hw⟩
  have dw13 : Below w12.heap.size w12 w13 := by rw [hw]; exact below_drewN (Below.refl _ _) mw13
  clear hw
  have z_13 : w12.heap.size ≤ w13.heap.size := dw13.size
  have S_13 : Hid _ := And.intro (owns_below S_12.out.1 dw13) S_12.out.2
  have X0_13 : Hid _ := And.intro (owns_below X0_12.out.1 dw13) X0_12.out.2
  have X1_13 : Hid _ := And.intro (owns_below X1_12.out.1 dw13) X1_12.out.2
  have X3_13 : Hid _ := And.intro (owns_below X3_12.out.1 dw13) X3_12.out.2
  have G_13 : Hid _ := And.intro (owns_below G_12.out.1 dw13) G_12.out.2
  have Y1_13 : Hid _ := And.intro (owns_below Y1_12.out.1 dw13) Y1_12.out.2
  have C_13 : Hid _ := And.intro (C_12.out.1.trans (dw13.mono C_12.out.1.size)) True.intro
  clear dw13
  go_wp2_with fail
  go_at_call 6
  refine (TB3.out _ (EN3.out.2.below C_13.out.1)).mono ?_
  rintro e w14 ⟨Y3, rfl, oY3, bY3⟩
  have z_14 : w13.heap.size ≤ w14.heap.size := bY3.size
  have S_14 : Hid _ := And.intro (owns_below S_13.out.1 bY3) S_13.out.2
  have X0_14 : Hid _ := And.intro (owns_below X0_13.out.1 bY3) X0_13.out.2
  have X1_14 : Hid _ := And.intro (owns_below X1_13.out.1 bY3) X1_13.out.2
  have X3_14 : Hid _ := And.intro (owns_below X3_13.out.1 bY3) X3_13.out.2
  have G_14 : Hid _ := And.intro (owns_below G_13.out.1 bY3) G_13.out.2
  have C_14 : Hid _ := And.intro (C_13.out.1.trans (bY3.mono C_13.out.1.size)) True.intro
  have Y3_14 : Hid _ := And.intro oY3 (fun g (hg : Value.ownBlock _ = some g) => oY3.lt g hg)
  clear oY3 bY3
  go_wp2_with fail
  go_at_call 8
  refine (eqBytes_same _ _ x3 _ (row_of_owns X3_14.out.1) (row_of_owns Y3_14.out.1) (by rw [← EN3.out.1]; omega)).mono ?_
  rintro e w15 ⟨rfl, mw15, hw⟩
  have dw15 : Below w14.heap.size w14 w15 := by rw [hw]; exact below_drewN (Below.refl _ _) mw15
  clear hw
  have z_15 : w14.heap.size ≤ w15.heap.size := dw15.size
  have S_15 : Hid _ := And.intro (owns_below S_14.out.1 dw15) S_14.out.2
  have X0_15 : Hid _ := And.intro (owns_below X0_14.out.1 dw15) X0_14.out.2
  have X1_15 : Hid _ := And.intro (owns_below X1_14.out.1 dw15) X1_14.out.2
  have X3_15 : Hid _ := And.intro (owns_below X3_14.out.1 dw15) X3_14.out.2
  have G_15 : Hid _ := And.intro (owns_below G_14.out.1 dw15) G_14.out.2
  have Y3_15 : Hid _ := And.intro (owns_below Y3_14.out.1 dw15) Y3_14.out.2
  have C_15 : Hid _ := And.intro (C_14.out.1.trans (dw15.mono C_14.out.1.size)) True.intro
  clear dw15
  go_wp2_with fail
  go_at_call 9
  refine (markBytes 1 n0 _ _ x0 _ (by omega) (by omega) (by omega) (by have h := X0_15.out.1; rw [← EN0.out.1] at h; exact h)).mono ?_
  rintro e w16 ⟨rfl, om, bm, zm, om'⟩
  have ch : Chg (fun g => Value.ownBlock _ = some g) _ _ := Chg.of_only om' (fun g e => e)
  have z_16 : w15.heap.size ≤ w16.heap.size := ch.size
  have S_16 : Hid _ := And.intro (ch.owns S_15.out.1 (fun g hg hs => by have p1 := S_15.out.2 g hg; have p2 := X0_15.out.2 g hs; omega)) S_15.out.2
  have X1_16 : Hid _ := And.intro (ch.owns X1_15.out.1 (fun g hg hs => by have p1 := X1_15.out.2 g hg; have p2 := X0_15.out.2 g hs; omega)) X1_15.out.2
  have X3_16 : Hid _ := And.intro (ch.owns X3_15.out.1 (fun g hg hs => by have p1 := X3_15.out.2 g hg; have p2 := X0_15.out.2 g hs; omega)) X3_15.out.2
  have G_16 : Hid _ := And.intro (ch.owns G_15.out.1 (fun g hg hs => by have p1 := G_15.out.2 g hg; have p2 := X0_15.out.2 g hs; omega)) G_15.out.2
  have C_16 : Hid _ := And.intro (C_15.out.1.trans (ch.below C_15.out.1.size (fun g hg => by have p2 := X0_15.out.2 g hg; omega))) True.intro
  have X0_16 : Hid _ := And.intro om X0_15.out.2
  clear om bm zm om' ch
  go_wp2_with fail
  go_at_call 9
  refine (markBytes (1 + (n0 : Int)) n1 _ _ x1 _ (by omega) (by omega) (by omega) (by have h := X1_16.out.1; rw [← EN1.out.1] at h; exact h)).mono ?_
  rintro e w17 ⟨rfl, om, bm, zm, om'⟩
  have ch : Chg (fun g => Value.ownBlock _ = some g) _ _ := Chg.of_only om' (fun g e => e)
  have z_17 : w16.heap.size ≤ w17.heap.size := ch.size
  have S_17 : Hid _ := And.intro (ch.owns S_16.out.1 (fun g hg hs => by have p1 := S_16.out.2 g hg; have p2 := X1_16.out.2 g hs; omega)) S_16.out.2
  have X0_17 : Hid _ := And.intro (ch.owns X0_16.out.1 (fun g hg hs => by have p1 := X0_16.out.2 g hg; have p2 := X1_16.out.2 g hs; omega)) X0_16.out.2
  have X3_17 : Hid _ := And.intro (ch.owns X3_16.out.1 (fun g hg hs => by have p1 := X3_16.out.2 g hg; have p2 := X1_16.out.2 g hs; omega)) X3_16.out.2
  have G_17 : Hid _ := And.intro (ch.owns G_16.out.1 (fun g hg hs => by have p1 := G_16.out.2 g hg; have p2 := X1_16.out.2 g hs; omega)) G_16.out.2
  have C_17 : Hid _ := And.intro (C_16.out.1.trans (ch.below C_16.out.1.size (fun g hg => by have p2 := X1_16.out.2 g hg; omega))) True.intro
  have X1_17 : Hid _ := And.intro om X1_16.out.2
  clear om bm zm om' ch
  go_wp2_with fail
  go_at_call 9
  refine (markBytes ((1 + (n0 : Int)) + (n1 : Int)) n3 _ _ x3 _ (by omega) (by omega) (by omega) (by have h := X3_17.out.1; rw [← EN3.out.1] at h; exact h)).mono ?_
  rintro e w18 ⟨rfl, om, bm, zm, om'⟩
  have ch : Chg (fun g => Value.ownBlock _ = some g) _ _ := Chg.of_only om' (fun g e => e)
  have z_18 : w17.heap.size ≤ w18.heap.size := ch.size
  have S_18 : Hid _ := And.intro (ch.owns S_17.out.1 (fun g hg hs => by have p1 := S_17.out.2 g hg; have p2 := X3_17.out.2 g hs; omega)) S_17.out.2
  have X0_18 : Hid _ := And.intro (ch.owns X0_17.out.1 (fun g hg hs => by have p1 := X0_17.out.2 g hg; have p2 := X3_17.out.2 g hs; omega)) X0_17.out.2
  have X1_18 : Hid _ := And.intro (ch.owns X1_17.out.1 (fun g hg hs => by have p1 := X1_17.out.2 g hg; have p2 := X3_17.out.2 g hs; omega)) X1_17.out.2
  have G_18 : Hid _ := And.intro (ch.owns G_17.out.1 (fun g hg hs => by have p1 := G_17.out.2 g hg; have p2 := X3_17.out.2 g hs; omega)) G_17.out.2
  have C_18 : Hid _ := And.intro (C_17.out.1.trans (ch.below C_17.out.1.size (fun g hg => by have p2 := X3_17.out.2 g hg; omega))) True.intro
  have X3_18 : Hid _ := And.intro om X3_17.out.2
  clear om bm zm om' ch
  go_wp2_with fail
  go_at_call 8
  refine (eqBytes_same _ _ y _ (row_of_owns G_18.out.1) (row_of_owns S_18.out.1) (by rw [← EM.out.1]; omega)).mono ?_
  rintro e w19 ⟨rfl, mw19, hw⟩
  have dw19 : Below w18.heap.size w18 w19 := by rw [hw]; exact below_drewN (Below.refl _ _) mw19
  clear hw
  have z_19 : w18.heap.size ≤ w19.heap.size := dw19.size
  have S_19 : Hid _ := And.intro (owns_below S_18.out.1 dw19) S_18.out.2
  have X0_19 : Hid _ := And.intro (owns_below X0_18.out.1 dw19) X0_18.out.2
  have X1_19 : Hid _ := And.intro (owns_below X1_18.out.1 dw19) X1_18.out.2
  have X3_19 : Hid _ := And.intro (owns_below X3_18.out.1 dw19) X3_18.out.2
  have G_19 : Hid _ := And.intro (owns_below G_18.out.1 dw19) G_18.out.2
  have C_19 : Hid _ := And.intro (C_18.out.1.trans (dw19.mono C_18.out.1.size)) True.intro
  clear dw19
  go_wp2_with fail
  go_at_call 9
  refine (markBytes 1 m _ _ y _ (by omega) (by omega) (by omega) (G_19.out.1)).mono ?_
  rintro e w20 ⟨rfl, om, bm, zm, om'⟩
  have ch : Chg (fun g => Value.ownBlock _ = some g) _ _ := Chg.of_only om' (fun g e => e)
  have z_20 : w19.heap.size ≤ w20.heap.size := ch.size
  have S_20 : Hid _ := And.intro (ch.owns S_19.out.1 (fun g hg hs => by have p1 := S_19.out.2 g hg; have p2 := G_19.out.2 g hs; omega)) S_19.out.2
  have X0_20 : Hid _ := And.intro (ch.owns X0_19.out.1 (fun g hg hs => by have p1 := X0_19.out.2 g hg; have p2 := G_19.out.2 g hs; omega)) X0_19.out.2
  have X1_20 : Hid _ := And.intro (ch.owns X1_19.out.1 (fun g hg hs => by have p1 := X1_19.out.2 g hg; have p2 := G_19.out.2 g hs; omega)) X1_19.out.2
  have X3_20 : Hid _ := And.intro (ch.owns X3_19.out.1 (fun g hg hs => by have p1 := X3_19.out.2 g hg; have p2 := G_19.out.2 g hs; omega)) X3_19.out.2
  have C_20 : Hid _ := And.intro (C_19.out.1.trans (ch.below C_19.out.1.size (fun g hg => by have p2 := G_19.out.2 g hg; omega))) True.intro
  have G_20 : Hid _ := And.intro om G_19.out.2
  clear om bm zm om' ch
  go_wp2_with fail
  go_at_call 10
  refine (heldBytes 1 m _ _ (row_of_owns G_20.out.1) (by omega) (by decide) (by decide)).mono ?_
  rintro e w21 ⟨rfl, hw⟩
  subst w21
  go_wp2_with fail
  go_at_call 6
  refine (TB0.out _ (EN0.out.2.below C_20.out.1)).mono ?_
  rintro e w22 ⟨H0, rfl, oH0, bH0⟩
  have z_21 : w20.heap.size ≤ w22.heap.size := bH0.size
  have S_21 : Hid _ := And.intro (owns_below S_20.out.1 bH0) S_20.out.2
  have X0_21 : Hid _ := And.intro (owns_below X0_20.out.1 bH0) X0_20.out.2
  have X1_21 : Hid _ := And.intro (owns_below X1_20.out.1 bH0) X1_20.out.2
  have X3_21 : Hid _ := And.intro (owns_below X3_20.out.1 bH0) X3_20.out.2
  have G_21 : Hid _ := And.intro (owns_below G_20.out.1 bH0) G_20.out.2
  have C_21 : Hid _ := And.intro (C_20.out.1.trans (bH0.mono C_20.out.1.size)) True.intro
  have H0_21 : Hid _ := And.intro oH0 (fun g (hg : Value.ownBlock _ = some g) => oH0.lt g hg)
  clear oH0 bH0
  go_wp2_with fail
  go_at_call 6
  refine (TB1.out _ (EN1.out.2.below C_21.out.1)).mono ?_
  rintro e w23 ⟨H1, rfl, oH1, bH1⟩
  have z_22 : w22.heap.size ≤ w23.heap.size := bH1.size
  have S_22 : Hid _ := And.intro (owns_below S_21.out.1 bH1) S_21.out.2
  have X0_22 : Hid _ := And.intro (owns_below X0_21.out.1 bH1) X0_21.out.2
  have X1_22 : Hid _ := And.intro (owns_below X1_21.out.1 bH1) X1_21.out.2
  have X3_22 : Hid _ := And.intro (owns_below X3_21.out.1 bH1) X3_21.out.2
  have G_22 : Hid _ := And.intro (owns_below G_21.out.1 bH1) G_21.out.2
  have H0_22 : Hid _ := And.intro (owns_below H0_21.out.1 bH1) H0_21.out.2
  have C_22 : Hid _ := And.intro (C_21.out.1.trans (bH1.mono C_21.out.1.size)) True.intro
  have H1_22 : Hid _ := And.intro oH1 (fun g (hg : Value.ownBlock _ = some g) => oH1.lt g hg)
  clear oH1 bH1
  go_wp2_with fail
  go_at_call 6
  refine (TB3.out _ (EN3.out.2.below C_22.out.1)).mono ?_
  rintro e w24 ⟨H3, rfl, oH3, bH3⟩
  have z_23 : w23.heap.size ≤ w24.heap.size := bH3.size
  have S_23 : Hid _ := And.intro (owns_below S_22.out.1 bH3) S_22.out.2
  have X0_23 : Hid _ := And.intro (owns_below X0_22.out.1 bH3) X0_22.out.2
  have X1_23 : Hid _ := And.intro (owns_below X1_22.out.1 bH3) X1_22.out.2
  have X3_23 : Hid _ := And.intro (owns_below X3_22.out.1 bH3) X3_22.out.2
  have G_23 : Hid _ := And.intro (owns_below G_22.out.1 bH3) G_22.out.2
  have H0_23 : Hid _ := And.intro (owns_below H0_22.out.1 bH3) H0_22.out.2
  have H1_23 : Hid _ := And.intro (owns_below H1_22.out.1 bH3) H1_22.out.2
  have C_23 : Hid _ := And.intro (C_22.out.1.trans (bH3.mono C_22.out.1.size)) True.intro
  have H3_23 : Hid _ := And.intro oH3 (fun g (hg : Value.ownBlock _ = some g) => oH3.lt g hg)
  clear oH3 bH3
  go_wp2_with fail
  go_at_call 7
  refine (HI.out.1 _ _ _ _ (HV.out.1 _ C_23.out.1) (row_of_owns H0_23.out.1) (row_of_owns H1_23.out.1) (row_of_owns H3_23.out.1)).mono ?_
  rintro e w25 ⟨H, rfl, oH, bH⟩
  have z_24 : w24.heap.size ≤ w25.heap.size := bH.size
  have S_24 : Hid _ := And.intro (owns_below S_23.out.1 bH) S_23.out.2
  have X0_24 : Hid _ := And.intro (owns_below X0_23.out.1 bH) X0_23.out.2
  have X1_24 : Hid _ := And.intro (owns_below X1_23.out.1 bH) X1_23.out.2
  have X3_24 : Hid _ := And.intro (owns_below X3_23.out.1 bH) X3_23.out.2
  have G_24 : Hid _ := And.intro (owns_below G_23.out.1 bH) G_23.out.2
  have H0_24 : Hid _ := And.intro (owns_below H0_23.out.1 bH) H0_23.out.2
  have H1_24 : Hid _ := And.intro (owns_below H1_23.out.1 bH) H1_23.out.2
  have H3_24 : Hid _ := And.intro (owns_below H3_23.out.1 bH) H3_23.out.2
  have C_24 : Hid _ := And.intro (C_23.out.1.trans (bH.mono C_23.out.1.size)) True.intro
  have H_24 : Hid _ := And.intro oH (fun g (hg : Value.ownBlock _ = some g) => oH.lt g hg)
  clear oH bH
  go_wp2_with fail
  go_at_call 8
  refine (eqBytes_same _ _ y _ (row_of_owns H_24.out.1) (row_of_owns S_24.out.1) (by rw [← EM.out.1]; omega)).mono ?_
  rintro e w26 ⟨rfl, mw26, hw⟩
  have dw26 : Below w25.heap.size w25 w26 := by rw [hw]; exact below_drewN (Below.refl _ _) mw26
  clear hw
  have z_25 : w25.heap.size ≤ w26.heap.size := dw26.size
  have S_25 : Hid _ := And.intro (owns_below S_24.out.1 dw26) S_24.out.2
  have X0_25 : Hid _ := And.intro (owns_below X0_24.out.1 dw26) X0_24.out.2
  have X1_25 : Hid _ := And.intro (owns_below X1_24.out.1 dw26) X1_24.out.2
  have X3_25 : Hid _ := And.intro (owns_below X3_24.out.1 dw26) X3_24.out.2
  have G_25 : Hid _ := And.intro (owns_below G_24.out.1 dw26) G_24.out.2
  have H_25 : Hid _ := And.intro (owns_below H_24.out.1 dw26) H_24.out.2
  have C_25 : Hid _ := And.intro (C_24.out.1.trans (dw26.mono C_24.out.1.size)) True.intro
  clear dw26
  go_wp2_with fail
  go_at_call 10
  refine (heldBytes 1 m _ _ (row_of_owns G_25.out.1) (by omega) (by decide) (by decide)).mono ?_
  rintro e w27 ⟨rfl, hw⟩
  subst w27
  go_wp2
  go_ret
  exact ⟨rfl, C_25.out.1⟩
/-- For arguments of whatever size: over the model's contract and the program's, where the sizes are within the law's. -/
theorem tokenMake_walkOf (v0 : Value) (x0 : List Int) (v1 : Value) (x1 : List Int) (a2 : Int) (v3 : Value) (x3 : List Int) (y : List Int) (c1 : Int) (w : World) (Inv : World → Prop) (hInv : ∀ w' : World, Below w.heap.size w w' → Inv w') (l0 : x0.length ≤ maxLen) (wf0 : ∀ x ∈ x0, (Lit.int .u8 x).wf = true) (l1 : x1.length ≤ maxLen) (wf1 : ∀ x ∈ x1, (Lit.int .u8 x).wf = true) (wf2 : (Lit.int .i64 a2).wf = true) (l3 : x3.length ≤ maxLen) (wf3 : ∀ x ∈ x3, (Lit.int .u8 x).wf = true) (row0 : Row w .u8 v0 x0) (row1 : Row w .u8 v1 x1) (row3 : Row w .u8 v3 x3) (lr : y.length ≤ 4194304)
    (hS : ∀ (w : World) (u0 : Value) (u1 : Value) (u3 : Value), Row w .u8 u0 x0 → Row w .u8 u1 x1 → Row w .u8 u3 x3 → Calls Try.prog 5 #[u0, u1, .int .i64 a2, u3] w fun e w' => ∃ r, e = .returned (.tuple #[r, .int .i64 c1]) ∧ w'.ownsRow w.heap.size 5 1 r y.length (y.map (Value.int .u8)) ∧ Below w.heap.size w w')
    (hI : ∀ (w : World) (u0 : Value) (u1 : Value) (u3 : Value), Inv w → Row w .u8 u0 x0 → Row w .u8 u1 x1 → Row w .u8 u3 x3 → Calls Try.prog 7 #[u0, u1, .int .i64 a2, u3] w fun e w' => ∃ r, e = .returned (.tuple #[r, .int .i64 c1]) ∧ w'.ownsRow w.heap.size 5 1 r y.length (y.map (Value.int .u8)) ∧ Below w.heap.size w w') :
    Calls Try.prog 3 #[v0, v1, .int .i64 a2, v3] w fun e w' => e = .returned (.bool true) ∧ Below w.heap.size w w' := by
  have m0 : x0.length ≤ 9223372036854775807 := by have h := l0; unfold maxLen at h; omega
  have m1 : x1.length ≤ 9223372036854775807 := by have h := l1; unfold maxLen at h; omega
  have m3 : x3.length ≤ 9223372036854775807 := by have h := l3; unfold maxLen at h; omega
  by_cases g0 : 1048576 < x0.length
  · obtain ⟨ao0, cp0, rfl⟩ := row0.form; obtain ⟨ao1, cp1, rfl⟩ := row1.form; obtain ⟨ao3, cp3, rfl⟩ := row3.form; exact tokenMake_huge0 ao0 _ cp0 ao1 _ cp1 a2 ao3 _ cp3 w g0 m0
  · skip
    by_cases g1 : 1048576 < x1.length
    · obtain ⟨ao0, cp0, rfl⟩ := row0.form; obtain ⟨ao1, cp1, rfl⟩ := row1.form; obtain ⟨ao3, cp3, rfl⟩ := row3.form; exact tokenMake_huge1 ao0 _ cp0 ao1 _ cp1 a2 ao3 _ cp3 w (by omega) g1 m1
    · skip
      by_cases g3 : 1048576 < x3.length
      · obtain ⟨ao0, cp0, rfl⟩ := row0.form; obtain ⟨ao1, cp1, rfl⟩ := row1.form; obtain ⟨ao3, cp3, rfl⟩ := row3.form; exact tokenMake_huge3 ao0 _ cp0 ao1 _ cp1 a2 ao3 _ cp3 w (by omega) (by omega) g3 m3
      · skip
        exact tokenMakeLaw v0 x0 v1 x1 a2 v3 x3 y c1 w Inv hInv row0 (by omega) row1 (by omega) row3 (by omega) lr hS hI
end Go.Proofs.Yteekpdmblododaa
