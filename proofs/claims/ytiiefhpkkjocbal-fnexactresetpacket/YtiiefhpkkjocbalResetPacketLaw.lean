import Derived.Test.YtiiefhpkkjocbalEqBytes
import Derived.Test.YtiiefhpkkjocbalMarkBytes
import Derived.Test.YtiiefhpkkjocbalToBytes
import Derived.Test.YtiiefhpkkjocbalKeys
import Derived.Test.YtiiefhpkkjocbalBook
import Derived.Deep.RegionWith
import Derived.Deep.CutRange
namespace Go.Proofs.Ytiiefhpkkjocbal
open Go.RowKit
set_option linter.unusedVariables false

theorem resetPacket_huge0 (ao0 : Option Addr) (n0 cp0 : Nat) (ao1 : Option Addr) (n1 cp1 : Nat) (w : World) (h0 : 1048576 < n0) (m0 : n0 ≤ 9223372036854775807) :
    Calls Try.prog 4 #[.slice ao0 n0 cp0, .slice ao1 n1 cp1] w fun e w' => e = .returned (.bool true) ∧ Below w.heap.size w w' := by
  go_enter Try.func4, Try.ntmps4
  go_wp2
  go_ret
  exact ⟨rfl, Below.refl _ _⟩
theorem resetPacket_huge1 (ao0 : Option Addr) (n0 cp0 : Nat) (ao1 : Option Addr) (n1 cp1 : Nat) (w : World) (h0 : n0 ≤ 1048576) (h1 : 1048576 < n1) (m1 : n1 ≤ 9223372036854775807) :
    Calls Try.prog 4 #[.slice ao0 n0 cp0, .slice ao1 n1 cp1] w fun e w' => e = .returned (.bool true) ∧ Below w.heap.size w w' := by
  go_enter Try.func4, Try.ntmps4
  go_wp2
  go_ret
  exact ⟨rfl, Below.refl _ _⟩
set_option maxRecDepth 20000 in
set_option maxHeartbeats 8000000 in
theorem resetPacketLaw (v0 : Value) (x0 : List Int) (v1 : Value) (x1 : List Int) (y : List Int) (c1 : Int) (w : World) (Inv : World → Prop) (hInv : ∀ w' : World, Below w.heap.size w w' → Inv w') (row0 : Row w .u8 v0 x0) (l0 : x0.length ≤ 1048576) (row1 : Row w .u8 v1 x1) (l1 : x1.length ≤ 1048576) (lr : y.length ≤ 4194304)
    (hS : ∀ (w : World) (u0 : Value) (u1 : Value), Row w .u8 u0 x0 → Row w .u8 u1 x1 → Calls Try.prog 12 #[u0, u1] w fun e w' => ∃ r, e = .returned (.tuple #[r, .int .i64 c1]) ∧ w'.ownsRow w.heap.size 5 1 r y.length (y.map (Value.int .u8)) ∧ Below w.heap.size w w')
    (hI : ∀ (w : World) (u0 : Value) (u1 : Value), Inv w → Row w .u8 u0 x0 → Row w .u8 u1 x1 → Calls Try.prog 13 #[u0, u1] w fun e w' => ∃ r, e = .returned (.tuple #[r, .int .i64 c1]) ∧ w'.ownsRow w.heap.size 5 1 r y.length (y.map (Value.int .u8)) ∧ Below w.heap.size w w') :
    Calls Try.prog 4 #[v0, v1] w fun e w' => e = .returned (.bool true) ∧ Below w.heap.size w w' := by
  obtain ⟨ao0, cp0, ev0⟩ := row0.form
  subst ev0
  obtain ⟨n0, en0⟩ : ∃ n, n = x0.length := ⟨_, rfl⟩
  have TB0 : Hid (∀ w : World, Row w .u8 (.slice ao0 n0 cp0) x0 → Calls Try.prog 7 #[.slice ao0 n0 cp0] w fun e w' => ∃ r, e = .returned r ∧ w'.ownsRow w.heap.size 5 1 r x0.length (x0.map (Value.int .u8)) ∧ Below w.heap.size w w') := fun w h => toBytes _ x0 w h (by omega)
  rw [← en0] at row0 l0 ⊢
  have EN0 : Hid _ := And.intro en0 row0
  obtain ⟨ao1, cp1, ev1⟩ := row1.form
  subst ev1
  obtain ⟨n1, en1⟩ : ∃ n, n = x1.length := ⟨_, rfl⟩
  have TB1 : Hid (∀ w : World, Row w .u8 (.slice ao1 n1 cp1) x1 → Calls Try.prog 7 #[.slice ao1 n1 cp1] w fun e w' => ∃ r, e = .returned r ∧ w'.ownsRow w.heap.size 5 1 r x1.length (x1.map (Value.int .u8)) ∧ Below w.heap.size w w') := fun w h => toBytes _ x1 w h (by omega)
  rw [← en1] at row1 l1 ⊢
  have EN1 : Hid _ := And.intro en1 row1
  have hc1 : (c1 != c1) = false := by simp
  obtain ⟨m, em⟩ : ∃ m, m = y.length := ⟨_, rfl⟩
  rw [← em] at lr hS hI
  have EM : Hid _ := And.intro em True.intro
  have HS : Hid _ := And.intro hS True.intro
  have HI : Hid _ := And.intro hI True.intro
  have HV : Hid _ := And.intro hInv True.intro
  have C_0 : Hid _ := And.intro (Below.refl w.heap.size w) True.intro
  clear hS hI hInv row0 en0 row1 en1 em
  go_enter Try.func4, Try.ntmps4
  go_wp2_with fail
  go_at_call 7
  refine (TB0.out _ (EN0.out.2.below C_0.out.1)).mono ?_
  rintro e w1 ⟨T0, rfl, oT0, bT0⟩
  have z_1 : w.heap.size ≤ w1.heap.size := bT0.size
  have C_1 : Hid _ := And.intro (C_0.out.1.trans (bT0.mono C_0.out.1.size)) True.intro
  have T0_1 : Hid _ := And.intro oT0 (fun g (hg : Value.ownBlock _ = some g) => oT0.lt g hg)
  clear oT0 bT0
  go_wp2_with fail
  go_at_call 7
  refine (TB1.out _ (EN1.out.2.below C_1.out.1)).mono ?_
  rintro e w2 ⟨T1, rfl, oT1, bT1⟩
  have z_2 : w1.heap.size ≤ w2.heap.size := bT1.size
  have T0_2 : Hid _ := And.intro (owns_below T0_1.out.1 bT1) T0_1.out.2
  have C_2 : Hid _ := And.intro (C_1.out.1.trans (bT1.mono C_1.out.1.size)) True.intro
  have T1_2 : Hid _ := And.intro oT1 (fun g (hg : Value.ownBlock _ = some g) => oT1.lt g hg)
  clear oT1 bT1
  go_wp2_with fail
  go_at_call 12
  refine (HS.out.1 _ _ _ (row_of_owns T0_2.out.1) (row_of_owns T1_2.out.1)).mono ?_
  rintro e w3 ⟨S, rfl, oS, bS⟩
  have z_3 : w2.heap.size ≤ w3.heap.size := bS.size
  have T0_3 : Hid _ := And.intro (owns_below T0_2.out.1 bS) T0_2.out.2
  have T1_3 : Hid _ := And.intro (owns_below T1_2.out.1 bS) T1_2.out.2
  have C_3 : Hid _ := And.intro (C_2.out.1.trans (bS.mono C_2.out.1.size)) True.intro
  have S_3 : Hid _ := And.intro oS (fun g (hg : Value.ownBlock _ = some g) => oS.lt g hg)
  clear oS bS
  go_wp2_with fail
  go_at_call 7
  refine (TB0.out _ (EN0.out.2.below C_3.out.1)).mono ?_
  rintro e w4 ⟨X0, rfl, oX0, bX0⟩
  have z_4 : w3.heap.size ≤ w4.heap.size := bX0.size
  have S_4 : Hid _ := And.intro (owns_below S_3.out.1 bX0) S_3.out.2
  have C_4 : Hid _ := And.intro (C_3.out.1.trans (bX0.mono C_3.out.1.size)) True.intro
  have X0_4 : Hid _ := And.intro oX0 (fun g (hg : Value.ownBlock _ = some g) => oX0.lt g hg)
  clear oX0 bX0
  go_wp2_with fail
  go_at_call 7
  refine (TB1.out _ (EN1.out.2.below C_4.out.1)).mono ?_
  rintro e w5 ⟨X1, rfl, oX1, bX1⟩
  have z_5 : w4.heap.size ≤ w5.heap.size := bX1.size
  have S_5 : Hid _ := And.intro (owns_below S_4.out.1 bX1) S_4.out.2
  have X0_5 : Hid _ := And.intro (owns_below X0_4.out.1 bX1) X0_4.out.2
  have C_5 : Hid _ := And.intro (C_4.out.1.trans (bX1.mono C_4.out.1.size)) True.intro
  have X1_5 : Hid _ := And.intro oX1 (fun g (hg : Value.ownBlock _ = some g) => oX1.lt g hg)
  clear oX1 bX1
  go_wp2_with fail
  go_at_call 13
  refine (HI.out.1 _ _ _ (HV.out.1 _ C_5.out.1) (row_of_owns X0_5.out.1) (row_of_owns X1_5.out.1)).mono ?_
  rintro e w6 ⟨G, rfl, oG, bG⟩
  have z_6 : w5.heap.size ≤ w6.heap.size := bG.size
  have S_6 : Hid _ := And.intro (owns_below S_5.out.1 bG) S_5.out.2
  have X0_6 : Hid _ := And.intro (owns_below X0_5.out.1 bG) X0_5.out.2
  have X1_6 : Hid _ := And.intro (owns_below X1_5.out.1 bG) X1_5.out.2
  have C_6 : Hid _ := And.intro (C_5.out.1.trans (bG.mono C_5.out.1.size)) True.intro
  have G_6 : Hid _ := And.intro oG (fun g (hg : Value.ownBlock _ = some g) => oG.lt g hg)
  clear oG bG
  go_wp2_with fail
  go_at_call 9
  refine (eqBytes_same _ _ y _ (row_of_owns G_6.out.1) (row_of_owns S_6.out.1) (by rw [← EM.out.1]; omega)).mono ?_
  rintro e w7 ⟨rfl, mw7, hw⟩
  have dw7 : Below w6.heap.size w6 w7 := by rw [hw]; exact below_drewN (Below.refl _ _) mw7
  clear hw
  have z_7 : w6.heap.size ≤ w7.heap.size := dw7.size
  have S_7 : Hid _ := And.intro (owns_below S_6.out.1 dw7) S_6.out.2
  have X0_7 : Hid _ := And.intro (owns_below X0_6.out.1 dw7) X0_6.out.2
  have X1_7 : Hid _ := And.intro (owns_below X1_6.out.1 dw7) X1_6.out.2
  have G_7 : Hid _ := And.intro (owns_below G_6.out.1 dw7) G_6.out.2
  have C_7 : Hid _ := And.intro (C_6.out.1.trans (dw7.mono C_6.out.1.size)) True.intro
  clear dw7
  go_wp2_with fail
  go_at_call 7
  refine (TB0.out _ (EN0.out.2.below C_7.out.1)).mono ?_
  rintro e w8 ⟨Y0, rfl, oY0, bY0⟩
  have z_8 : w7.heap.size ≤ w8.heap.size := bY0.size
  have S_8 : Hid _ := And.intro (owns_below S_7.out.1 bY0) S_7.out.2
  have X0_8 : Hid _ := And.intro (owns_below X0_7.out.1 bY0) X0_7.out.2
  have X1_8 : Hid _ := And.intro (owns_below X1_7.out.1 bY0) X1_7.out.2
  have G_8 : Hid _ := And.intro (owns_below G_7.out.1 bY0) G_7.out.2
  have C_8 : Hid _ := And.intro (C_7.out.1.trans (bY0.mono C_7.out.1.size)) True.intro
  have Y0_8 : Hid _ := And.intro oY0 (fun g (hg : Value.ownBlock _ = some g) => oY0.lt g hg)
  clear oY0 bY0
  go_wp2_with fail
  go_at_call 9
  refine (eqBytes_same _ _ x0 _ (row_of_owns X0_8.out.1) (row_of_owns Y0_8.out.1) (by rw [← EN0.out.1]; omega)).mono ?_
  rintro e w9 ⟨rfl, mw9, hw⟩
  have dw9 : Below w8.heap.size w8 w9 := by rw [hw]; exact below_drewN (Below.refl _ _) mw9
  clear hw
  have z_9 : w8.heap.size ≤ w9.heap.size := dw9.size
  have S_9 : Hid _ := And.intro (owns_below S_8.out.1 dw9) S_8.out.2
  have X0_9 : Hid _ := And.intro (owns_below X0_8.out.1 dw9) X0_8.out.2
  have X1_9 : Hid _ := And.intro (owns_below X1_8.out.1 dw9) X1_8.out.2
  have G_9 : Hid _ := And.intro (owns_below G_8.out.1 dw9) G_8.out.2
  have Y0_9 : Hid _ := And.intro (owns_below Y0_8.out.1 dw9) Y0_8.out.2
  have C_9 : Hid _ := And.intro (C_8.out.1.trans (dw9.mono C_8.out.1.size)) True.intro
  clear dw9
  go_wp2_with fail
  go_at_call 7
  refine (TB1.out _ (EN1.out.2.below C_9.out.1)).mono ?_
  rintro e w10 ⟨Y1, rfl, oY1, bY1⟩
  have z_10 : w9.heap.size ≤ w10.heap.size := bY1.size
  have S_10 : Hid _ := And.intro (owns_below S_9.out.1 bY1) S_9.out.2
  have X0_10 : Hid _ := And.intro (owns_below X0_9.out.1 bY1) X0_9.out.2
  have X1_10 : Hid _ := And.intro (owns_below X1_9.out.1 bY1) X1_9.out.2
  have G_10 : Hid _ := And.intro (owns_below G_9.out.1 bY1) G_9.out.2
  have C_10 : Hid _ := And.intro (C_9.out.1.trans (bY1.mono C_9.out.1.size)) True.intro
  have Y1_10 : Hid _ := And.intro oY1 (fun g (hg : Value.ownBlock _ = some g) => oY1.lt g hg)
  clear oY1 bY1
  go_wp2_with fail
  go_at_call 9
  refine (eqBytes_same _ _ x1 _ (row_of_owns X1_10.out.1) (row_of_owns Y1_10.out.1) (by rw [← EN1.out.1]; omega)).mono ?_
  rintro e w11 ⟨rfl, mw11, hw⟩
  have dw11 : Below w10.heap.size w10 w11 := by rw [hw]; exact below_drewN (Below.refl _ _) mw11
  clear hw
  have z_11 : w10.heap.size ≤ w11.heap.size := dw11.size
  have S_11 : Hid _ := And.intro (owns_below S_10.out.1 dw11) S_10.out.2
  have X0_11 : Hid _ := And.intro (owns_below X0_10.out.1 dw11) X0_10.out.2
  have X1_11 : Hid _ := And.intro (owns_below X1_10.out.1 dw11) X1_10.out.2
  have G_11 : Hid _ := And.intro (owns_below G_10.out.1 dw11) G_10.out.2
  have Y1_11 : Hid _ := And.intro (owns_below Y1_10.out.1 dw11) Y1_10.out.2
  have C_11 : Hid _ := And.intro (C_10.out.1.trans (dw11.mono C_10.out.1.size)) True.intro
  clear dw11
  go_wp2_with fail
  go_at_call 10
  refine (markBytes 1 n0 _ _ x0 _ (by omega) (by omega) (by omega) (by have h := X0_11.out.1; rw [← EN0.out.1] at h; exact h)).mono ?_
  rintro e w12 ⟨rfl, om, bm, zm, om'⟩
  have ch : Chg (fun g => Value.ownBlock _ = some g) _ _ := Chg.of_only om' (fun g e => e)
  have z_12 : w11.heap.size ≤ w12.heap.size := ch.size
  have S_12 : Hid _ := And.intro (ch.owns S_11.out.1 (fun g hg hs => by have p1 := S_11.out.2 g hg; have p2 := X0_11.out.2 g hs; omega)) S_11.out.2
  have X1_12 : Hid _ := And.intro (ch.owns X1_11.out.1 (fun g hg hs => by have p1 := X1_11.out.2 g hg; have p2 := X0_11.out.2 g hs; omega)) X1_11.out.2
  have G_12 : Hid _ := And.intro (ch.owns G_11.out.1 (fun g hg hs => by have p1 := G_11.out.2 g hg; have p2 := X0_11.out.2 g hs; omega)) G_11.out.2
  have C_12 : Hid _ := And.intro (C_11.out.1.trans (ch.below C_11.out.1.size (fun g hg => by have p2 := X0_11.out.2 g hg; omega))) True.intro
  have X0_12 : Hid _ := And.intro om X0_11.out.2
  clear om bm zm om' ch
  go_wp2_with fail
  go_at_call 10
  refine (markBytes (1 + (n0 : Int)) n1 _ _ x1 _ (by omega) (by omega) (by omega) (by have h := X1_12.out.1; rw [← EN1.out.1] at h; exact h)).mono ?_
  rintro e w13 ⟨rfl, om, bm, zm, om'⟩
  have ch : Chg (fun g => Value.ownBlock _ = some g) _ _ := Chg.of_only om' (fun g e => e)
  have z_13 : w12.heap.size ≤ w13.heap.size := ch.size
  have S_13 : Hid _ := And.intro (ch.owns S_12.out.1 (fun g hg hs => by have p1 := S_12.out.2 g hg; have p2 := X1_12.out.2 g hs; omega)) S_12.out.2
  have X0_13 : Hid _ := And.intro (ch.owns X0_12.out.1 (fun g hg hs => by have p1 := X0_12.out.2 g hg; have p2 := X1_12.out.2 g hs; omega)) X0_12.out.2
  have G_13 : Hid _ := And.intro (ch.owns G_12.out.1 (fun g hg hs => by have p1 := G_12.out.2 g hg; have p2 := X1_12.out.2 g hs; omega)) G_12.out.2
  have C_13 : Hid _ := And.intro (C_12.out.1.trans (ch.below C_12.out.1.size (fun g hg => by have p2 := X1_12.out.2 g hg; omega))) True.intro
  have X1_13 : Hid _ := And.intro om X1_12.out.2
  clear om bm zm om' ch
  go_wp2_with fail
  go_at_call 9
  refine (eqBytes_same _ _ y _ (row_of_owns G_13.out.1) (row_of_owns S_13.out.1) (by rw [← EM.out.1]; omega)).mono ?_
  rintro e w14 ⟨rfl, mw14, hw⟩
  have dw14 : Below w13.heap.size w13 w14 := by rw [hw]; exact below_drewN (Below.refl _ _) mw14
  clear hw
  have z_14 : w13.heap.size ≤ w14.heap.size := dw14.size
  have S_14 : Hid _ := And.intro (owns_below S_13.out.1 dw14) S_13.out.2
  have X0_14 : Hid _ := And.intro (owns_below X0_13.out.1 dw14) X0_13.out.2
  have X1_14 : Hid _ := And.intro (owns_below X1_13.out.1 dw14) X1_13.out.2
  have G_14 : Hid _ := And.intro (owns_below G_13.out.1 dw14) G_13.out.2
  have C_14 : Hid _ := And.intro (C_13.out.1.trans (dw14.mono C_13.out.1.size)) True.intro
  clear dw14
  go_wp2_with fail
  go_at_call 10
  refine (markBytes 1 m _ _ y _ (by omega) (by omega) (by omega) (G_14.out.1)).mono ?_
  rintro e w15 ⟨rfl, om, bm, zm, om'⟩
  have ch : Chg (fun g => Value.ownBlock _ = some g) _ _ := Chg.of_only om' (fun g e => e)
  have z_15 : w14.heap.size ≤ w15.heap.size := ch.size
  have S_15 : Hid _ := And.intro (ch.owns S_14.out.1 (fun g hg hs => by have p1 := S_14.out.2 g hg; have p2 := G_14.out.2 g hs; omega)) S_14.out.2
  have X0_15 : Hid _ := And.intro (ch.owns X0_14.out.1 (fun g hg hs => by have p1 := X0_14.out.2 g hg; have p2 := G_14.out.2 g hs; omega)) X0_14.out.2
  have X1_15 : Hid _ := And.intro (ch.owns X1_14.out.1 (fun g hg hs => by have p1 := X1_14.out.2 g hg; have p2 := G_14.out.2 g hs; omega)) X1_14.out.2
  have C_15 : Hid _ := And.intro (C_14.out.1.trans (ch.below C_14.out.1.size (fun g hg => by have p2 := G_14.out.2 g hg; omega))) True.intro
  have G_15 : Hid _ := And.intro om G_14.out.2
  clear om bm zm om' ch
  go_wp2_with fail
  go_at_call 11
  refine (heldBytes 1 m _ _ (row_of_owns G_15.out.1) (by omega) (by decide) (by decide)).mono ?_
  rintro e w16 ⟨rfl, hw⟩
  subst w16
  go_wp2_with fail
  go_at_call 7
  refine (TB0.out _ (EN0.out.2.below C_15.out.1)).mono ?_
  rintro e w17 ⟨H0, rfl, oH0, bH0⟩
  have z_16 : w15.heap.size ≤ w17.heap.size := bH0.size
  have S_16 : Hid _ := And.intro (owns_below S_15.out.1 bH0) S_15.out.2
  have X0_16 : Hid _ := And.intro (owns_below X0_15.out.1 bH0) X0_15.out.2
  have X1_16 : Hid _ := And.intro (owns_below X1_15.out.1 bH0) X1_15.out.2
  have G_16 : Hid _ := And.intro (owns_below G_15.out.1 bH0) G_15.out.2
  have C_16 : Hid _ := And.intro (C_15.out.1.trans (bH0.mono C_15.out.1.size)) True.intro
  have H0_16 : Hid _ := And.intro oH0 (fun g (hg : Value.ownBlock _ = some g) => oH0.lt g hg)
  clear oH0 bH0
  go_wp2_with fail
  go_at_call 7
  refine (TB1.out _ (EN1.out.2.below C_16.out.1)).mono ?_
  rintro e w18 ⟨H1, rfl, oH1, bH1⟩
  have z_17 : w17.heap.size ≤ w18.heap.size := bH1.size
  have S_17 : Hid _ := And.intro (owns_below S_16.out.1 bH1) S_16.out.2
  have X0_17 : Hid _ := And.intro (owns_below X0_16.out.1 bH1) X0_16.out.2
  have X1_17 : Hid _ := And.intro (owns_below X1_16.out.1 bH1) X1_16.out.2
  have G_17 : Hid _ := And.intro (owns_below G_16.out.1 bH1) G_16.out.2
  have H0_17 : Hid _ := And.intro (owns_below H0_16.out.1 bH1) H0_16.out.2
  have C_17 : Hid _ := And.intro (C_16.out.1.trans (bH1.mono C_16.out.1.size)) True.intro
  have H1_17 : Hid _ := And.intro oH1 (fun g (hg : Value.ownBlock _ = some g) => oH1.lt g hg)
  clear oH1 bH1
  go_wp2_with fail
  go_at_call 13
  refine (HI.out.1 _ _ _ (HV.out.1 _ C_17.out.1) (row_of_owns H0_17.out.1) (row_of_owns H1_17.out.1)).mono ?_
  rintro e w19 ⟨H, rfl, oH, bH⟩
  have z_18 : w18.heap.size ≤ w19.heap.size := bH.size
  have S_18 : Hid _ := And.intro (owns_below S_17.out.1 bH) S_17.out.2
  have X0_18 : Hid _ := And.intro (owns_below X0_17.out.1 bH) X0_17.out.2
  have X1_18 : Hid _ := And.intro (owns_below X1_17.out.1 bH) X1_17.out.2
  have G_18 : Hid _ := And.intro (owns_below G_17.out.1 bH) G_17.out.2
  have H0_18 : Hid _ := And.intro (owns_below H0_17.out.1 bH) H0_17.out.2
  have H1_18 : Hid _ := And.intro (owns_below H1_17.out.1 bH) H1_17.out.2
  have C_18 : Hid _ := And.intro (C_17.out.1.trans (bH.mono C_17.out.1.size)) True.intro
  have H_18 : Hid _ := And.intro oH (fun g (hg : Value.ownBlock _ = some g) => oH.lt g hg)
  clear oH bH
  go_wp2_with fail
  go_at_call 9
  refine (eqBytes_same _ _ y _ (row_of_owns H_18.out.1) (row_of_owns S_18.out.1) (by rw [← EM.out.1]; omega)).mono ?_
  rintro e w20 ⟨rfl, mw20, hw⟩
  have dw20 : Below w19.heap.size w19 w20 := by rw [hw]; exact below_drewN (Below.refl _ _) mw20
  clear hw
  have z_19 : w19.heap.size ≤ w20.heap.size := dw20.size
  have S_19 : Hid _ := And.intro (owns_below S_18.out.1 dw20) S_18.out.2
  have X0_19 : Hid _ := And.intro (owns_below X0_18.out.1 dw20) X0_18.out.2
  have X1_19 : Hid _ := And.intro (owns_below X1_18.out.1 dw20) X1_18.out.2
  have G_19 : Hid _ := And.intro (owns_below G_18.out.1 dw20) G_18.out.2
  have H_19 : Hid _ := And.intro (owns_below H_18.out.1 dw20) H_18.out.2
  have C_19 : Hid _ := And.intro (C_18.out.1.trans (dw20.mono C_18.out.1.size)) True.intro
  clear dw20
  go_wp2_with fail
  go_at_call 11
  refine (heldBytes 1 m _ _ (row_of_owns G_19.out.1) (by omega) (by decide) (by decide)).mono ?_
  rintro e w21 ⟨rfl, hw⟩
  subst w21
  go_wp2
  go_ret
  exact ⟨rfl, C_19.out.1⟩
/-- For arguments of whatever size: over the model's contract and the program's, where the sizes are within the law's. -/
theorem resetPacket_walkOf (v0 : Value) (x0 : List Int) (v1 : Value) (x1 : List Int) (y : List Int) (c1 : Int) (w : World) (Inv : World → Prop) (hInv : ∀ w' : World, Below w.heap.size w w' → Inv w') (l0 : x0.length ≤ maxLen) (wf0 : ∀ x ∈ x0, (Lit.int .u8 x).wf = true) (l1 : x1.length ≤ maxLen) (wf1 : ∀ x ∈ x1, (Lit.int .u8 x).wf = true) (row0 : Row w .u8 v0 x0) (row1 : Row w .u8 v1 x1) (lr : y.length ≤ 4194304)
    (hS : ∀ (w : World) (u0 : Value) (u1 : Value), Row w .u8 u0 x0 → Row w .u8 u1 x1 → Calls Try.prog 12 #[u0, u1] w fun e w' => ∃ r, e = .returned (.tuple #[r, .int .i64 c1]) ∧ w'.ownsRow w.heap.size 5 1 r y.length (y.map (Value.int .u8)) ∧ Below w.heap.size w w')
    (hI : ∀ (w : World) (u0 : Value) (u1 : Value), Inv w → Row w .u8 u0 x0 → Row w .u8 u1 x1 → Calls Try.prog 13 #[u0, u1] w fun e w' => ∃ r, e = .returned (.tuple #[r, .int .i64 c1]) ∧ w'.ownsRow w.heap.size 5 1 r y.length (y.map (Value.int .u8)) ∧ Below w.heap.size w w') :
    Calls Try.prog 4 #[v0, v1] w fun e w' => e = .returned (.bool true) ∧ Below w.heap.size w w' := by
  have m0 : x0.length ≤ 9223372036854775807 := by have h := l0; unfold maxLen at h; omega
  have m1 : x1.length ≤ 9223372036854775807 := by have h := l1; unfold maxLen at h; omega
  by_cases g0 : 1048576 < x0.length
  · obtain ⟨ao0, cp0, rfl⟩ := row0.form; obtain ⟨ao1, cp1, rfl⟩ := row1.form; exact resetPacket_huge0 ao0 _ cp0 ao1 _ cp1 w g0 m0
  · skip
    by_cases g1 : 1048576 < x1.length
    · obtain ⟨ao0, cp0, rfl⟩ := row0.form; obtain ⟨ao1, cp1, rfl⟩ := row1.form; exact resetPacket_huge1 ao0 _ cp0 ao1 _ cp1 w (by omega) g1 m1
    · skip
      exact resetPacketLaw v0 x0 v1 x1 y c1 w Inv hInv row0 (by omega) row1 (by omega) lr hS hI
end Go.Proofs.Ytiiefhpkkjocbal
