import Derived.Test.YtiiefhpkkjocbajEqBytes
import Derived.Test.YtiiefhpkkjocbajMarkBytes
import Derived.Test.YtiiefhpkkjocbajToBytes
import Derived.Test.YtiiefhpkkjocbajKeys
import Derived.Test.YtiiefhpkkjocbajBook
import Derived.Test.YtiiefhpkkjocbajEqKeys
import Derived.Test.YtiiefhpkkjocbajMarkKeys
import Derived.Test.YtiiefhpkkjocbajSzKeys
import Derived.Test.YtiiefhpkkjocbajToKeys
import Derived.Deep.RegionWith
import Derived.Deep.CutRange
namespace Go.Proofs.Ytiiefhpkkjocbaj
open Go.RowKit
set_option linter.unusedVariables false

theorem openSealed_huge2 (v0 : Value) (k0 : K4) (a1 : Int) (ao2 : Option Addr) (n2 cp2 : Nat) (ao3 : Option Addr) (n3 cp3 : Nat) (w : World) (row0 : KRow w v0 k0) (h2 : 1048576 < n2) (m2 : n2 ≤ 9223372036854775807) :
    Calls Try.prog 4 #[v0, .int .i64 a1, .slice ao2 n2 cp2, .slice ao3 n3 cp3] w fun e w' => e = .returned (.bool true) ∧ Below w.heap.size w w' := by
  obtain ⟨d0, d1, d2, d3, rfl, _⟩ := id row0
  clear row0
  go_enter Try.func4, Try.ntmps4
  go_wp2
  go_ret
  exact ⟨rfl, (Below.refl _ _).alloc (Nat.le_refl _) _⟩
theorem openSealed_huge3 (v0 : Value) (k0 : K4) (a1 : Int) (ao2 : Option Addr) (n2 cp2 : Nat) (ao3 : Option Addr) (n3 cp3 : Nat) (w : World) (row0 : KRow w v0 k0) (h2 : n2 ≤ 1048576) (h3 : 1048576 < n3) (m3 : n3 ≤ 9223372036854775807) :
    Calls Try.prog 4 #[v0, .int .i64 a1, .slice ao2 n2 cp2, .slice ao3 n3 cp3] w fun e w' => e = .returned (.bool true) ∧ Below w.heap.size w w' := by
  obtain ⟨d0, d1, d2, d3, rfl, _⟩ := id row0
  clear row0
  go_enter Try.func4, Try.ntmps4
  go_wp2
  go_ret
  exact ⟨rfl, (Below.refl _ _).alloc (Nat.le_refl _) _⟩
theorem openSealed_hugeK (v0 : Value) (k0 : K4) (a1 : Int) (ao2 : Option Addr) (n2 cp2 : Nat) (ao3 : Option Addr) (n3 cp3 : Nat) (w : World) (row0 : KRow w v0 k0) (h2 : n2 ≤ 1048576) (h3 : n3 ≤ 1048576) (sm : k0.small 9223372036854775807) (ho : 1048576 < k0.total) :
    Calls Try.prog 4 #[v0, .int .i64 a1, .slice ao2 n2 cp2, .slice ao3 n3 cp3] w fun e w' => e = .returned (.bool true) ∧ Below w.heap.size w w' := by
  obtain ⟨d0, d1, d2, d3, rfl, _⟩ := id row0
  have WB : Below w.heap.size w (w.alloc (.cells #[d0, d1, d2, d3] 24)) := (Below.refl _ _).alloc (Nat.le_refl _) _
  have C := sz_over _ k0 1048576 _ (row0.below WB) sm (by decide) (by decide) ho
  have HW : Hid _ := WB
  clear row0 sm ho WB
  go_enter Try.func4, Try.ntmps4
  go_wp2_with fail
  go_at_call 8
  refine C.mono ?_
  rintro e w1 ⟨rfl, b1⟩
  have HB : Hid _ := HW.out.trans (b1.mono HW.out.size)
  clear b1 C
  go_wp2
  go_ret
  exact ⟨rfl, HB.out⟩
set_option maxRecDepth 20000 in
set_option maxHeartbeats 8000000 in
theorem openSealedLaw (v0 : Value) (k0 : K4) (a1 : Int) (v2 : Value) (x2 : List Int) (v3 : Value) (x3 : List Int) (y : List Int) (c1 : Int) (w : World) (Inv : World → Prop) (hInv : ∀ w' : World, Below w.heap.size w w' → Inv w') (row0 : KRow w v0 k0) (l0 : k0.small 1048576) (t0 : k0.total ≤ 1048576) (row2 : Row w .u8 v2 x2) (l2 : x2.length ≤ 1048576) (row3 : Row w .u8 v3 x3) (l3 : x3.length ≤ 1048576) (lr : y.length ≤ 4194304)
    (hS : ∀ (w : World) (u0 : Value) (u2 : Value) (u3 : Value), KRow w u0 k0 → Row w .u8 u2 x2 → Row w .u8 u3 x3 → Calls Try.prog 18 #[u0, .int .i64 a1, u2, u3] w fun e w' => ∃ r, e = .returned (.tuple #[r, .int .i64 c1]) ∧ w'.ownsRow w.heap.size 5 1 r y.length (y.map (Value.int .u8)) ∧ Below w.heap.size w w')
    (hI : ∀ (w : World) (u0 : Value) (u2 : Value) (u3 : Value), Inv w → KRow w u0 k0 → Row w .u8 u2 x2 → Row w .u8 u3 x3 → Calls Try.prog 19 #[u0, .int .i64 a1, u2, u3] w fun e w' => ∃ r, e = .returned (.tuple #[r, .int .i64 c1]) ∧ w'.ownsRow w.heap.size 5 1 r y.length (y.map (Value.int .u8)) ∧ Below w.heap.size w w') :
    Calls Try.prog 4 #[v0, .int .i64 a1, v2, v3] w fun e w' => e = .returned (.bool true) ∧ Below w.heap.size w w' := by
  have TB0 : Hid (∀ w : World, KRow w v0 k0 → Calls Try.prog 10 #[v0] w fun e w' => ∃ r, e = .returned r ∧ KOwns w' w.heap.size r k0 ∧ Below w.heap.size w w') := fun w h => toKeys v0 k0 w h (small_mono l0 (by decide))
  obtain ⟨d0, d1, d2, d3, rfl, _⟩ := id row0
  have WB : Below w.heap.size w (w.alloc (.cells #[d0, d1, d2, d3] 24)) := (Below.refl _ _).alloc (Nat.le_refl _) _
  have B0 := (Book.nil w).add (.cells #[d0, d1, d2, d3] 24)
  have CZ := sz_fit _ k0 1048576 _ (row0.below WB) (small_mono l0 (by decide)) (by decide) (by decide) t0
  have tt0 : 0 ≤ k0.total := by unfold K4.total; omega
  obtain ⟨lt, el⟩ : ∃ lt, lt = 1048576 - k0.total := ⟨_, rfl⟩
  rw [← el] at CZ
  have lt0 : 0 ≤ lt := by omega
  have EN0 : Hid _ := And.intro l0 (And.intro row0 True.intro)
  obtain ⟨kp0, kp1, kp2, kp3⟩ := id l0
  obtain ⟨ao2, cp2, ev2⟩ := row2.form
  subst ev2
  obtain ⟨n2, en2⟩ : ∃ n, n = x2.length := ⟨_, rfl⟩
  have TB2 : Hid (∀ w : World, Row w .u8 (.slice ao2 n2 cp2) x2 → Calls Try.prog 11 #[.slice ao2 n2 cp2] w fun e w' => ∃ r, e = .returned r ∧ w'.ownsRow w.heap.size 5 1 r x2.length (x2.map (Value.int .u8)) ∧ Below w.heap.size w w') := fun w h => toBytes _ x2 w h (by omega)
  rw [← en2] at row2 l2 ⊢
  have EN2 : Hid _ := And.intro en2 row2
  obtain ⟨ao3, cp3, ev3⟩ := row3.form
  subst ev3
  obtain ⟨n3, en3⟩ : ∃ n, n = x3.length := ⟨_, rfl⟩
  have TB3 : Hid (∀ w : World, Row w .u8 (.slice ao3 n3 cp3) x3 → Calls Try.prog 11 #[.slice ao3 n3 cp3] w fun e w' => ∃ r, e = .returned r ∧ w'.ownsRow w.heap.size 5 1 r x3.length (x3.map (Value.int .u8)) ∧ Below w.heap.size w w') := fun w h => toBytes _ x3 w h (by omega)
  rw [← en3] at row3 l3 ⊢
  have EN3 : Hid _ := And.intro en3 row3
  have hc1 : (c1 != c1) = false := by simp
  obtain ⟨m, em⟩ : ∃ m, m = y.length := ⟨_, rfl⟩
  rw [← em] at lr hS hI
  have EM : Hid _ := And.intro em True.intro
  have HS : Hid _ := And.intro hS True.intro
  have HI : Hid _ := And.intro hI True.intro
  have HV : Hid _ := And.intro hInv True.intro
  have C_0 : Hid _ := And.intro WB True.intro
  have B_0 : Hid _ := And.intro B0 True.intro
  have y_0 : (w.alloc (.cells #[d0, d1, d2, d3] 24)).heap.size = w.heap.size + 1 := by simp
  clear hS hI hInv row0 el tt0 t0 l0 row2 en2 row3 en3 em WB B0
  go_enter Try.func4, Try.ntmps4
  go_wp2_with fail
  go_at_call 8
  refine CZ.mono ?_
  rintro e w1 ⟨rfl, bz⟩
  have z_1 : (w.alloc (.cells #[d0, d1, d2, d3] 24)).heap.size ≤ w1.heap.size := bz.size
  have C_1 : Hid _ := And.intro (C_0.out.1.trans (bz.mono C_0.out.1.size)) True.intro
  have B_1 : Hid _ := And.intro (B_0.out.1.below bz) True.intro
  clear CZ bz
  obtain ⟨ld00, ld01, ld02, ld03⟩ := B_1.out.1.c4 (b := w.heap.size) (x0 := d0) (x1 := d1) (x2 := d2) (x3 := d3) (t := 24) (by simp)
  go_wp2_with fail
  go_at_call 10
  refine (TB0.out _ (KRow.below EN0.out.2.1 C_1.out.1)).mono ?_
  rintro e w2 ⟨T0, rfl, oT0, bT0⟩
  clear ld00 ld01 ld02 ld03
  have z_2 : w1.heap.size ≤ w2.heap.size := bT0.size
  have C_2 : Hid _ := And.intro (C_1.out.1.trans (bT0.mono C_1.out.1.size)) True.intro
  have B_2 : Hid _ := And.intro (B_1.out.1.below bT0) True.intro
  have T0_2 : Hid _ := And.intro oT0 (fun g (hg : KBlk _ g) => KOwns.blk oT0 g hg)
  clear oT0 bT0
  go_wp2_with fail
  go_at_call 11
  refine (TB2.out _ (EN2.out.2.below C_2.out.1)).mono ?_
  rintro e w3 ⟨T2, rfl, oT2, bT2⟩
  have z_3 : w2.heap.size ≤ w3.heap.size := bT2.size
  have T0_3 : Hid _ := And.intro (KOwns.below T0_2.out.1 bT2) T0_2.out.2
  have C_3 : Hid _ := And.intro (C_2.out.1.trans (bT2.mono C_2.out.1.size)) True.intro
  have B_3 : Hid _ := And.intro (B_2.out.1.below bT2) True.intro
  have T2_3 : Hid _ := And.intro oT2 (fun g (hg : Value.ownBlock _ = some g) => oT2.lt g hg)
  clear oT2 bT2
  go_wp2_with fail
  go_at_call 11
  refine (TB3.out _ (EN3.out.2.below C_3.out.1)).mono ?_
  rintro e w4 ⟨T3, rfl, oT3, bT3⟩
  have z_4 : w3.heap.size ≤ w4.heap.size := bT3.size
  have T0_4 : Hid _ := And.intro (KOwns.below T0_3.out.1 bT3) T0_3.out.2
  have T2_4 : Hid _ := And.intro (owns_below T2_3.out.1 bT3) T2_3.out.2
  have C_4 : Hid _ := And.intro (C_3.out.1.trans (bT3.mono C_3.out.1.size)) True.intro
  have B_4 : Hid _ := And.intro (B_3.out.1.below bT3) True.intro
  have T3_4 : Hid _ := And.intro oT3 (fun g (hg : Value.ownBlock _ = some g) => oT3.lt g hg)
  clear oT3 bT3
  go_wp2_with fail
  go_at_call 18
  refine (HS.out.1 _ _ _ _ (KOwns.row T0_4.out.1) (row_of_owns T2_4.out.1) (row_of_owns T3_4.out.1)).mono ?_
  rintro e w5 ⟨S, rfl, oS, bS⟩
  have z_5 : w4.heap.size ≤ w5.heap.size := bS.size
  have T0_5 : Hid _ := And.intro (KOwns.below T0_4.out.1 bS) T0_4.out.2
  have T2_5 : Hid _ := And.intro (owns_below T2_4.out.1 bS) T2_4.out.2
  have T3_5 : Hid _ := And.intro (owns_below T3_4.out.1 bS) T3_4.out.2
  have C_5 : Hid _ := And.intro (C_4.out.1.trans (bS.mono C_4.out.1.size)) True.intro
  have B_5 : Hid _ := And.intro (B_4.out.1.below bS) True.intro
  have S_5 : Hid _ := And.intro oS (fun g (hg : Value.ownBlock _ = some g) => oS.lt g hg)
  clear oS bS
  obtain ⟨ld00, ld01, ld02, ld03⟩ := B_5.out.1.c4 (b := w.heap.size) (x0 := d0) (x1 := d1) (x2 := d2) (x3 := d3) (t := 24) (by simp)
  go_wp2_with fail
  go_at_call 10
  refine (TB0.out _ (KRow.below EN0.out.2.1 C_5.out.1)).mono ?_
  rintro e w6 ⟨X0, rfl, oX0, bX0⟩
  clear ld00 ld01 ld02 ld03
  have z_6 : w5.heap.size ≤ w6.heap.size := bX0.size
  have S_6 : Hid _ := And.intro (owns_below S_5.out.1 bX0) S_5.out.2
  have C_6 : Hid _ := And.intro (C_5.out.1.trans (bX0.mono C_5.out.1.size)) True.intro
  have B_6 : Hid _ := And.intro (B_5.out.1.below bX0) True.intro
  have X0_6 : Hid _ := And.intro oX0 (fun g (hg : KBlk _ g) => KOwns.blk oX0 g hg)
  clear oX0 bX0
  obtain ⟨X0a0, X0a1, X0a2, X0a3, X0p0, X0p1, X0p2, X0p3, eX0⟩ := KOwns.parts X0_6.out.1
  subst eX0
  have alX0 : Below w6.heap.size w6 (w6.alloc (.cells #[.slice X0a0 k0.a.length X0p0, .slice X0a1 k0.b.length X0p1, .slice X0a2 k0.c.length X0p2, .slice X0a3 k0.d.length X0p3] 28)) := (Below.refl _ _).alloc (Nat.le_refl _) _
  have z_7 : w6.heap.size ≤ (w6.alloc (.cells #[.slice X0a0 k0.a.length X0p0, .slice X0a1 k0.b.length X0p1, .slice X0a2 k0.c.length X0p2, .slice X0a3 k0.d.length X0p3] 28)).heap.size := alX0.size
  have S_7 : Hid _ := And.intro (owns_below S_6.out.1 alX0) S_6.out.2
  have X0_7 : Hid _ := And.intro (KOwns.below X0_6.out.1 alX0) X0_6.out.2
  have C_7 : Hid _ := And.intro (C_6.out.1.trans (alX0.mono C_6.out.1.size)) True.intro
  have B_7 : Hid _ := And.intro (B_6.out.1.add (.cells #[.slice X0a0 k0.a.length X0p0, .slice X0a1 k0.b.length X0p1, .slice X0a2 k0.c.length X0p2, .slice X0a3 k0.d.length X0p3] 28)) True.intro
  have y_7 : (w6.alloc (.cells #[.slice X0a0 k0.a.length X0p0, .slice X0a1 k0.b.length X0p1, .slice X0a2 k0.c.length X0p2, .slice X0a3 k0.d.length X0p3] 28)).heap.size = w6.heap.size + 1 := by simp
  clear alX0
  go_wp2_with fail
  go_at_call 11
  refine (TB2.out _ (EN2.out.2.below C_7.out.1)).mono ?_
  rintro e w7 ⟨X2, rfl, oX2, bX2⟩
  have z_8 : (w6.alloc (.cells #[.slice X0a0 k0.a.length X0p0, .slice X0a1 k0.b.length X0p1, .slice X0a2 k0.c.length X0p2, .slice X0a3 k0.d.length X0p3] 28)).heap.size ≤ w7.heap.size := bX2.size
  have S_8 : Hid _ := And.intro (owns_below S_7.out.1 bX2) S_7.out.2
  have X0_8 : Hid _ := And.intro (KOwns.below X0_7.out.1 bX2) X0_7.out.2
  have C_8 : Hid _ := And.intro (C_7.out.1.trans (bX2.mono C_7.out.1.size)) True.intro
  have B_8 : Hid _ := And.intro (B_7.out.1.below bX2) True.intro
  have X2_8 : Hid _ := And.intro oX2 (fun g (hg : Value.ownBlock _ = some g) => oX2.lt g hg)
  clear oX2 bX2
  go_wp2_with fail
  go_at_call 11
  refine (TB3.out _ (EN3.out.2.below C_8.out.1)).mono ?_
  rintro e w8 ⟨X3, rfl, oX3, bX3⟩
  have z_9 : w7.heap.size ≤ w8.heap.size := bX3.size
  have S_9 : Hid _ := And.intro (owns_below S_8.out.1 bX3) S_8.out.2
  have X0_9 : Hid _ := And.intro (KOwns.below X0_8.out.1 bX3) X0_8.out.2
  have X2_9 : Hid _ := And.intro (owns_below X2_8.out.1 bX3) X2_8.out.2
  have C_9 : Hid _ := And.intro (C_8.out.1.trans (bX3.mono C_8.out.1.size)) True.intro
  have B_9 : Hid _ := And.intro (B_8.out.1.below bX3) True.intro
  have X3_9 : Hid _ := And.intro oX3 (fun g (hg : Value.ownBlock _ = some g) => oX3.lt g hg)
  clear oX3 bX3
  obtain ⟨ld00, ld01, ld02, ld03⟩ := B_9.out.1.c4 (b := w6.heap.size) (x0 := .slice X0a0 k0.a.length X0p0) (x1 := .slice X0a1 k0.b.length X0p1) (x2 := .slice X0a2 k0.c.length X0p2) (x3 := .slice X0a3 k0.d.length X0p3) (t := 28) (by simp)
  go_wp2_with fail
  go_at_call 19
  refine (HI.out.1 _ _ _ _ (HV.out.1 _ C_9.out.1) (KOwns.row X0_9.out.1) (row_of_owns X2_9.out.1) (row_of_owns X3_9.out.1)).mono ?_
  rintro e w9 ⟨G, rfl, oG, bG⟩
  clear ld00 ld01 ld02 ld03
  have z_10 : w8.heap.size ≤ w9.heap.size := bG.size
  have S_10 : Hid _ := And.intro (owns_below S_9.out.1 bG) S_9.out.2
  have X0_10 : Hid _ := And.intro (KOwns.below X0_9.out.1 bG) X0_9.out.2
  have X2_10 : Hid _ := And.intro (owns_below X2_9.out.1 bG) X2_9.out.2
  have X3_10 : Hid _ := And.intro (owns_below X3_9.out.1 bG) X3_9.out.2
  have C_10 : Hid _ := And.intro (C_9.out.1.trans (bG.mono C_9.out.1.size)) True.intro
  have B_10 : Hid _ := And.intro (B_9.out.1.below bG) True.intro
  have G_10 : Hid _ := And.intro oG (fun g (hg : Value.ownBlock _ = some g) => oG.lt g hg)
  clear oG bG
  go_wp2_with fail
  go_at_call 13
  refine (eqBytes_same _ _ y _ (row_of_owns G_10.out.1) (row_of_owns S_10.out.1) (by rw [← EM.out.1]; omega)).mono ?_
  rintro e w10 ⟨rfl, mw10, hw⟩
  have dw10 : Below w9.heap.size w9 w10 := by rw [hw]; exact below_drewN (Below.refl _ _) mw10
  clear hw
  have z_11 : w9.heap.size ≤ w10.heap.size := dw10.size
  have S_11 : Hid _ := And.intro (owns_below S_10.out.1 dw10) S_10.out.2
  have X0_11 : Hid _ := And.intro (KOwns.below X0_10.out.1 dw10) X0_10.out.2
  have X2_11 : Hid _ := And.intro (owns_below X2_10.out.1 dw10) X2_10.out.2
  have X3_11 : Hid _ := And.intro (owns_below X3_10.out.1 dw10) X3_10.out.2
  have G_11 : Hid _ := And.intro (owns_below G_10.out.1 dw10) G_10.out.2
  have C_11 : Hid _ := And.intro (C_10.out.1.trans (dw10.mono C_10.out.1.size)) True.intro
  have B_11 : Hid _ := And.intro (B_10.out.1.below dw10) True.intro
  clear dw10
  go_upto_region 16 with fail
  go_cut [71] from 67 to 71 (fun cv wx => cv = .bool false ∧ Below w10.heap.size w10 wx)
  case first =>
    have D : Hid (Below w10.heap.size w10 w10.drew) := ⟨rfl, rfl, rfl, Nat.le_refl _, fun _ _ => rfl⟩
    have CD : Hid _ := And.intro (C_11.out.1.trans (D.out.mono C_11.out.1.size)) True.intro
    obtain ⟨ld00, ld01, ld02, ld03⟩ := (B_11.out.1.drew).c4 (b := w6.heap.size) (x0 := .slice X0a0 k0.a.length X0p0) (x1 := .slice X0a1 k0.b.length X0p1) (x2 := .slice X0a2 k0.c.length X0p2) (x3 := .slice X0a3 k0.d.length X0p3) (t := 28) (by simp)
    obtain ⟨ld10, ld11, ld12, ld13⟩ := (B_11.out.1.drew).c4 (b := w.heap.size) (x0 := d0) (x1 := d1) (x2 := d2) (x3 := d3) (t := 24) (by simp)
    go_region_with (first
      | (go_at_call 10; refine (TB0.out w10.drew (KRow.below EN0.out.2.1 CD.out.1)).mono ?_; rintro e wy ⟨ry, rfl, oy, by'⟩; obtain ⟨le0, le1, le2, le3⟩ := (B_11.out.1.drew.below by').c4 (b := w6.heap.size) (x0 := .slice X0a0 k0.a.length X0p0) (x1 := .slice X0a1 k0.b.length X0p1) (x2 := .slice X0a2 k0.c.length X0p2) (x3 := .slice X0a3 k0.d.length X0p3) (t := 28) (by simp))
      | (go_at_call 14; refine (eqKeys_same _ _ k0 wy (KOwns.row ((KOwns.below X0_11.out.1 D.out).below by')) oy.row (small_mono EN0.out.1 (by decide))).mono ?_; rintro e wz ⟨rfl, bz⟩))
    all_goals (go_wp2_with fail; go_meet; exact ⟨rfl, D.out.trans ((by'.trans (bz.mono by'.size)).mono D.out.size)⟩)
  case rest =>
  obtain ⟨rfl, bc⟩ := hcut
  have z_12 : w10.heap.size ≤ wc.heap.size := bc.size
  have S_12 : Hid _ := And.intro (owns_below S_11.out.1 bc) S_11.out.2
  have X0_12 : Hid _ := And.intro (KOwns.below X0_11.out.1 bc) X0_11.out.2
  have X2_12 : Hid _ := And.intro (owns_below X2_11.out.1 bc) X2_11.out.2
  have X3_12 : Hid _ := And.intro (owns_below X3_11.out.1 bc) X3_11.out.2
  have G_12 : Hid _ := And.intro (owns_below G_11.out.1 bc) G_11.out.2
  have C_12 : Hid _ := And.intro (C_11.out.1.trans (bc.mono C_11.out.1.size)) True.intro
  have B_12 : Hid _ := And.intro (B_11.out.1.below bc) True.intro
  clear bc
  go_wp2_with fail
  go_at_call 11
  refine (TB2.out _ (EN2.out.2.below C_12.out.1)).mono ?_
  rintro e w11 ⟨Y2, rfl, oY2, bY2⟩
  have z_13 : wc.heap.size ≤ w11.heap.size := bY2.size
  have S_13 : Hid _ := And.intro (owns_below S_12.out.1 bY2) S_12.out.2
  have X0_13 : Hid _ := And.intro (KOwns.below X0_12.out.1 bY2) X0_12.out.2
  have X2_13 : Hid _ := And.intro (owns_below X2_12.out.1 bY2) X2_12.out.2
  have X3_13 : Hid _ := And.intro (owns_below X3_12.out.1 bY2) X3_12.out.2
  have G_13 : Hid _ := And.intro (owns_below G_12.out.1 bY2) G_12.out.2
  have C_13 : Hid _ := And.intro (C_12.out.1.trans (bY2.mono C_12.out.1.size)) True.intro
  have B_13 : Hid _ := And.intro (B_12.out.1.below bY2) True.intro
  have Y2_13 : Hid _ := And.intro oY2 (fun g (hg : Value.ownBlock _ = some g) => oY2.lt g hg)
  clear oY2 bY2
  go_wp2_with fail
  go_at_call 13
  refine (eqBytes_same _ _ x2 _ (row_of_owns X2_13.out.1) (row_of_owns Y2_13.out.1) (by rw [← EN2.out.1]; omega)).mono ?_
  rintro e w12 ⟨rfl, mw12, hw⟩
  have dw12 : Below w11.heap.size w11 w12 := by rw [hw]; exact below_drewN (Below.refl _ _) mw12
  clear hw
  have z_14 : w11.heap.size ≤ w12.heap.size := dw12.size
  have S_14 : Hid _ := And.intro (owns_below S_13.out.1 dw12) S_13.out.2
  have X0_14 : Hid _ := And.intro (KOwns.below X0_13.out.1 dw12) X0_13.out.2
  have X2_14 : Hid _ := And.intro (owns_below X2_13.out.1 dw12) X2_13.out.2
  have X3_14 : Hid _ := And.intro (owns_below X3_13.out.1 dw12) X3_13.out.2
  have G_14 : Hid _ := And.intro (owns_below G_13.out.1 dw12) G_13.out.2
  have Y2_14 : Hid _ := And.intro (owns_below Y2_13.out.1 dw12) Y2_13.out.2
  have C_14 : Hid _ := And.intro (C_13.out.1.trans (dw12.mono C_13.out.1.size)) True.intro
  have B_14 : Hid _ := And.intro (B_13.out.1.below dw12) True.intro
  clear dw12
  go_wp2_with fail
  go_at_call 11
  refine (TB3.out _ (EN3.out.2.below C_14.out.1)).mono ?_
  rintro e w13 ⟨Y3, rfl, oY3, bY3⟩
  have z_15 : w12.heap.size ≤ w13.heap.size := bY3.size
  have S_15 : Hid _ := And.intro (owns_below S_14.out.1 bY3) S_14.out.2
  have X0_15 : Hid _ := And.intro (KOwns.below X0_14.out.1 bY3) X0_14.out.2
  have X2_15 : Hid _ := And.intro (owns_below X2_14.out.1 bY3) X2_14.out.2
  have X3_15 : Hid _ := And.intro (owns_below X3_14.out.1 bY3) X3_14.out.2
  have G_15 : Hid _ := And.intro (owns_below G_14.out.1 bY3) G_14.out.2
  have C_15 : Hid _ := And.intro (C_14.out.1.trans (bY3.mono C_14.out.1.size)) True.intro
  have B_15 : Hid _ := And.intro (B_14.out.1.below bY3) True.intro
  have Y3_15 : Hid _ := And.intro oY3 (fun g (hg : Value.ownBlock _ = some g) => oY3.lt g hg)
  clear oY3 bY3
  go_wp2_with fail
  go_at_call 13
  refine (eqBytes_same _ _ x3 _ (row_of_owns X3_15.out.1) (row_of_owns Y3_15.out.1) (by rw [← EN3.out.1]; omega)).mono ?_
  rintro e w14 ⟨rfl, mw14, hw⟩
  have dw14 : Below w13.heap.size w13 w14 := by rw [hw]; exact below_drewN (Below.refl _ _) mw14
  clear hw
  have z_16 : w13.heap.size ≤ w14.heap.size := dw14.size
  have S_16 : Hid _ := And.intro (owns_below S_15.out.1 dw14) S_15.out.2
  have X0_16 : Hid _ := And.intro (KOwns.below X0_15.out.1 dw14) X0_15.out.2
  have X2_16 : Hid _ := And.intro (owns_below X2_15.out.1 dw14) X2_15.out.2
  have X3_16 : Hid _ := And.intro (owns_below X3_15.out.1 dw14) X3_15.out.2
  have G_16 : Hid _ := And.intro (owns_below G_15.out.1 dw14) G_15.out.2
  have Y3_16 : Hid _ := And.intro (owns_below Y3_15.out.1 dw14) Y3_15.out.2
  have C_16 : Hid _ := And.intro (C_15.out.1.trans (dw14.mono C_15.out.1.size)) True.intro
  have B_16 : Hid _ := And.intro (B_15.out.1.below dw14) True.intro
  clear dw14
  obtain ⟨ld00, ld01, ld02, ld03⟩ := B_16.out.1.c4 (b := w6.heap.size) (x0 := .slice X0a0 k0.a.length X0p0) (x1 := .slice X0a1 k0.b.length X0p1) (x2 := .slice X0a2 k0.c.length X0p2) (x3 := .slice X0a3 k0.d.length X0p3) (t := 28) (by simp)
  go_wp2_with fail
  go_at_call 15
  refine (markKeys 1 _ _ k0 _ (small_mono EN0.out.1 (by decide)) (by omega) (by omega) X0_16.out.1).mono ?_
  rintro e w15 ⟨rfl, om, ch⟩
  have z_17 : w14.heap.size ≤ w15.heap.size := ch.size
  have S_17 : Hid _ := And.intro (ch.owns S_16.out.1 (fun g hg hs => by have p1 := S_16.out.2 g hg; have p2 := X0_16.out.2 g hs; omega)) S_16.out.2
  have X2_17 : Hid _ := And.intro (ch.owns X2_16.out.1 (fun g hg hs => by have p1 := X2_16.out.2 g hg; have p2 := X0_16.out.2 g hs; omega)) X2_16.out.2
  have X3_17 : Hid _ := And.intro (ch.owns X3_16.out.1 (fun g hg hs => by have p1 := X3_16.out.2 g hg; have p2 := X0_16.out.2 g hs; omega)) X3_16.out.2
  have G_17 : Hid _ := And.intro (ch.owns G_16.out.1 (fun g hg hs => by have p1 := G_16.out.2 g hg; have p2 := X0_16.out.2 g hs; omega)) G_16.out.2
  have C_17 : Hid _ := And.intro (C_16.out.1.trans (ch.below C_16.out.1.size (fun g hg => by have p2 := X0_16.out.2 g hg; omega))) True.intro
  have B_17 : Hid _ := And.intro (B_16.out.1.chg ch (fun b o hm hs => by have p2 := X0_16.out.2 b hs; simp at hm; rcases hm with ⟨hm, _⟩ | ⟨hm, _⟩ <;> omega)) True.intro
  have X0_17 : Hid _ := And.intro (show KOwns _ _ _ _ from om) X0_16.out.2
  clear om ch
  clear ld00 ld01 ld02 ld03
  go_wp2_with fail
  go_at_call 16
  refine (markBytes (1 + (k0.a.length : Int) + (k0.b.length : Int) + (k0.c.length : Int) + (k0.d.length : Int)) n2 _ _ x2 _ (by omega) (by omega) (by omega) (by have h := X2_17.out.1; rw [← EN2.out.1] at h; exact h)).mono ?_
  rintro e w16 ⟨rfl, om, bm, zm, om'⟩
  have ch : Chg (fun g => Value.ownBlock _ = some g) _ _ := Chg.of_only om' (fun g e => e)
  have z_18 : w15.heap.size ≤ w16.heap.size := ch.size
  have S_18 : Hid _ := And.intro (ch.owns S_17.out.1 (fun g hg hs => by have p1 := S_17.out.2 g hg; have p2 := X2_17.out.2 g hs; omega)) S_17.out.2
  have X0_18 : Hid _ := And.intro (ch.kowns2 X0_17.out.1 (fun g hg hs => by have p1 := X0_17.out.2 g hg; have p2 := X2_17.out.2 g hs; omega)) X0_17.out.2
  have X3_18 : Hid _ := And.intro (ch.owns X3_17.out.1 (fun g hg hs => by have p1 := X3_17.out.2 g hg; have p2 := X2_17.out.2 g hs; omega)) X3_17.out.2
  have G_18 : Hid _ := And.intro (ch.owns G_17.out.1 (fun g hg hs => by have p1 := G_17.out.2 g hg; have p2 := X2_17.out.2 g hs; omega)) G_17.out.2
  have C_18 : Hid _ := And.intro (C_17.out.1.trans (ch.below C_17.out.1.size (fun g hg => by have p2 := X2_17.out.2 g hg; omega))) True.intro
  have B_18 : Hid _ := And.intro (B_17.out.1.chg ch (fun b o hm hs => by have p2 := X2_17.out.2 b hs; simp at hm; rcases hm with ⟨hm, _⟩ | ⟨hm, _⟩ <;> omega)) True.intro
  have X2_18 : Hid _ := And.intro om X2_17.out.2
  clear om bm zm om' ch
  go_wp2_with fail
  go_at_call 16
  refine (markBytes ((1 + (k0.a.length : Int) + (k0.b.length : Int) + (k0.c.length : Int) + (k0.d.length : Int)) + (n2 : Int)) n3 _ _ x3 _ (by omega) (by omega) (by omega) (by have h := X3_18.out.1; rw [← EN3.out.1] at h; exact h)).mono ?_
  rintro e w17 ⟨rfl, om, bm, zm, om'⟩
  have ch : Chg (fun g => Value.ownBlock _ = some g) _ _ := Chg.of_only om' (fun g e => e)
  have z_19 : w16.heap.size ≤ w17.heap.size := ch.size
  have S_19 : Hid _ := And.intro (ch.owns S_18.out.1 (fun g hg hs => by have p1 := S_18.out.2 g hg; have p2 := X3_18.out.2 g hs; omega)) S_18.out.2
  have X0_19 : Hid _ := And.intro (ch.kowns2 X0_18.out.1 (fun g hg hs => by have p1 := X0_18.out.2 g hg; have p2 := X3_18.out.2 g hs; omega)) X0_18.out.2
  have X2_19 : Hid _ := And.intro (ch.owns X2_18.out.1 (fun g hg hs => by have p1 := X2_18.out.2 g hg; have p2 := X3_18.out.2 g hs; omega)) X2_18.out.2
  have G_19 : Hid _ := And.intro (ch.owns G_18.out.1 (fun g hg hs => by have p1 := G_18.out.2 g hg; have p2 := X3_18.out.2 g hs; omega)) G_18.out.2
  have C_19 : Hid _ := And.intro (C_18.out.1.trans (ch.below C_18.out.1.size (fun g hg => by have p2 := X3_18.out.2 g hg; omega))) True.intro
  have B_19 : Hid _ := And.intro (B_18.out.1.chg ch (fun b o hm hs => by have p2 := X3_18.out.2 b hs; simp at hm; rcases hm with ⟨hm, _⟩ | ⟨hm, _⟩ <;> omega)) True.intro
  have X3_19 : Hid _ := And.intro om X3_18.out.2
  clear om bm zm om' ch
  go_wp2_with fail
  go_at_call 13
  refine (eqBytes_same _ _ y _ (row_of_owns G_19.out.1) (row_of_owns S_19.out.1) (by rw [← EM.out.1]; omega)).mono ?_
  rintro e w18 ⟨rfl, mw18, hw⟩
  have dw18 : Below w17.heap.size w17 w18 := by rw [hw]; exact below_drewN (Below.refl _ _) mw18
  clear hw
  have z_20 : w17.heap.size ≤ w18.heap.size := dw18.size
  have S_20 : Hid _ := And.intro (owns_below S_19.out.1 dw18) S_19.out.2
  have X0_20 : Hid _ := And.intro (KOwns.below X0_19.out.1 dw18) X0_19.out.2
  have X2_20 : Hid _ := And.intro (owns_below X2_19.out.1 dw18) X2_19.out.2
  have X3_20 : Hid _ := And.intro (owns_below X3_19.out.1 dw18) X3_19.out.2
  have G_20 : Hid _ := And.intro (owns_below G_19.out.1 dw18) G_19.out.2
  have C_20 : Hid _ := And.intro (C_19.out.1.trans (dw18.mono C_19.out.1.size)) True.intro
  have B_20 : Hid _ := And.intro (B_19.out.1.below dw18) True.intro
  clear dw18
  go_wp2_with fail
  go_at_call 16
  refine (markBytes 1 m _ _ y _ (by omega) (by omega) (by omega) (G_20.out.1)).mono ?_
  rintro e w19 ⟨rfl, om, bm, zm, om'⟩
  have ch : Chg (fun g => Value.ownBlock _ = some g) _ _ := Chg.of_only om' (fun g e => e)
  have z_21 : w18.heap.size ≤ w19.heap.size := ch.size
  have S_21 : Hid _ := And.intro (ch.owns S_20.out.1 (fun g hg hs => by have p1 := S_20.out.2 g hg; have p2 := G_20.out.2 g hs; omega)) S_20.out.2
  have X0_21 : Hid _ := And.intro (ch.kowns2 X0_20.out.1 (fun g hg hs => by have p1 := X0_20.out.2 g hg; have p2 := G_20.out.2 g hs; omega)) X0_20.out.2
  have X2_21 : Hid _ := And.intro (ch.owns X2_20.out.1 (fun g hg hs => by have p1 := X2_20.out.2 g hg; have p2 := G_20.out.2 g hs; omega)) X2_20.out.2
  have X3_21 : Hid _ := And.intro (ch.owns X3_20.out.1 (fun g hg hs => by have p1 := X3_20.out.2 g hg; have p2 := G_20.out.2 g hs; omega)) X3_20.out.2
  have C_21 : Hid _ := And.intro (C_20.out.1.trans (ch.below C_20.out.1.size (fun g hg => by have p2 := G_20.out.2 g hg; omega))) True.intro
  have B_21 : Hid _ := And.intro (B_20.out.1.chg ch (fun b o hm hs => by have p2 := G_20.out.2 b hs; simp at hm; rcases hm with ⟨hm, _⟩ | ⟨hm, _⟩ <;> omega)) True.intro
  have G_21 : Hid _ := And.intro om G_20.out.2
  clear om bm zm om' ch
  go_wp2_with fail
  go_at_call 17
  refine (heldBytes 1 m _ _ (row_of_owns G_21.out.1) (by omega) (by decide) (by decide)).mono ?_
  rintro e w20 ⟨rfl, hw⟩
  subst w20
  obtain ⟨ld00, ld01, ld02, ld03⟩ := B_21.out.1.c4 (b := w.heap.size) (x0 := d0) (x1 := d1) (x2 := d2) (x3 := d3) (t := 24) (by simp)
  go_wp2_with fail
  go_at_call 10
  refine (TB0.out _ (KRow.below EN0.out.2.1 C_21.out.1)).mono ?_
  rintro e w21 ⟨H0, rfl, oH0, bH0⟩
  clear ld00 ld01 ld02 ld03
  have z_22 : w19.heap.size ≤ w21.heap.size := bH0.size
  have S_22 : Hid _ := And.intro (owns_below S_21.out.1 bH0) S_21.out.2
  have X0_22 : Hid _ := And.intro (KOwns.below X0_21.out.1 bH0) X0_21.out.2
  have X2_22 : Hid _ := And.intro (owns_below X2_21.out.1 bH0) X2_21.out.2
  have X3_22 : Hid _ := And.intro (owns_below X3_21.out.1 bH0) X3_21.out.2
  have G_22 : Hid _ := And.intro (owns_below G_21.out.1 bH0) G_21.out.2
  have C_22 : Hid _ := And.intro (C_21.out.1.trans (bH0.mono C_21.out.1.size)) True.intro
  have B_22 : Hid _ := And.intro (B_21.out.1.below bH0) True.intro
  have H0_22 : Hid _ := And.intro oH0 (fun g (hg : KBlk _ g) => KOwns.blk oH0 g hg)
  clear oH0 bH0
  go_wp2_with fail
  go_at_call 11
  refine (TB2.out _ (EN2.out.2.below C_22.out.1)).mono ?_
  rintro e w22 ⟨H2, rfl, oH2, bH2⟩
  have z_23 : w21.heap.size ≤ w22.heap.size := bH2.size
  have S_23 : Hid _ := And.intro (owns_below S_22.out.1 bH2) S_22.out.2
  have X0_23 : Hid _ := And.intro (KOwns.below X0_22.out.1 bH2) X0_22.out.2
  have X2_23 : Hid _ := And.intro (owns_below X2_22.out.1 bH2) X2_22.out.2
  have X3_23 : Hid _ := And.intro (owns_below X3_22.out.1 bH2) X3_22.out.2
  have G_23 : Hid _ := And.intro (owns_below G_22.out.1 bH2) G_22.out.2
  have H0_23 : Hid _ := And.intro (KOwns.below H0_22.out.1 bH2) H0_22.out.2
  have C_23 : Hid _ := And.intro (C_22.out.1.trans (bH2.mono C_22.out.1.size)) True.intro
  have B_23 : Hid _ := And.intro (B_22.out.1.below bH2) True.intro
  have H2_23 : Hid _ := And.intro oH2 (fun g (hg : Value.ownBlock _ = some g) => oH2.lt g hg)
  clear oH2 bH2
  go_wp2_with fail
  go_at_call 11
  refine (TB3.out _ (EN3.out.2.below C_23.out.1)).mono ?_
  rintro e w23 ⟨H3, rfl, oH3, bH3⟩
  have z_24 : w22.heap.size ≤ w23.heap.size := bH3.size
  have S_24 : Hid _ := And.intro (owns_below S_23.out.1 bH3) S_23.out.2
  have X0_24 : Hid _ := And.intro (KOwns.below X0_23.out.1 bH3) X0_23.out.2
  have X2_24 : Hid _ := And.intro (owns_below X2_23.out.1 bH3) X2_23.out.2
  have X3_24 : Hid _ := And.intro (owns_below X3_23.out.1 bH3) X3_23.out.2
  have G_24 : Hid _ := And.intro (owns_below G_23.out.1 bH3) G_23.out.2
  have H0_24 : Hid _ := And.intro (KOwns.below H0_23.out.1 bH3) H0_23.out.2
  have H2_24 : Hid _ := And.intro (owns_below H2_23.out.1 bH3) H2_23.out.2
  have C_24 : Hid _ := And.intro (C_23.out.1.trans (bH3.mono C_23.out.1.size)) True.intro
  have B_24 : Hid _ := And.intro (B_23.out.1.below bH3) True.intro
  have H3_24 : Hid _ := And.intro oH3 (fun g (hg : Value.ownBlock _ = some g) => oH3.lt g hg)
  clear oH3 bH3
  go_wp2_with fail
  go_at_call 19
  refine (HI.out.1 _ _ _ _ (HV.out.1 _ C_24.out.1) (KOwns.row H0_24.out.1) (row_of_owns H2_24.out.1) (row_of_owns H3_24.out.1)).mono ?_
  rintro e w24 ⟨H, rfl, oH, bH⟩
  have z_25 : w23.heap.size ≤ w24.heap.size := bH.size
  have S_25 : Hid _ := And.intro (owns_below S_24.out.1 bH) S_24.out.2
  have X0_25 : Hid _ := And.intro (KOwns.below X0_24.out.1 bH) X0_24.out.2
  have X2_25 : Hid _ := And.intro (owns_below X2_24.out.1 bH) X2_24.out.2
  have X3_25 : Hid _ := And.intro (owns_below X3_24.out.1 bH) X3_24.out.2
  have G_25 : Hid _ := And.intro (owns_below G_24.out.1 bH) G_24.out.2
  have H0_25 : Hid _ := And.intro (KOwns.below H0_24.out.1 bH) H0_24.out.2
  have H2_25 : Hid _ := And.intro (owns_below H2_24.out.1 bH) H2_24.out.2
  have H3_25 : Hid _ := And.intro (owns_below H3_24.out.1 bH) H3_24.out.2
  have C_25 : Hid _ := And.intro (C_24.out.1.trans (bH.mono C_24.out.1.size)) True.intro
  have B_25 : Hid _ := And.intro (B_24.out.1.below bH) True.intro
  have H_25 : Hid _ := And.intro oH (fun g (hg : Value.ownBlock _ = some g) => oH.lt g hg)
  clear oH bH
  go_wp2_with fail
  go_at_call 13
  refine (eqBytes_same _ _ y _ (row_of_owns H_25.out.1) (row_of_owns S_25.out.1) (by rw [← EM.out.1]; omega)).mono ?_
  rintro e w25 ⟨rfl, mw25, hw⟩
  have dw25 : Below w24.heap.size w24 w25 := by rw [hw]; exact below_drewN (Below.refl _ _) mw25
  clear hw
  have z_26 : w24.heap.size ≤ w25.heap.size := dw25.size
  have S_26 : Hid _ := And.intro (owns_below S_25.out.1 dw25) S_25.out.2
  have X0_26 : Hid _ := And.intro (KOwns.below X0_25.out.1 dw25) X0_25.out.2
  have X2_26 : Hid _ := And.intro (owns_below X2_25.out.1 dw25) X2_25.out.2
  have X3_26 : Hid _ := And.intro (owns_below X3_25.out.1 dw25) X3_25.out.2
  have G_26 : Hid _ := And.intro (owns_below G_25.out.1 dw25) G_25.out.2
  have H_26 : Hid _ := And.intro (owns_below H_25.out.1 dw25) H_25.out.2
  have C_26 : Hid _ := And.intro (C_25.out.1.trans (dw25.mono C_25.out.1.size)) True.intro
  have B_26 : Hid _ := And.intro (B_25.out.1.below dw25) True.intro
  clear dw25
  go_wp2_with fail
  go_at_call 17
  refine (heldBytes 1 m _ _ (row_of_owns G_26.out.1) (by omega) (by decide) (by decide)).mono ?_
  rintro e w26 ⟨rfl, hw⟩
  subst w26
  go_wp2
  go_ret
  exact ⟨rfl, C_26.out.1⟩
/-- For arguments of whatever size: over the model's contract and the program's, where the sizes are within the law's. -/
theorem openSealed_walkOf (v0 : Value) (k0 : K4) (a1 : Int) (v2 : Value) (x2 : List Int) (v3 : Value) (x3 : List Int) (y : List Int) (c1 : Int) (w : World) (Inv : World → Prop) (hInv : ∀ w' : World, Below w.heap.size w w' → Inv w') (sm0 : k0.small maxLen) (kb0 : k0.bytes) (wf1 : (Lit.int .i64 a1).wf = true) (l2 : x2.length ≤ maxLen) (wf2 : ∀ x ∈ x2, (Lit.int .u8 x).wf = true) (l3 : x3.length ≤ maxLen) (wf3 : ∀ x ∈ x3, (Lit.int .u8 x).wf = true) (row0 : KRow w v0 k0) (row2 : Row w .u8 v2 x2) (row3 : Row w .u8 v3 x3) (lr : y.length ≤ 4194304)
    (hS : ∀ (w : World) (u0 : Value) (u2 : Value) (u3 : Value), KRow w u0 k0 → Row w .u8 u2 x2 → Row w .u8 u3 x3 → Calls Try.prog 18 #[u0, .int .i64 a1, u2, u3] w fun e w' => ∃ r, e = .returned (.tuple #[r, .int .i64 c1]) ∧ w'.ownsRow w.heap.size 5 1 r y.length (y.map (Value.int .u8)) ∧ Below w.heap.size w w')
    (hI : ∀ (w : World) (u0 : Value) (u2 : Value) (u3 : Value), Inv w → KRow w u0 k0 → Row w .u8 u2 x2 → Row w .u8 u3 x3 → Calls Try.prog 19 #[u0, .int .i64 a1, u2, u3] w fun e w' => ∃ r, e = .returned (.tuple #[r, .int .i64 c1]) ∧ w'.ownsRow w.heap.size 5 1 r y.length (y.map (Value.int .u8)) ∧ Below w.heap.size w w') :
    Calls Try.prog 4 #[v0, .int .i64 a1, v2, v3] w fun e w' => e = .returned (.bool true) ∧ Below w.heap.size w w' := by
  have m2 : x2.length ≤ 9223372036854775807 := by have h := l2; unfold maxLen at h; omega
  have m3 : x3.length ≤ 9223372036854775807 := by have h := l3; unfold maxLen at h; omega
  by_cases g2 : 1048576 < x2.length
  · obtain ⟨ao2, cp2, rfl⟩ := row2.form; obtain ⟨ao3, cp3, rfl⟩ := row3.form; exact openSealed_huge2 v0 k0 a1 ao2 _ cp2 ao3 _ cp3 w row0 g2 m2
  · skip
    by_cases g3 : 1048576 < x3.length
    · obtain ⟨ao2, cp2, rfl⟩ := row2.form; obtain ⟨ao3, cp3, rfl⟩ := row3.form; exact openSealed_huge3 v0 k0 a1 ao2 _ cp2 ao3 _ cp3 w row0 (by omega) g3 m3
    · skip
      have sm9 : k0.small 9223372036854775807 := small_mono sm0 (by unfold maxLen; decide)
      by_cases gk : 1048576 < k0.total
      · obtain ⟨ao2, cp2, rfl⟩ := row2.form; obtain ⟨ao3, cp3, rfl⟩ := row3.form; exact openSealed_hugeK v0 k0 a1 ao2 _ cp2 ao3 _ cp3 w row0 (by omega) (by omega) sm9 gk
      · skip
        have tk : k0.total ≤ 1048576 := by omega
        have smk : k0.small 1048576 := by unfold K4.total at tk; exact ⟨by omega, by omega, by omega, by omega⟩
        exact openSealedLaw v0 k0 a1 v2 x2 v3 x3 y c1 w Inv hInv row0 smk tk row2 (by omega) row3 (by omega) lr hS hI
end Go.Proofs.Ytiiefhpkkjocbaj
