import Derived.Test.YtiiefhpkkjocbakDoorEqBytes
import Derived.Test.YtiiefhpkkjocbakDoorMarkBytes
import Derived.Test.YtiiefhpkkjocbakDoorToBytes
import Derived.Test.YtiiefhpkkjocbakDoorKeys
import Derived.Test.YtiiefhpkkjocbakDoorBook
import Derived.Test.YtiiefhpkkjocbakDoorHead8
import Derived.Test.YtiiefhpkkjocbakDoorEqHead
import Derived.Test.YtiiefhpkkjocbakDoorMarkHead
import Derived.Test.YtiiefhpkkjocbakDoorSzHead
import Derived.Test.YtiiefhpkkjocbakDoorToHead
import Derived.Deep.RegionWith
import Derived.Deep.CutRange
namespace Go.Proofs.YtiiefhpkkjocbakDoor
open Go.RowKit
set_option linter.unusedVariables false

theorem retryPacket_huge1 (v0 : Value) (k0 : H8) (ao1 : Option Addr) (n1 cp1 : Nat) (w : World) (row0 : HRow w v0 k0) (h1 : 1048576 < n1) (m1 : n1 ≤ 9223372036854775807) :
    Calls Tryd.prog 4 #[v0, .slice ao1 n1 cp1] w fun e w' => e = .returned (.bool true) ∧ Below w.heap.size w w' := by
  obtain ⟨d0, d1, d2, rfl, _⟩ := id row0
  clear row0
  go_enter Tryd.func4, Tryd.ntmps4
  go_wp2
  go_ret
  exact ⟨rfl, (Below.refl _ _).alloc (Nat.le_refl _) _⟩
theorem retryPacket_hugeK (v0 : Value) (k0 : H8) (ao1 : Option Addr) (n1 cp1 : Nat) (w : World) (row0 : HRow w v0 k0) (h1 : n1 ≤ 1048576) (sm : k0.small 9223372036854775807) (ho : 1048576 < k0.total) :
    Calls Tryd.prog 4 #[v0, .slice ao1 n1 cp1] w fun e w' => e = .returned (.bool true) ∧ Below w.heap.size w w' := by
  obtain ⟨d0, d1, d2, rfl, _⟩ := id row0
  have WB : Below w.heap.size w (w.alloc (.cells #[.int .i64 k0.f, .int .i64 k0.v, d0, d1, d2, .int .i64 k0.n, .int .i64 k0.l, .int .i64 k0.p] 32)) := (Below.refl _ _).alloc (Nat.le_refl _) _
  have C := hsz_over _ k0 1048576 _ (row0.below WB) sm (by decide) (by decide) ho
  have HW : Hid _ := WB
  clear row0 sm ho WB
  go_enter Tryd.func4, Tryd.ntmps4
  go_wp2_with fail
  go_at_call 15
  refine C.mono ?_
  rintro e w1 ⟨rfl, b1⟩
  have HB : Hid _ := HW.out.trans (b1.mono HW.out.size)
  clear b1 C
  go_wp2
  go_ret
  exact ⟨rfl, HB.out⟩
set_option maxRecDepth 20000 in
set_option maxHeartbeats 8000000 in
theorem retryPacketLaw (v0 : Value) (k0 : H8) (v1 : Value) (x1 : List Int) (y : List Int) (c1 : Int) (w : World) (Inv : World → Prop) (hInv : ∀ w' : World, Below w.heap.size w w' → Inv w') (row0 : HRow w v0 k0) (l0 : k0.small 1048576) (t0 : k0.total ≤ 1048576) (row1 : Row w .u8 v1 x1) (l1 : x1.length ≤ 1048576) (lr : y.length ≤ 4194304)
    (hS : ∀ (w : World) (u0 : Value) (u1 : Value), HRow w u0 k0 → Row w .u8 u1 x1 → Calls Tryd.prog 16 #[u0, u1] w fun e w' => ∃ r, e = .returned (.tuple #[r, .int .i64 c1]) ∧ w'.ownsRow w.heap.size 5 1 r y.length (y.map (Value.int .u8)) ∧ Below w.heap.size w w')
    (hI : ∀ (w : World) (u0 : Value) (u1 : Value), Inv w → HRow w u0 k0 → Row w .u8 u1 x1 → Calls Tryd.prog 18 #[u0, u1] w fun e w' => ∃ r, e = .returned (.tuple #[r, .int .i64 c1]) ∧ w'.ownsRow w.heap.size 5 1 r y.length (y.map (Value.int .u8)) ∧ Below w.heap.size w w') :
    Calls Tryd.prog 4 #[v0, v1] w fun e w' => e = .returned (.bool true) ∧ Below w.heap.size w w' := by
  have TB0 : Hid (∀ w : World, HRow w v0 k0 → Calls Tryd.prog 17 #[v0] w fun e w' => ∃ r, e = .returned r ∧ HOwns w' w.heap.size r k0 ∧ Below w.heap.size w w') := fun w h => toHead v0 k0 w h (h8small_mono l0 (by decide))
  obtain ⟨d0, d1, d2, rfl, _⟩ := id row0
  have WB : Below w.heap.size w (w.alloc (.cells #[.int .i64 k0.f, .int .i64 k0.v, d0, d1, d2, .int .i64 k0.n, .int .i64 k0.l, .int .i64 k0.p] 32)) := (Below.refl _ _).alloc (Nat.le_refl _) _
  have B0 := (Book.nil w).add (.cells #[.int .i64 k0.f, .int .i64 k0.v, d0, d1, d2, .int .i64 k0.n, .int .i64 k0.l, .int .i64 k0.p] 32)
  have CZ := hsz_fit _ k0 1048576 _ (row0.below WB) (h8small_mono l0 (by decide)) (by decide) (by decide) t0
  have tt0 : 0 ≤ k0.total := by unfold H8.total; omega
  obtain ⟨lt, el⟩ : ∃ lt, lt = 1048576 - k0.total := ⟨_, rfl⟩
  rw [← el] at CZ
  have lt0 : 0 ≤ lt := by omega
  have EN0 : Hid _ := And.intro l0 (And.intro row0 True.intro)
  obtain ⟨kp0, kp1, kp2⟩ := id l0
  obtain ⟨ao1, cp1, ev1⟩ := row1.form
  subst ev1
  obtain ⟨n1, en1⟩ : ∃ n, n = x1.length := ⟨_, rfl⟩
  have TB1 : Hid (∀ w : World, Row w .u8 (.slice ao1 n1 cp1) x1 → Calls Tryd.prog 8 #[.slice ao1 n1 cp1] w fun e w' => ∃ r, e = .returned r ∧ w'.ownsRow w.heap.size 5 1 r x1.length (x1.map (Value.int .u8)) ∧ Below w.heap.size w w') := fun w h => toBytes _ x1 w h (by omega)
  rw [← en1] at row1 l1 ⊢
  have EN1 : Hid _ := And.intro en1 row1
  have hc1 : (c1 != c1) = false := by simp
  obtain ⟨m, em⟩ : ∃ m, m = y.length := ⟨_, rfl⟩
  rw [← em] at lr hS hI
  have EM : Hid _ := And.intro em True.intro
  have HS : Hid _ := And.intro hS True.intro
  have HI : Hid _ := And.intro hI True.intro
  have HV : Hid _ := And.intro hInv True.intro
  have C_0 : Hid _ := And.intro WB True.intro
  have B_0 : Hid _ := And.intro B0 True.intro
  have y_0 : (w.alloc (.cells #[.int .i64 k0.f, .int .i64 k0.v, d0, d1, d2, .int .i64 k0.n, .int .i64 k0.l, .int .i64 k0.p] 32)).heap.size = w.heap.size + 1 := by simp
  clear hS hI hInv row0 el tt0 t0 l0 row1 en1 em WB B0
  go_enter Tryd.func4, Tryd.ntmps4
  go_wp2_with fail
  go_at_call 15
  refine CZ.mono ?_
  rintro e w1 ⟨rfl, bz⟩
  have z_1 : (w.alloc (.cells #[.int .i64 k0.f, .int .i64 k0.v, d0, d1, d2, .int .i64 k0.n, .int .i64 k0.l, .int .i64 k0.p] 32)).heap.size ≤ w1.heap.size := bz.size
  have C_1 : Hid _ := And.intro (C_0.out.1.trans (bz.mono C_0.out.1.size)) True.intro
  have B_1 : Hid _ := And.intro (B_0.out.1.below bz) True.intro
  clear CZ bz
  obtain ⟨ld00, ld01, ld02, ld03, ld04, ld05, ld06, ld07⟩ := B_1.out.1.c8 (b := w.heap.size) (x0 := .int .i64 k0.f) (x1 := .int .i64 k0.v) (x2 := d0) (x3 := d1) (x4 := d2) (x5 := .int .i64 k0.n) (x6 := .int .i64 k0.l) (x7 := .int .i64 k0.p) (t := 32) (by simp)
  go_wp2_with fail
  go_at_call 17
  refine (TB0.out _ (HRow.below EN0.out.2.1 C_1.out.1)).mono ?_
  rintro e w2 ⟨T0, rfl, oT0, bT0⟩
  clear ld00 ld01 ld02 ld03 ld04 ld05 ld06 ld07
  have z_2 : w1.heap.size ≤ w2.heap.size := bT0.size
  have C_2 : Hid _ := And.intro (C_1.out.1.trans (bT0.mono C_1.out.1.size)) True.intro
  have B_2 : Hid _ := And.intro (B_1.out.1.below bT0) True.intro
  have T0_2 : Hid _ := And.intro oT0 (fun g (hg : HBlk _ g) => HOwns.blk oT0 g hg)
  clear oT0 bT0
  go_wp2_with fail
  go_at_call 8
  refine (TB1.out _ (EN1.out.2.below C_2.out.1)).mono ?_
  rintro e w3 ⟨T1, rfl, oT1, bT1⟩
  have z_3 : w2.heap.size ≤ w3.heap.size := bT1.size
  have T0_3 : Hid _ := And.intro (HOwns.below T0_2.out.1 bT1) T0_2.out.2
  have C_3 : Hid _ := And.intro (C_2.out.1.trans (bT1.mono C_2.out.1.size)) True.intro
  have B_3 : Hid _ := And.intro (B_2.out.1.below bT1) True.intro
  have T1_3 : Hid _ := And.intro oT1 (fun g (hg : Value.ownBlock _ = some g) => oT1.lt g hg)
  clear oT1 bT1
  go_wp2_with fail
  go_at_call 16
  refine (HS.out.1 _ _ _ (HOwns.row T0_3.out.1) (row_of_owns T1_3.out.1)).mono ?_
  rintro e w4 ⟨S, rfl, oS, bS⟩
  have z_4 : w3.heap.size ≤ w4.heap.size := bS.size
  have T0_4 : Hid _ := And.intro (HOwns.below T0_3.out.1 bS) T0_3.out.2
  have T1_4 : Hid _ := And.intro (owns_below T1_3.out.1 bS) T1_3.out.2
  have C_4 : Hid _ := And.intro (C_3.out.1.trans (bS.mono C_3.out.1.size)) True.intro
  have B_4 : Hid _ := And.intro (B_3.out.1.below bS) True.intro
  have S_4 : Hid _ := And.intro oS (fun g (hg : Value.ownBlock _ = some g) => oS.lt g hg)
  clear oS bS
  obtain ⟨ld00, ld01, ld02, ld03, ld04, ld05, ld06, ld07⟩ := B_4.out.1.c8 (b := w.heap.size) (x0 := .int .i64 k0.f) (x1 := .int .i64 k0.v) (x2 := d0) (x3 := d1) (x4 := d2) (x5 := .int .i64 k0.n) (x6 := .int .i64 k0.l) (x7 := .int .i64 k0.p) (t := 32) (by simp)
  go_wp2_with fail
  go_at_call 17
  refine (TB0.out _ (HRow.below EN0.out.2.1 C_4.out.1)).mono ?_
  rintro e w5 ⟨X0, rfl, oX0, bX0⟩
  clear ld00 ld01 ld02 ld03 ld04 ld05 ld06 ld07
  have z_5 : w4.heap.size ≤ w5.heap.size := bX0.size
  have S_5 : Hid _ := And.intro (owns_below S_4.out.1 bX0) S_4.out.2
  have C_5 : Hid _ := And.intro (C_4.out.1.trans (bX0.mono C_4.out.1.size)) True.intro
  have B_5 : Hid _ := And.intro (B_4.out.1.below bX0) True.intro
  have X0_5 : Hid _ := And.intro oX0 (fun g (hg : HBlk _ g) => HOwns.blk oX0 g hg)
  clear oX0 bX0
  obtain ⟨X0a0, X0a1, X0a2, X0p0, X0p1, X0p2, eX0⟩ := HOwns.parts X0_5.out.1
  subst eX0
  have alX0 : Below w5.heap.size w5 (w5.alloc (.cells #[.int .i64 k0.f, .int .i64 k0.v, .slice X0a0 k0.d.length X0p0, .slice X0a1 k0.s.length X0p1, .slice X0a2 k0.t.length X0p2, .int .i64 k0.n, .int .i64 k0.l, .int .i64 k0.p] 36)) := (Below.refl _ _).alloc (Nat.le_refl _) _
  have z_6 : w5.heap.size ≤ (w5.alloc (.cells #[.int .i64 k0.f, .int .i64 k0.v, .slice X0a0 k0.d.length X0p0, .slice X0a1 k0.s.length X0p1, .slice X0a2 k0.t.length X0p2, .int .i64 k0.n, .int .i64 k0.l, .int .i64 k0.p] 36)).heap.size := alX0.size
  have S_6 : Hid _ := And.intro (owns_below S_5.out.1 alX0) S_5.out.2
  have X0_6 : Hid _ := And.intro (HOwns.below X0_5.out.1 alX0) X0_5.out.2
  have C_6 : Hid _ := And.intro (C_5.out.1.trans (alX0.mono C_5.out.1.size)) True.intro
  have B_6 : Hid _ := And.intro (B_5.out.1.add (.cells #[.int .i64 k0.f, .int .i64 k0.v, .slice X0a0 k0.d.length X0p0, .slice X0a1 k0.s.length X0p1, .slice X0a2 k0.t.length X0p2, .int .i64 k0.n, .int .i64 k0.l, .int .i64 k0.p] 36)) True.intro
  have y_6 : (w5.alloc (.cells #[.int .i64 k0.f, .int .i64 k0.v, .slice X0a0 k0.d.length X0p0, .slice X0a1 k0.s.length X0p1, .slice X0a2 k0.t.length X0p2, .int .i64 k0.n, .int .i64 k0.l, .int .i64 k0.p] 36)).heap.size = w5.heap.size + 1 := by simp
  clear alX0
  go_wp2_with fail
  go_at_call 8
  refine (TB1.out _ (EN1.out.2.below C_6.out.1)).mono ?_
  rintro e w6 ⟨X1, rfl, oX1, bX1⟩
  have z_7 : (w5.alloc (.cells #[.int .i64 k0.f, .int .i64 k0.v, .slice X0a0 k0.d.length X0p0, .slice X0a1 k0.s.length X0p1, .slice X0a2 k0.t.length X0p2, .int .i64 k0.n, .int .i64 k0.l, .int .i64 k0.p] 36)).heap.size ≤ w6.heap.size := bX1.size
  have S_7 : Hid _ := And.intro (owns_below S_6.out.1 bX1) S_6.out.2
  have X0_7 : Hid _ := And.intro (HOwns.below X0_6.out.1 bX1) X0_6.out.2
  have C_7 : Hid _ := And.intro (C_6.out.1.trans (bX1.mono C_6.out.1.size)) True.intro
  have B_7 : Hid _ := And.intro (B_6.out.1.below bX1) True.intro
  have X1_7 : Hid _ := And.intro oX1 (fun g (hg : Value.ownBlock _ = some g) => oX1.lt g hg)
  clear oX1 bX1
  obtain ⟨ld00, ld01, ld02, ld03, ld04, ld05, ld06, ld07⟩ := B_7.out.1.c8 (b := w5.heap.size) (x0 := .int .i64 k0.f) (x1 := .int .i64 k0.v) (x2 := .slice X0a0 k0.d.length X0p0) (x3 := .slice X0a1 k0.s.length X0p1) (x4 := .slice X0a2 k0.t.length X0p2) (x5 := .int .i64 k0.n) (x6 := .int .i64 k0.l) (x7 := .int .i64 k0.p) (t := 36) (by simp)
  go_wp2_with fail
  go_at_call 18
  refine (HI.out.1 _ _ _ (HV.out.1 _ C_7.out.1) (HOwns.row X0_7.out.1) (row_of_owns X1_7.out.1)).mono ?_
  rintro e w7 ⟨G, rfl, oG, bG⟩
  clear ld00 ld01 ld02 ld03 ld04 ld05 ld06 ld07
  have z_8 : w6.heap.size ≤ w7.heap.size := bG.size
  have S_8 : Hid _ := And.intro (owns_below S_7.out.1 bG) S_7.out.2
  have X0_8 : Hid _ := And.intro (HOwns.below X0_7.out.1 bG) X0_7.out.2
  have X1_8 : Hid _ := And.intro (owns_below X1_7.out.1 bG) X1_7.out.2
  have C_8 : Hid _ := And.intro (C_7.out.1.trans (bG.mono C_7.out.1.size)) True.intro
  have B_8 : Hid _ := And.intro (B_7.out.1.below bG) True.intro
  have G_8 : Hid _ := And.intro oG (fun g (hg : Value.ownBlock _ = some g) => oG.lt g hg)
  clear oG bG
  go_wp2_with fail
  go_at_call 11
  refine (eqBytes_same _ _ y _ (row_of_owns G_8.out.1) (row_of_owns S_8.out.1) (by rw [← EM.out.1]; omega)).mono ?_
  rintro e w8 ⟨rfl, mw8, hw⟩
  have dw8 : Below w7.heap.size w7 w8 := by rw [hw]; exact below_drewN (Below.refl _ _) mw8
  clear hw
  have z_9 : w7.heap.size ≤ w8.heap.size := dw8.size
  have S_9 : Hid _ := And.intro (owns_below S_8.out.1 dw8) S_8.out.2
  have X0_9 : Hid _ := And.intro (HOwns.below X0_8.out.1 dw8) X0_8.out.2
  have X1_9 : Hid _ := And.intro (owns_below X1_8.out.1 dw8) X1_8.out.2
  have G_9 : Hid _ := And.intro (owns_below G_8.out.1 dw8) G_8.out.2
  have C_9 : Hid _ := And.intro (C_8.out.1.trans (dw8.mono C_8.out.1.size)) True.intro
  have B_9 : Hid _ := And.intro (B_8.out.1.below dw8) True.intro
  clear dw8
  go_upto_region 13 with fail
  go_cut [56] from 52 to 56 (fun cv wx => cv = .bool false ∧ Below w8.heap.size w8 wx)
  case first =>
    have D : Hid (Below w8.heap.size w8 w8.drew) := ⟨rfl, rfl, rfl, Nat.le_refl _, fun _ _ => rfl⟩
    have CD : Hid _ := And.intro (C_9.out.1.trans (D.out.mono C_9.out.1.size)) True.intro
    obtain ⟨ld00, ld01, ld02, ld03, ld04, ld05, ld06, ld07⟩ := (B_9.out.1.drew).c8 (b := w5.heap.size) (x0 := .int .i64 k0.f) (x1 := .int .i64 k0.v) (x2 := .slice X0a0 k0.d.length X0p0) (x3 := .slice X0a1 k0.s.length X0p1) (x4 := .slice X0a2 k0.t.length X0p2) (x5 := .int .i64 k0.n) (x6 := .int .i64 k0.l) (x7 := .int .i64 k0.p) (t := 36) (by simp)
    obtain ⟨ld10, ld11, ld12, ld13, ld14, ld15, ld16, ld17⟩ := (B_9.out.1.drew).c8 (b := w.heap.size) (x0 := .int .i64 k0.f) (x1 := .int .i64 k0.v) (x2 := d0) (x3 := d1) (x4 := d2) (x5 := .int .i64 k0.n) (x6 := .int .i64 k0.l) (x7 := .int .i64 k0.p) (t := 32) (by simp)
    go_region_with (first
      | (go_at_call 17; refine (TB0.out w8.drew (HRow.below EN0.out.2.1 CD.out.1)).mono ?_; rintro e wy ⟨ry, rfl, oy, by'⟩; obtain ⟨le0, le1, le2, le3, le4, le5, le6, le7⟩ := (B_9.out.1.drew.below by').c8 (b := w5.heap.size) (x0 := .int .i64 k0.f) (x1 := .int .i64 k0.v) (x2 := .slice X0a0 k0.d.length X0p0) (x3 := .slice X0a1 k0.s.length X0p1) (x4 := .slice X0a2 k0.t.length X0p2) (x5 := .int .i64 k0.n) (x6 := .int .i64 k0.l) (x7 := .int .i64 k0.p) (t := 36) (by simp))
      | (go_at_call 19; refine (eqHead_same _ _ k0 wy (HOwns.row ((HOwns.below X0_9.out.1 D.out).below by')) oy.row (h8small_mono EN0.out.1 (by decide))).mono ?_; rintro e wz ⟨rfl, bz⟩))
    all_goals (go_wp2_with fail; go_meet; exact ⟨rfl, D.out.trans ((by'.trans (bz.mono by'.size)).mono D.out.size)⟩)
  case rest =>
  obtain ⟨rfl, bc⟩ := hcut
  have z_10 : w8.heap.size ≤ wc.heap.size := bc.size
  have S_10 : Hid _ := And.intro (owns_below S_9.out.1 bc) S_9.out.2
  have X0_10 : Hid _ := And.intro (HOwns.below X0_9.out.1 bc) X0_9.out.2
  have X1_10 : Hid _ := And.intro (owns_below X1_9.out.1 bc) X1_9.out.2
  have G_10 : Hid _ := And.intro (owns_below G_9.out.1 bc) G_9.out.2
  have C_10 : Hid _ := And.intro (C_9.out.1.trans (bc.mono C_9.out.1.size)) True.intro
  have B_10 : Hid _ := And.intro (B_9.out.1.below bc) True.intro
  clear bc
  go_wp2_with fail
  go_at_call 8
  refine (TB1.out _ (EN1.out.2.below C_10.out.1)).mono ?_
  rintro e w9 ⟨Y1, rfl, oY1, bY1⟩
  have z_11 : wc.heap.size ≤ w9.heap.size := bY1.size
  have S_11 : Hid _ := And.intro (owns_below S_10.out.1 bY1) S_10.out.2
  have X0_11 : Hid _ := And.intro (HOwns.below X0_10.out.1 bY1) X0_10.out.2
  have X1_11 : Hid _ := And.intro (owns_below X1_10.out.1 bY1) X1_10.out.2
  have G_11 : Hid _ := And.intro (owns_below G_10.out.1 bY1) G_10.out.2
  have C_11 : Hid _ := And.intro (C_10.out.1.trans (bY1.mono C_10.out.1.size)) True.intro
  have B_11 : Hid _ := And.intro (B_10.out.1.below bY1) True.intro
  have Y1_11 : Hid _ := And.intro oY1 (fun g (hg : Value.ownBlock _ = some g) => oY1.lt g hg)
  clear oY1 bY1
  go_wp2_with fail
  go_at_call 11
  refine (eqBytes_same _ _ x1 _ (row_of_owns X1_11.out.1) (row_of_owns Y1_11.out.1) (by rw [← EN1.out.1]; omega)).mono ?_
  rintro e w10 ⟨rfl, mw10, hw⟩
  have dw10 : Below w9.heap.size w9 w10 := by rw [hw]; exact below_drewN (Below.refl _ _) mw10
  clear hw
  have z_12 : w9.heap.size ≤ w10.heap.size := dw10.size
  have S_12 : Hid _ := And.intro (owns_below S_11.out.1 dw10) S_11.out.2
  have X0_12 : Hid _ := And.intro (HOwns.below X0_11.out.1 dw10) X0_11.out.2
  have X1_12 : Hid _ := And.intro (owns_below X1_11.out.1 dw10) X1_11.out.2
  have G_12 : Hid _ := And.intro (owns_below G_11.out.1 dw10) G_11.out.2
  have Y1_12 : Hid _ := And.intro (owns_below Y1_11.out.1 dw10) Y1_11.out.2
  have C_12 : Hid _ := And.intro (C_11.out.1.trans (dw10.mono C_11.out.1.size)) True.intro
  have B_12 : Hid _ := And.intro (B_11.out.1.below dw10) True.intro
  clear dw10
  obtain ⟨ld00, ld01, ld02, ld03, ld04, ld05, ld06, ld07⟩ := B_12.out.1.c8 (b := w5.heap.size) (x0 := .int .i64 k0.f) (x1 := .int .i64 k0.v) (x2 := .slice X0a0 k0.d.length X0p0) (x3 := .slice X0a1 k0.s.length X0p1) (x4 := .slice X0a2 k0.t.length X0p2) (x5 := .int .i64 k0.n) (x6 := .int .i64 k0.l) (x7 := .int .i64 k0.p) (t := 36) (by simp)
  go_wp2_with fail
  go_at_call 20
  refine (markHead 1 _ _ k0 _ (h8small_mono EN0.out.1 (by decide)) (by omega) (by omega) X0_12.out.1).mono ?_
  rintro e w11 ⟨rfl, om, ch⟩
  have z_13 : w10.heap.size ≤ w11.heap.size := ch.size
  have S_13 : Hid _ := And.intro (ch.owns S_12.out.1 (fun g hg hs => by have p1 := S_12.out.2 g hg; have p2 := X0_12.out.2 g hs; omega)) S_12.out.2
  have X1_13 : Hid _ := And.intro (ch.owns X1_12.out.1 (fun g hg hs => by have p1 := X1_12.out.2 g hg; have p2 := X0_12.out.2 g hs; omega)) X1_12.out.2
  have G_13 : Hid _ := And.intro (ch.owns G_12.out.1 (fun g hg hs => by have p1 := G_12.out.2 g hg; have p2 := X0_12.out.2 g hs; omega)) G_12.out.2
  have C_13 : Hid _ := And.intro (C_12.out.1.trans (ch.below C_12.out.1.size (fun g hg => by have p2 := X0_12.out.2 g hg; omega))) True.intro
  have B_13 : Hid _ := And.intro (B_12.out.1.chg ch (fun b o hm hs => by have p2 := X0_12.out.2 b hs; simp at hm; rcases hm with ⟨hm, _⟩ | ⟨hm, _⟩ <;> omega)) True.intro
  have X0_13 : Hid _ := And.intro (show HOwns _ _ _ _ from om) X0_12.out.2
  clear om ch
  clear ld00 ld01 ld02 ld03 ld04 ld05 ld06 ld07
  go_wp2_with fail
  go_at_call 12
  refine (markBytes (1 + (k0.d.length : Int) + (k0.s.length : Int) + (k0.t.length : Int)) n1 _ _ x1 _ (by omega) (by omega) (by omega) (by have h := X1_13.out.1; rw [← EN1.out.1] at h; exact h)).mono ?_
  rintro e w12 ⟨rfl, om, bm, zm, om'⟩
  have ch : Chg (fun g => Value.ownBlock _ = some g) _ _ := Chg.of_only om' (fun g e => e)
  have z_14 : w11.heap.size ≤ w12.heap.size := ch.size
  have S_14 : Hid _ := And.intro (ch.owns S_13.out.1 (fun g hg hs => by have p1 := S_13.out.2 g hg; have p2 := X1_13.out.2 g hs; omega)) S_13.out.2
  have X0_14 : Hid _ := And.intro (ch.howns2 X0_13.out.1 (fun g hg hs => by have p1 := X0_13.out.2 g hg; have p2 := X1_13.out.2 g hs; omega)) X0_13.out.2
  have G_14 : Hid _ := And.intro (ch.owns G_13.out.1 (fun g hg hs => by have p1 := G_13.out.2 g hg; have p2 := X1_13.out.2 g hs; omega)) G_13.out.2
  have C_14 : Hid _ := And.intro (C_13.out.1.trans (ch.below C_13.out.1.size (fun g hg => by have p2 := X1_13.out.2 g hg; omega))) True.intro
  have B_14 : Hid _ := And.intro (B_13.out.1.chg ch (fun b o hm hs => by have p2 := X1_13.out.2 b hs; simp at hm; rcases hm with ⟨hm, _⟩ | ⟨hm, _⟩ <;> omega)) True.intro
  have X1_14 : Hid _ := And.intro om X1_13.out.2
  clear om bm zm om' ch
  go_wp2_with fail
  go_at_call 11
  refine (eqBytes_same _ _ y _ (row_of_owns G_14.out.1) (row_of_owns S_14.out.1) (by rw [← EM.out.1]; omega)).mono ?_
  rintro e w13 ⟨rfl, mw13, hw⟩
  have dw13 : Below w12.heap.size w12 w13 := by rw [hw]; exact below_drewN (Below.refl _ _) mw13
  clear hw
  have z_15 : w12.heap.size ≤ w13.heap.size := dw13.size
  have S_15 : Hid _ := And.intro (owns_below S_14.out.1 dw13) S_14.out.2
  have X0_15 : Hid _ := And.intro (HOwns.below X0_14.out.1 dw13) X0_14.out.2
  have X1_15 : Hid _ := And.intro (owns_below X1_14.out.1 dw13) X1_14.out.2
  have G_15 : Hid _ := And.intro (owns_below G_14.out.1 dw13) G_14.out.2
  have C_15 : Hid _ := And.intro (C_14.out.1.trans (dw13.mono C_14.out.1.size)) True.intro
  have B_15 : Hid _ := And.intro (B_14.out.1.below dw13) True.intro
  clear dw13
  go_wp2_with fail
  go_at_call 12
  refine (markBytes 1 m _ _ y _ (by omega) (by omega) (by omega) (G_15.out.1)).mono ?_
  rintro e w14 ⟨rfl, om, bm, zm, om'⟩
  have ch : Chg (fun g => Value.ownBlock _ = some g) _ _ := Chg.of_only om' (fun g e => e)
  have z_16 : w13.heap.size ≤ w14.heap.size := ch.size
  have S_16 : Hid _ := And.intro (ch.owns S_15.out.1 (fun g hg hs => by have p1 := S_15.out.2 g hg; have p2 := G_15.out.2 g hs; omega)) S_15.out.2
  have X0_16 : Hid _ := And.intro (ch.howns2 X0_15.out.1 (fun g hg hs => by have p1 := X0_15.out.2 g hg; have p2 := G_15.out.2 g hs; omega)) X0_15.out.2
  have X1_16 : Hid _ := And.intro (ch.owns X1_15.out.1 (fun g hg hs => by have p1 := X1_15.out.2 g hg; have p2 := G_15.out.2 g hs; omega)) X1_15.out.2
  have C_16 : Hid _ := And.intro (C_15.out.1.trans (ch.below C_15.out.1.size (fun g hg => by have p2 := G_15.out.2 g hg; omega))) True.intro
  have B_16 : Hid _ := And.intro (B_15.out.1.chg ch (fun b o hm hs => by have p2 := G_15.out.2 b hs; simp at hm; rcases hm with ⟨hm, _⟩ | ⟨hm, _⟩ <;> omega)) True.intro
  have G_16 : Hid _ := And.intro om G_15.out.2
  clear om bm zm om' ch
  go_wp2_with fail
  go_at_call 21
  refine (heldBytes 1 m _ _ (row_of_owns G_16.out.1) (by omega) (by decide) (by decide)).mono ?_
  rintro e w15 ⟨rfl, hw⟩
  subst w15
  obtain ⟨ld00, ld01, ld02, ld03, ld04, ld05, ld06, ld07⟩ := B_16.out.1.c8 (b := w.heap.size) (x0 := .int .i64 k0.f) (x1 := .int .i64 k0.v) (x2 := d0) (x3 := d1) (x4 := d2) (x5 := .int .i64 k0.n) (x6 := .int .i64 k0.l) (x7 := .int .i64 k0.p) (t := 32) (by simp)
  go_wp2_with fail
  go_at_call 17
  refine (TB0.out _ (HRow.below EN0.out.2.1 C_16.out.1)).mono ?_
  rintro e w16 ⟨H0, rfl, oH0, bH0⟩
  clear ld00 ld01 ld02 ld03 ld04 ld05 ld06 ld07
  have z_17 : w14.heap.size ≤ w16.heap.size := bH0.size
  have S_17 : Hid _ := And.intro (owns_below S_16.out.1 bH0) S_16.out.2
  have X0_17 : Hid _ := And.intro (HOwns.below X0_16.out.1 bH0) X0_16.out.2
  have X1_17 : Hid _ := And.intro (owns_below X1_16.out.1 bH0) X1_16.out.2
  have G_17 : Hid _ := And.intro (owns_below G_16.out.1 bH0) G_16.out.2
  have C_17 : Hid _ := And.intro (C_16.out.1.trans (bH0.mono C_16.out.1.size)) True.intro
  have B_17 : Hid _ := And.intro (B_16.out.1.below bH0) True.intro
  have H0_17 : Hid _ := And.intro oH0 (fun g (hg : HBlk _ g) => HOwns.blk oH0 g hg)
  clear oH0 bH0
  go_wp2_with fail
  go_at_call 8
  refine (TB1.out _ (EN1.out.2.below C_17.out.1)).mono ?_
  rintro e w17 ⟨H1, rfl, oH1, bH1⟩
  have z_18 : w16.heap.size ≤ w17.heap.size := bH1.size
  have S_18 : Hid _ := And.intro (owns_below S_17.out.1 bH1) S_17.out.2
  have X0_18 : Hid _ := And.intro (HOwns.below X0_17.out.1 bH1) X0_17.out.2
  have X1_18 : Hid _ := And.intro (owns_below X1_17.out.1 bH1) X1_17.out.2
  have G_18 : Hid _ := And.intro (owns_below G_17.out.1 bH1) G_17.out.2
  have H0_18 : Hid _ := And.intro (HOwns.below H0_17.out.1 bH1) H0_17.out.2
  have C_18 : Hid _ := And.intro (C_17.out.1.trans (bH1.mono C_17.out.1.size)) True.intro
  have B_18 : Hid _ := And.intro (B_17.out.1.below bH1) True.intro
  have H1_18 : Hid _ := And.intro oH1 (fun g (hg : Value.ownBlock _ = some g) => oH1.lt g hg)
  clear oH1 bH1
  go_wp2_with fail
  go_at_call 18
  refine (HI.out.1 _ _ _ (HV.out.1 _ C_18.out.1) (HOwns.row H0_18.out.1) (row_of_owns H1_18.out.1)).mono ?_
  rintro e w18 ⟨H, rfl, oH, bH⟩
  have z_19 : w17.heap.size ≤ w18.heap.size := bH.size
  have S_19 : Hid _ := And.intro (owns_below S_18.out.1 bH) S_18.out.2
  have X0_19 : Hid _ := And.intro (HOwns.below X0_18.out.1 bH) X0_18.out.2
  have X1_19 : Hid _ := And.intro (owns_below X1_18.out.1 bH) X1_18.out.2
  have G_19 : Hid _ := And.intro (owns_below G_18.out.1 bH) G_18.out.2
  have H0_19 : Hid _ := And.intro (HOwns.below H0_18.out.1 bH) H0_18.out.2
  have H1_19 : Hid _ := And.intro (owns_below H1_18.out.1 bH) H1_18.out.2
  have C_19 : Hid _ := And.intro (C_18.out.1.trans (bH.mono C_18.out.1.size)) True.intro
  have B_19 : Hid _ := And.intro (B_18.out.1.below bH) True.intro
  have H_19 : Hid _ := And.intro oH (fun g (hg : Value.ownBlock _ = some g) => oH.lt g hg)
  clear oH bH
  go_wp2_with fail
  go_at_call 11
  refine (eqBytes_same _ _ y _ (row_of_owns H_19.out.1) (row_of_owns S_19.out.1) (by rw [← EM.out.1]; omega)).mono ?_
  rintro e w19 ⟨rfl, mw19, hw⟩
  have dw19 : Below w18.heap.size w18 w19 := by rw [hw]; exact below_drewN (Below.refl _ _) mw19
  clear hw
  have z_20 : w18.heap.size ≤ w19.heap.size := dw19.size
  have S_20 : Hid _ := And.intro (owns_below S_19.out.1 dw19) S_19.out.2
  have X0_20 : Hid _ := And.intro (HOwns.below X0_19.out.1 dw19) X0_19.out.2
  have X1_20 : Hid _ := And.intro (owns_below X1_19.out.1 dw19) X1_19.out.2
  have G_20 : Hid _ := And.intro (owns_below G_19.out.1 dw19) G_19.out.2
  have H_20 : Hid _ := And.intro (owns_below H_19.out.1 dw19) H_19.out.2
  have C_20 : Hid _ := And.intro (C_19.out.1.trans (dw19.mono C_19.out.1.size)) True.intro
  have B_20 : Hid _ := And.intro (B_19.out.1.below dw19) True.intro
  clear dw19
  go_wp2_with fail
  go_at_call 21
  refine (heldBytes 1 m _ _ (row_of_owns G_20.out.1) (by omega) (by decide) (by decide)).mono ?_
  rintro e w20 ⟨rfl, hw⟩
  subst w20
  go_wp2
  go_ret
  exact ⟨rfl, C_20.out.1⟩
/-- For arguments of whatever size: over the model's contract and the program's, where the sizes are within the law's. -/
theorem retryPacket_walkOf (v0 : Value) (k0 : H8) (v1 : Value) (x1 : List Int) (y : List Int) (c1 : Int) (w : World) (Inv : World → Prop) (hInv : ∀ w' : World, Below w.heap.size w w' → Inv w') (sm0 : k0.small maxLen) (kb0 : k0.bytes) (l1 : x1.length ≤ maxLen) (wf1 : ∀ x ∈ x1, (Lit.int .u8 x).wf = true) (row0 : HRow w v0 k0) (row1 : Row w .u8 v1 x1) (lr : y.length ≤ 4194304)
    (hS : ∀ (w : World) (u0 : Value) (u1 : Value), HRow w u0 k0 → Row w .u8 u1 x1 → Calls Tryd.prog 16 #[u0, u1] w fun e w' => ∃ r, e = .returned (.tuple #[r, .int .i64 c1]) ∧ w'.ownsRow w.heap.size 5 1 r y.length (y.map (Value.int .u8)) ∧ Below w.heap.size w w')
    (hI : ∀ (w : World) (u0 : Value) (u1 : Value), Inv w → HRow w u0 k0 → Row w .u8 u1 x1 → Calls Tryd.prog 18 #[u0, u1] w fun e w' => ∃ r, e = .returned (.tuple #[r, .int .i64 c1]) ∧ w'.ownsRow w.heap.size 5 1 r y.length (y.map (Value.int .u8)) ∧ Below w.heap.size w w') :
    Calls Tryd.prog 4 #[v0, v1] w fun e w' => e = .returned (.bool true) ∧ Below w.heap.size w w' := by
  have m1 : x1.length ≤ 9223372036854775807 := by have h := l1; unfold maxLen at h; omega
  by_cases g1 : 1048576 < x1.length
  · obtain ⟨ao1, cp1, rfl⟩ := row1.form; exact retryPacket_huge1 v0 k0 ao1 _ cp1 w row0 g1 m1
  · skip
    have sm9 : k0.small 9223372036854775807 := h8small_mono sm0 (by unfold maxLen; decide)
    by_cases gk : 1048576 < k0.total
    · obtain ⟨ao1, cp1, rfl⟩ := row1.form; exact retryPacket_hugeK v0 k0 ao1 _ cp1 w row0 (by omega) sm9 gk
    · skip
      have tk : k0.total ≤ 1048576 := by omega
      have smk : k0.small 1048576 := by unfold H8.total at tk; exact ⟨by omega, by omega, by omega⟩
      exact retryPacketLaw v0 k0 v1 x1 y c1 w Inv hInv row0 smk tk row1 (by omega) lr hS hI
end Go.Proofs.YtiiefhpkkjocbakDoor
