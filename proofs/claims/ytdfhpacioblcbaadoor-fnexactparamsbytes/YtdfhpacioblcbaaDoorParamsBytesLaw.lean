import Derived.Test.YtdfhpacioblcbaaDoorEqBytes
import Derived.Test.YtdfhpacioblcbaaDoorMarkBytes
import Derived.Test.YtdfhpacioblcbaaDoorToBytes
import Derived.Test.YtdfhpacioblcbaaDoorKeys
import Derived.Test.YtdfhpacioblcbaaDoorBook
import Derived.Test.YtdfhpacioblcbaaDoorParP
import Derived.Test.YtdfhpacioblcbaaDoorEqPar
import Derived.Test.YtdfhpacioblcbaaDoorMarkPar
import Derived.Test.YtdfhpacioblcbaaDoorSzPar
import Derived.Test.YtdfhpacioblcbaaDoorToPar
import Derived.Deep.RegionWith
import Derived.Deep.CutRange
namespace Go.Proofs.YtdfhpacioblcbaaDoor
open Go.RowKit
set_option linter.unusedVariables false

theorem paramsBytes_hugeK (v0 : Value) (k0 : PP) (a1 : Bool) (w : World) (row0 : PPRow w v0 k0) (sm : k0.small 9223372036854775807) (ho : 1048576 < k0.total) :
    Calls Tryd.prog 3 #[v0, .bool a1] w fun e w' => e = .returned (.bool true) ∧ Below w.heap.size w w' := by
  obtain ⟨d0, d1, d2, rfl, _⟩ := id row0
  have WB : Below w.heap.size w (w.alloc (.cells #[.int .i64 k0.a0, .int .i64 k0.a1, .int .i64 k0.a2, .int .i64 k0.a3, .int .i64 k0.a4, .int .i64 k0.a5, .int .i64 k0.a6, .int .i64 k0.a7, .int .i64 k0.a8, .bool k0.m, d0, d1, d2] 24)) := (Below.refl _ _).alloc (Nat.le_refl _) _
  have C := psz_over _ k0 1048576 _ (row0.below WB) sm (by decide) (by decide) ho
  have HW : Hid _ := WB
  clear row0 sm ho WB
  go_enter Tryd.func3, Tryd.ntmps3
  go_wp2_with fail
  go_at_call 5
  refine C.mono ?_
  rintro e w1 ⟨rfl, b1⟩
  have HB : Hid _ := HW.out.trans (b1.mono HW.out.size)
  clear b1 C
  go_wp2
  go_ret
  exact ⟨rfl, HB.out⟩
set_option maxRecDepth 20000 in
set_option maxHeartbeats 8000000 in
theorem paramsBytesLaw (v0 : Value) (k0 : PP) (a1 : Bool) (y : List Int) (c1 : Int) (w : World) (Inv : World → Prop) (hInv : ∀ w' : World, Below w.heap.size w w' → Inv w') (row0 : PPRow w v0 k0) (l0 : k0.small 1048576) (t0 : k0.total ≤ 1048576) (lr : y.length ≤ 4194304)
    (hS : ∀ (w : World) (u0 : Value), PPRow w u0 k0 → Calls Tryd.prog 6 #[u0, .bool a1] w fun e w' => ∃ r, e = .returned (.tuple #[r, .int .i64 c1]) ∧ w'.ownsRow w.heap.size 5 1 r y.length (y.map (Value.int .u8)) ∧ Below w.heap.size w w')
    (hI : ∀ (w : World) (u0 : Value), Inv w → PPRow w u0 k0 → Calls Tryd.prog 8 #[u0, .bool a1] w fun e w' => ∃ r, e = .returned (.tuple #[r, .int .i64 c1]) ∧ w'.ownsRow w.heap.size 5 1 r y.length (y.map (Value.int .u8)) ∧ Below w.heap.size w w') :
    Calls Tryd.prog 3 #[v0, .bool a1] w fun e w' => e = .returned (.bool true) ∧ Below w.heap.size w w' := by
  have TB0 : Hid (∀ w : World, PPRow w v0 k0 → Calls Tryd.prog 7 #[v0] w fun e w' => ∃ r, e = .returned r ∧ PPOwns w' w.heap.size r k0 ∧ Below w.heap.size w w') := fun w h => toPar v0 k0 w h (ppsmall_mono l0 (by decide))
  obtain ⟨d0, d1, d2, rfl, _⟩ := id row0
  have WB : Below w.heap.size w (w.alloc (.cells #[.int .i64 k0.a0, .int .i64 k0.a1, .int .i64 k0.a2, .int .i64 k0.a3, .int .i64 k0.a4, .int .i64 k0.a5, .int .i64 k0.a6, .int .i64 k0.a7, .int .i64 k0.a8, .bool k0.m, d0, d1, d2] 24)) := (Below.refl _ _).alloc (Nat.le_refl _) _
  have B0 := (Book.nil w).add (.cells #[.int .i64 k0.a0, .int .i64 k0.a1, .int .i64 k0.a2, .int .i64 k0.a3, .int .i64 k0.a4, .int .i64 k0.a5, .int .i64 k0.a6, .int .i64 k0.a7, .int .i64 k0.a8, .bool k0.m, d0, d1, d2] 24)
  have CZ := psz_fit _ k0 1048576 _ (row0.below WB) (ppsmall_mono l0 (by decide)) (by decide) (by decide) t0
  have tt0 : 0 ≤ k0.total := by unfold PP.total; omega
  obtain ⟨lt, el⟩ : ∃ lt, lt = 1048576 - k0.total := ⟨_, rfl⟩
  rw [← el] at CZ
  have lt0 : 0 ≤ lt := by omega
  have EN0 : Hid _ := And.intro l0 (And.intro row0 True.intro)
  obtain ⟨kp0, kp1, kp2⟩ := id l0
  have hc1 : (c1 != c1) = false := by simp
  obtain ⟨m, em⟩ : ∃ m, m = y.length := ⟨_, rfl⟩
  rw [← em] at lr hS hI
  have EM : Hid _ := And.intro em True.intro
  have HS : Hid _ := And.intro hS True.intro
  have HI : Hid _ := And.intro hI True.intro
  have HV : Hid _ := And.intro hInv True.intro
  have C_0 : Hid _ := And.intro WB True.intro
  have B_0 : Hid _ := And.intro B0 True.intro
  have y_0 : (w.alloc (.cells #[.int .i64 k0.a0, .int .i64 k0.a1, .int .i64 k0.a2, .int .i64 k0.a3, .int .i64 k0.a4, .int .i64 k0.a5, .int .i64 k0.a6, .int .i64 k0.a7, .int .i64 k0.a8, .bool k0.m, d0, d1, d2] 24)).heap.size = w.heap.size + 1 := by simp
  clear hS hI hInv row0 el tt0 t0 l0 em WB B0
  go_enter Tryd.func3, Tryd.ntmps3
  go_wp2_with fail
  go_at_call 5
  refine CZ.mono ?_
  rintro e w1 ⟨rfl, bz⟩
  have z_1 : (w.alloc (.cells #[.int .i64 k0.a0, .int .i64 k0.a1, .int .i64 k0.a2, .int .i64 k0.a3, .int .i64 k0.a4, .int .i64 k0.a5, .int .i64 k0.a6, .int .i64 k0.a7, .int .i64 k0.a8, .bool k0.m, d0, d1, d2] 24)).heap.size ≤ w1.heap.size := bz.size
  have C_1 : Hid _ := And.intro (C_0.out.1.trans (bz.mono C_0.out.1.size)) True.intro
  have B_1 : Hid _ := And.intro (B_0.out.1.below bz) True.intro
  clear CZ bz
  obtain ⟨ld00, ld01, ld02, ld03, ld04, ld05, ld06, ld07, ld08, ld09, ld010, ld011, ld012⟩ := B_1.out.1.c13 (b := w.heap.size) (x0 := .int .i64 k0.a0) (x1 := .int .i64 k0.a1) (x2 := .int .i64 k0.a2) (x3 := .int .i64 k0.a3) (x4 := .int .i64 k0.a4) (x5 := .int .i64 k0.a5) (x6 := .int .i64 k0.a6) (x7 := .int .i64 k0.a7) (x8 := .int .i64 k0.a8) (x9 := .bool k0.m) (x10 := d0) (x11 := d1) (x12 := d2) (t := 24) (by simp)
  go_wp2_with fail
  go_at_call 7
  refine (TB0.out _ (PPRow.below EN0.out.2.1 C_1.out.1)).mono ?_
  rintro e w2 ⟨T0, rfl, oT0, bT0⟩
  clear ld00 ld01 ld02 ld03 ld04 ld05 ld06 ld07 ld08 ld09 ld010 ld011 ld012
  have z_2 : w1.heap.size ≤ w2.heap.size := bT0.size
  have C_2 : Hid _ := And.intro (C_1.out.1.trans (bT0.mono C_1.out.1.size)) True.intro
  have B_2 : Hid _ := And.intro (B_1.out.1.below bT0) True.intro
  have T0_2 : Hid _ := And.intro oT0 (fun g (hg : PPBlk _ g) => PPOwns.blk oT0 g hg)
  clear oT0 bT0
  go_wp2_with fail
  go_at_call 6
  refine (HS.out.1 _ _ (PPOwns.row T0_2.out.1)).mono ?_
  rintro e w3 ⟨S, rfl, oS, bS⟩
  have z_3 : w2.heap.size ≤ w3.heap.size := bS.size
  have T0_3 : Hid _ := And.intro (PPOwns.below T0_2.out.1 bS) T0_2.out.2
  have C_3 : Hid _ := And.intro (C_2.out.1.trans (bS.mono C_2.out.1.size)) True.intro
  have B_3 : Hid _ := And.intro (B_2.out.1.below bS) True.intro
  have S_3 : Hid _ := And.intro oS (fun g (hg : Value.ownBlock _ = some g) => oS.lt g hg)
  clear oS bS
  obtain ⟨ld00, ld01, ld02, ld03, ld04, ld05, ld06, ld07, ld08, ld09, ld010, ld011, ld012⟩ := B_3.out.1.c13 (b := w.heap.size) (x0 := .int .i64 k0.a0) (x1 := .int .i64 k0.a1) (x2 := .int .i64 k0.a2) (x3 := .int .i64 k0.a3) (x4 := .int .i64 k0.a4) (x5 := .int .i64 k0.a5) (x6 := .int .i64 k0.a6) (x7 := .int .i64 k0.a7) (x8 := .int .i64 k0.a8) (x9 := .bool k0.m) (x10 := d0) (x11 := d1) (x12 := d2) (t := 24) (by simp)
  go_wp2_with fail
  go_at_call 7
  refine (TB0.out _ (PPRow.below EN0.out.2.1 C_3.out.1)).mono ?_
  rintro e w4 ⟨X0, rfl, oX0, bX0⟩
  clear ld00 ld01 ld02 ld03 ld04 ld05 ld06 ld07 ld08 ld09 ld010 ld011 ld012
  have z_4 : w3.heap.size ≤ w4.heap.size := bX0.size
  have S_4 : Hid _ := And.intro (owns_below S_3.out.1 bX0) S_3.out.2
  have C_4 : Hid _ := And.intro (C_3.out.1.trans (bX0.mono C_3.out.1.size)) True.intro
  have B_4 : Hid _ := And.intro (B_3.out.1.below bX0) True.intro
  have X0_4 : Hid _ := And.intro oX0 (fun g (hg : PPBlk _ g) => PPOwns.blk oX0 g hg)
  clear oX0 bX0
  obtain ⟨X0a0, X0a1, X0a2, X0p0, X0p1, X0p2, eX0⟩ := PPOwns.parts X0_4.out.1
  subst eX0
  have alX0 : Below w4.heap.size w4 (w4.alloc (.cells #[.int .i64 k0.a0, .int .i64 k0.a1, .int .i64 k0.a2, .int .i64 k0.a3, .int .i64 k0.a4, .int .i64 k0.a5, .int .i64 k0.a6, .int .i64 k0.a7, .int .i64 k0.a8, .bool k0.m, .slice X0a0 k0.o.length X0p0, .slice X0a1 k0.t.length X0p1, .slice X0a2 k0.f.length X0p2] 28)) := (Below.refl _ _).alloc (Nat.le_refl _) _
  have z_5 : w4.heap.size ≤ (w4.alloc (.cells #[.int .i64 k0.a0, .int .i64 k0.a1, .int .i64 k0.a2, .int .i64 k0.a3, .int .i64 k0.a4, .int .i64 k0.a5, .int .i64 k0.a6, .int .i64 k0.a7, .int .i64 k0.a8, .bool k0.m, .slice X0a0 k0.o.length X0p0, .slice X0a1 k0.t.length X0p1, .slice X0a2 k0.f.length X0p2] 28)).heap.size := alX0.size
  have S_5 : Hid _ := And.intro (owns_below S_4.out.1 alX0) S_4.out.2
  have X0_5 : Hid _ := And.intro (PPOwns.below X0_4.out.1 alX0) X0_4.out.2
  have C_5 : Hid _ := And.intro (C_4.out.1.trans (alX0.mono C_4.out.1.size)) True.intro
  have B_5 : Hid _ := And.intro (B_4.out.1.add (.cells #[.int .i64 k0.a0, .int .i64 k0.a1, .int .i64 k0.a2, .int .i64 k0.a3, .int .i64 k0.a4, .int .i64 k0.a5, .int .i64 k0.a6, .int .i64 k0.a7, .int .i64 k0.a8, .bool k0.m, .slice X0a0 k0.o.length X0p0, .slice X0a1 k0.t.length X0p1, .slice X0a2 k0.f.length X0p2] 28)) True.intro
  have y_5 : (w4.alloc (.cells #[.int .i64 k0.a0, .int .i64 k0.a1, .int .i64 k0.a2, .int .i64 k0.a3, .int .i64 k0.a4, .int .i64 k0.a5, .int .i64 k0.a6, .int .i64 k0.a7, .int .i64 k0.a8, .bool k0.m, .slice X0a0 k0.o.length X0p0, .slice X0a1 k0.t.length X0p1, .slice X0a2 k0.f.length X0p2] 28)).heap.size = w4.heap.size + 1 := by simp
  clear alX0
  obtain ⟨ld00, ld01, ld02, ld03, ld04, ld05, ld06, ld07, ld08, ld09, ld010, ld011, ld012⟩ := B_5.out.1.c13 (b := w4.heap.size) (x0 := .int .i64 k0.a0) (x1 := .int .i64 k0.a1) (x2 := .int .i64 k0.a2) (x3 := .int .i64 k0.a3) (x4 := .int .i64 k0.a4) (x5 := .int .i64 k0.a5) (x6 := .int .i64 k0.a6) (x7 := .int .i64 k0.a7) (x8 := .int .i64 k0.a8) (x9 := .bool k0.m) (x10 := .slice X0a0 k0.o.length X0p0) (x11 := .slice X0a1 k0.t.length X0p1) (x12 := .slice X0a2 k0.f.length X0p2) (t := 28) (by simp)
  go_wp2_with fail
  go_at_call 8
  refine (HI.out.1 _ _ (HV.out.1 _ C_5.out.1) (PPOwns.row X0_5.out.1)).mono ?_
  rintro e w5 ⟨G, rfl, oG, bG⟩
  clear ld00 ld01 ld02 ld03 ld04 ld05 ld06 ld07 ld08 ld09 ld010 ld011 ld012
  have z_6 : (w4.alloc (.cells #[.int .i64 k0.a0, .int .i64 k0.a1, .int .i64 k0.a2, .int .i64 k0.a3, .int .i64 k0.a4, .int .i64 k0.a5, .int .i64 k0.a6, .int .i64 k0.a7, .int .i64 k0.a8, .bool k0.m, .slice X0a0 k0.o.length X0p0, .slice X0a1 k0.t.length X0p1, .slice X0a2 k0.f.length X0p2] 28)).heap.size ≤ w5.heap.size := bG.size
  have S_6 : Hid _ := And.intro (owns_below S_5.out.1 bG) S_5.out.2
  have X0_6 : Hid _ := And.intro (PPOwns.below X0_5.out.1 bG) X0_5.out.2
  have C_6 : Hid _ := And.intro (C_5.out.1.trans (bG.mono C_5.out.1.size)) True.intro
  have B_6 : Hid _ := And.intro (B_5.out.1.below bG) True.intro
  have G_6 : Hid _ := And.intro oG (fun g (hg : Value.ownBlock _ = some g) => oG.lt g hg)
  clear oG bG
  go_wp2_with fail
  go_at_call 9
  refine (eqBytes_same _ _ y _ (row_of_owns G_6.out.1) (row_of_owns S_6.out.1) (by rw [← EM.out.1]; omega)).mono ?_
  rintro e w6 ⟨rfl, mw6, hw⟩
  have dw6 : Below w5.heap.size w5 w6 := by rw [hw]; exact below_drewN (Below.refl _ _) mw6
  clear hw
  have z_7 : w5.heap.size ≤ w6.heap.size := dw6.size
  have S_7 : Hid _ := And.intro (owns_below S_6.out.1 dw6) S_6.out.2
  have X0_7 : Hid _ := And.intro (PPOwns.below X0_6.out.1 dw6) X0_6.out.2
  have G_7 : Hid _ := And.intro (owns_below G_6.out.1 dw6) G_6.out.2
  have C_7 : Hid _ := And.intro (C_6.out.1.trans (dw6.mono C_6.out.1.size)) True.intro
  have B_7 : Hid _ := And.intro (B_6.out.1.below dw6) True.intro
  clear dw6
  go_upto_region 10 with fail
  go_cut [49] from 45 to 49 (fun cv wx => cv = .bool false ∧ Below w6.heap.size w6 wx)
  case first =>
    have D : Hid (Below w6.heap.size w6 w6.drew) := ⟨rfl, rfl, rfl, Nat.le_refl _, fun _ _ => rfl⟩
    have CD : Hid _ := And.intro (C_7.out.1.trans (D.out.mono C_7.out.1.size)) True.intro
    obtain ⟨ld00, ld01, ld02, ld03, ld04, ld05, ld06, ld07, ld08, ld09, ld010, ld011, ld012⟩ := (B_7.out.1.drew).c13 (b := w4.heap.size) (x0 := .int .i64 k0.a0) (x1 := .int .i64 k0.a1) (x2 := .int .i64 k0.a2) (x3 := .int .i64 k0.a3) (x4 := .int .i64 k0.a4) (x5 := .int .i64 k0.a5) (x6 := .int .i64 k0.a6) (x7 := .int .i64 k0.a7) (x8 := .int .i64 k0.a8) (x9 := .bool k0.m) (x10 := .slice X0a0 k0.o.length X0p0) (x11 := .slice X0a1 k0.t.length X0p1) (x12 := .slice X0a2 k0.f.length X0p2) (t := 28) (by simp)
    obtain ⟨ld10, ld11, ld12, ld13, ld14, ld15, ld16, ld17, ld18, ld19, ld110, ld111, ld112⟩ := (B_7.out.1.drew).c13 (b := w.heap.size) (x0 := .int .i64 k0.a0) (x1 := .int .i64 k0.a1) (x2 := .int .i64 k0.a2) (x3 := .int .i64 k0.a3) (x4 := .int .i64 k0.a4) (x5 := .int .i64 k0.a5) (x6 := .int .i64 k0.a6) (x7 := .int .i64 k0.a7) (x8 := .int .i64 k0.a8) (x9 := .bool k0.m) (x10 := d0) (x11 := d1) (x12 := d2) (t := 24) (by simp)
    go_region_with (first
      | (go_at_call 7; refine (TB0.out w6.drew (PPRow.below EN0.out.2.1 CD.out.1)).mono ?_; rintro e wy ⟨ry, rfl, oy, by'⟩; obtain ⟨le0, le1, le2, le3, le4, le5, le6, le7, le8, le9, le10, le11, le12⟩ := (B_7.out.1.drew.below by').c13 (b := w4.heap.size) (x0 := .int .i64 k0.a0) (x1 := .int .i64 k0.a1) (x2 := .int .i64 k0.a2) (x3 := .int .i64 k0.a3) (x4 := .int .i64 k0.a4) (x5 := .int .i64 k0.a5) (x6 := .int .i64 k0.a6) (x7 := .int .i64 k0.a7) (x8 := .int .i64 k0.a8) (x9 := .bool k0.m) (x10 := .slice X0a0 k0.o.length X0p0) (x11 := .slice X0a1 k0.t.length X0p1) (x12 := .slice X0a2 k0.f.length X0p2) (t := 28) (by simp))
      | (go_at_call 10; refine (eqPar_same _ _ k0 wy (PPOwns.row ((PPOwns.below X0_7.out.1 D.out).below by')) oy.row (ppsmall_mono EN0.out.1 (by decide))).mono ?_; rintro e wz ⟨rfl, bz⟩))
    all_goals (go_wp2_with fail; go_meet; exact ⟨rfl, D.out.trans ((by'.trans (bz.mono by'.size)).mono D.out.size)⟩)
  case rest =>
  obtain ⟨rfl, bc⟩ := hcut
  have z_8 : w6.heap.size ≤ wc.heap.size := bc.size
  have S_8 : Hid _ := And.intro (owns_below S_7.out.1 bc) S_7.out.2
  have X0_8 : Hid _ := And.intro (PPOwns.below X0_7.out.1 bc) X0_7.out.2
  have G_8 : Hid _ := And.intro (owns_below G_7.out.1 bc) G_7.out.2
  have C_8 : Hid _ := And.intro (C_7.out.1.trans (bc.mono C_7.out.1.size)) True.intro
  have B_8 : Hid _ := And.intro (B_7.out.1.below bc) True.intro
  clear bc
  obtain ⟨ld00, ld01, ld02, ld03, ld04, ld05, ld06, ld07, ld08, ld09, ld010, ld011, ld012⟩ := B_8.out.1.c13 (b := w4.heap.size) (x0 := .int .i64 k0.a0) (x1 := .int .i64 k0.a1) (x2 := .int .i64 k0.a2) (x3 := .int .i64 k0.a3) (x4 := .int .i64 k0.a4) (x5 := .int .i64 k0.a5) (x6 := .int .i64 k0.a6) (x7 := .int .i64 k0.a7) (x8 := .int .i64 k0.a8) (x9 := .bool k0.m) (x10 := .slice X0a0 k0.o.length X0p0) (x11 := .slice X0a1 k0.t.length X0p1) (x12 := .slice X0a2 k0.f.length X0p2) (t := 28) (by simp)
  go_wp2_with fail
  go_at_call 11
  refine (markPar 1 _ _ k0 _ (ppsmall_mono EN0.out.1 (by decide)) (by omega) (by omega) X0_8.out.1).mono ?_
  rintro e w7 ⟨rfl, om, ch⟩
  have z_9 : wc.heap.size ≤ w7.heap.size := ch.size
  have S_9 : Hid _ := And.intro (ch.owns S_8.out.1 (fun g hg hs => by have p1 := S_8.out.2 g hg; have p2 := X0_8.out.2 g hs; omega)) S_8.out.2
  have G_9 : Hid _ := And.intro (ch.owns G_8.out.1 (fun g hg hs => by have p1 := G_8.out.2 g hg; have p2 := X0_8.out.2 g hs; omega)) G_8.out.2
  have C_9 : Hid _ := And.intro (C_8.out.1.trans (ch.below C_8.out.1.size (fun g hg => by have p2 := X0_8.out.2 g hg; omega))) True.intro
  have B_9 : Hid _ := And.intro (B_8.out.1.chg ch (fun b o hm hs => by have p2 := X0_8.out.2 b hs; simp at hm; rcases hm with ⟨hm, _⟩ | ⟨hm, _⟩ <;> omega)) True.intro
  have X0_9 : Hid _ := And.intro (show PPOwns _ _ _ _ from om) X0_8.out.2
  clear om ch
  clear ld00 ld01 ld02 ld03 ld04 ld05 ld06 ld07 ld08 ld09 ld010 ld011 ld012
  go_wp2_with fail
  go_at_call 9
  refine (eqBytes_same _ _ y _ (row_of_owns G_9.out.1) (row_of_owns S_9.out.1) (by rw [← EM.out.1]; omega)).mono ?_
  rintro e w8 ⟨rfl, mw8, hw⟩
  have dw8 : Below w7.heap.size w7 w8 := by rw [hw]; exact below_drewN (Below.refl _ _) mw8
  clear hw
  have z_10 : w7.heap.size ≤ w8.heap.size := dw8.size
  have S_10 : Hid _ := And.intro (owns_below S_9.out.1 dw8) S_9.out.2
  have X0_10 : Hid _ := And.intro (PPOwns.below X0_9.out.1 dw8) X0_9.out.2
  have G_10 : Hid _ := And.intro (owns_below G_9.out.1 dw8) G_9.out.2
  have C_10 : Hid _ := And.intro (C_9.out.1.trans (dw8.mono C_9.out.1.size)) True.intro
  have B_10 : Hid _ := And.intro (B_9.out.1.below dw8) True.intro
  clear dw8
  go_wp2_with fail
  go_at_call 12
  refine (markBytes 1 m _ _ y _ (by omega) (by omega) (by omega) (G_10.out.1)).mono ?_
  rintro e w9 ⟨rfl, om, bm, zm, om'⟩
  have ch : Chg (fun g => Value.ownBlock _ = some g) _ _ := Chg.of_only om' (fun g e => e)
  have z_11 : w8.heap.size ≤ w9.heap.size := ch.size
  have S_11 : Hid _ := And.intro (ch.owns S_10.out.1 (fun g hg hs => by have p1 := S_10.out.2 g hg; have p2 := G_10.out.2 g hs; omega)) S_10.out.2
  have X0_11 : Hid _ := And.intro (ch.ppowns2 X0_10.out.1 (fun g hg hs => by have p1 := X0_10.out.2 g hg; have p2 := G_10.out.2 g hs; omega)) X0_10.out.2
  have C_11 : Hid _ := And.intro (C_10.out.1.trans (ch.below C_10.out.1.size (fun g hg => by have p2 := G_10.out.2 g hg; omega))) True.intro
  have B_11 : Hid _ := And.intro (B_10.out.1.chg ch (fun b o hm hs => by have p2 := G_10.out.2 b hs; simp at hm; rcases hm with ⟨hm, _⟩ | ⟨hm, _⟩ <;> omega)) True.intro
  have G_11 : Hid _ := And.intro om G_10.out.2
  clear om bm zm om' ch
  go_wp2_with fail
  go_at_call 13
  refine (heldBytes 1 m _ _ (row_of_owns G_11.out.1) (by omega) (by decide) (by decide)).mono ?_
  rintro e w10 ⟨rfl, hw⟩
  subst w10
  obtain ⟨ld00, ld01, ld02, ld03, ld04, ld05, ld06, ld07, ld08, ld09, ld010, ld011, ld012⟩ := B_11.out.1.c13 (b := w.heap.size) (x0 := .int .i64 k0.a0) (x1 := .int .i64 k0.a1) (x2 := .int .i64 k0.a2) (x3 := .int .i64 k0.a3) (x4 := .int .i64 k0.a4) (x5 := .int .i64 k0.a5) (x6 := .int .i64 k0.a6) (x7 := .int .i64 k0.a7) (x8 := .int .i64 k0.a8) (x9 := .bool k0.m) (x10 := d0) (x11 := d1) (x12 := d2) (t := 24) (by simp)
  go_wp2_with fail
  go_at_call 7
  refine (TB0.out _ (PPRow.below EN0.out.2.1 C_11.out.1)).mono ?_
  rintro e w11 ⟨H0, rfl, oH0, bH0⟩
  clear ld00 ld01 ld02 ld03 ld04 ld05 ld06 ld07 ld08 ld09 ld010 ld011 ld012
  have z_12 : w9.heap.size ≤ w11.heap.size := bH0.size
  have S_12 : Hid _ := And.intro (owns_below S_11.out.1 bH0) S_11.out.2
  have X0_12 : Hid _ := And.intro (PPOwns.below X0_11.out.1 bH0) X0_11.out.2
  have G_12 : Hid _ := And.intro (owns_below G_11.out.1 bH0) G_11.out.2
  have C_12 : Hid _ := And.intro (C_11.out.1.trans (bH0.mono C_11.out.1.size)) True.intro
  have B_12 : Hid _ := And.intro (B_11.out.1.below bH0) True.intro
  have H0_12 : Hid _ := And.intro oH0 (fun g (hg : PPBlk _ g) => PPOwns.blk oH0 g hg)
  clear oH0 bH0
  go_wp2_with fail
  go_at_call 8
  refine (HI.out.1 _ _ (HV.out.1 _ C_12.out.1) (PPOwns.row H0_12.out.1)).mono ?_
  rintro e w12 ⟨H, rfl, oH, bH⟩
  have z_13 : w11.heap.size ≤ w12.heap.size := bH.size
  have S_13 : Hid _ := And.intro (owns_below S_12.out.1 bH) S_12.out.2
  have X0_13 : Hid _ := And.intro (PPOwns.below X0_12.out.1 bH) X0_12.out.2
  have G_13 : Hid _ := And.intro (owns_below G_12.out.1 bH) G_12.out.2
  have H0_13 : Hid _ := And.intro (PPOwns.below H0_12.out.1 bH) H0_12.out.2
  have C_13 : Hid _ := And.intro (C_12.out.1.trans (bH.mono C_12.out.1.size)) True.intro
  have B_13 : Hid _ := And.intro (B_12.out.1.below bH) True.intro
  have H_13 : Hid _ := And.intro oH (fun g (hg : Value.ownBlock _ = some g) => oH.lt g hg)
  clear oH bH
  go_wp2_with fail
  go_at_call 9
  refine (eqBytes_same _ _ y _ (row_of_owns H_13.out.1) (row_of_owns S_13.out.1) (by rw [← EM.out.1]; omega)).mono ?_
  rintro e w13 ⟨rfl, mw13, hw⟩
  have dw13 : Below w12.heap.size w12 w13 := by rw [hw]; exact below_drewN (Below.refl _ _) mw13
  clear hw
  have z_14 : w12.heap.size ≤ w13.heap.size := dw13.size
  have S_14 : Hid _ := And.intro (owns_below S_13.out.1 dw13) S_13.out.2
  have X0_14 : Hid _ := And.intro (PPOwns.below X0_13.out.1 dw13) X0_13.out.2
  have G_14 : Hid _ := And.intro (owns_below G_13.out.1 dw13) G_13.out.2
  have H_14 : Hid _ := And.intro (owns_below H_13.out.1 dw13) H_13.out.2
  have C_14 : Hid _ := And.intro (C_13.out.1.trans (dw13.mono C_13.out.1.size)) True.intro
  have B_14 : Hid _ := And.intro (B_13.out.1.below dw13) True.intro
  clear dw13
  go_wp2_with fail
  go_at_call 13
  refine (heldBytes 1 m _ _ (row_of_owns G_14.out.1) (by omega) (by decide) (by decide)).mono ?_
  rintro e w14 ⟨rfl, hw⟩
  subst w14
  go_wp2
  go_ret
  exact ⟨rfl, C_14.out.1⟩
/-- For arguments of whatever size: over the model's contract and the program's, where the sizes are within the law's. -/
theorem paramsBytes_walkOf (v0 : Value) (k0 : PP) (a1 : Bool) (y : List Int) (c1 : Int) (w : World) (Inv : World → Prop) (hInv : ∀ w' : World, Below w.heap.size w w' → Inv w') (sm0 : k0.small maxLen) (kb0 : k0.bytes) (row0 : PPRow w v0 k0) (lr : y.length ≤ 4194304)
    (hS : ∀ (w : World) (u0 : Value), PPRow w u0 k0 → Calls Tryd.prog 6 #[u0, .bool a1] w fun e w' => ∃ r, e = .returned (.tuple #[r, .int .i64 c1]) ∧ w'.ownsRow w.heap.size 5 1 r y.length (y.map (Value.int .u8)) ∧ Below w.heap.size w w')
    (hI : ∀ (w : World) (u0 : Value), Inv w → PPRow w u0 k0 → Calls Tryd.prog 8 #[u0, .bool a1] w fun e w' => ∃ r, e = .returned (.tuple #[r, .int .i64 c1]) ∧ w'.ownsRow w.heap.size 5 1 r y.length (y.map (Value.int .u8)) ∧ Below w.heap.size w w') :
    Calls Tryd.prog 3 #[v0, .bool a1] w fun e w' => e = .returned (.bool true) ∧ Below w.heap.size w w' := by
  have sm9 : k0.small 9223372036854775807 := ppsmall_mono sm0 (by unfold maxLen; decide)
  by_cases gk : 1048576 < k0.total
  · exact paramsBytes_hugeK v0 k0 a1 w row0 sm9 gk
  · skip
    have tk : k0.total ≤ 1048576 := by omega
    have smk : k0.small 1048576 := by unfold PP.total at tk; exact ⟨by omega, by omega, by omega⟩
    exact paramsBytesLaw v0 k0 a1 y c1 w Inv hInv row0 smk tk lr hS hI
end Go.Proofs.YtdfhpacioblcbaaDoor
