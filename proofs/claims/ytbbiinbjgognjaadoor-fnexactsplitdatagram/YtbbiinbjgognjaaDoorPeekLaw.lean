import Derived.Test.YtbbiinbjgognjaaDoorEqBytes
import Derived.Test.YtbbiinbjgognjaaDoorMarkBytes
import Derived.Test.YtbbiinbjgognjaaDoorToBytes
import Derived.Test.YtbbiinbjgognjaaDoorKeys
import Derived.Test.YtbbiinbjgognjaaDoorBook
import Derived.Test.YtbbiinbjgognjaaDoorHead8
import Derived.Test.YtbbiinbjgognjaaDoorEqHead
import Derived.Test.YtbbiinbjgognjaaDoorMarkHead
import Derived.Deep.RegionWith
import Derived.Deep.CutRange
namespace Go.Proofs.YtbbiinbjgognjaaDoor
open Go.RowKit
set_option linter.unusedVariables false

theorem peek_huge0 (ao0 : Option Addr) (n0 cp0 : Nat) (a1 : Int) (w : World) (h0 : 1048576 < n0) (m0 : n0 ≤ 9223372036854775807) :
    Calls Tryd.prog 3 #[.slice ao0 n0 cp0, .int .i64 a1] w fun e w' => e = .returned (.bool true) ∧ Below w.heap.size w w' := by
  go_enter Tryd.func3, Tryd.ntmps3
  go_wp2
  go_ret
  exact ⟨rfl, Below.refl _ _⟩
set_option maxRecDepth 20000 in
set_option maxHeartbeats 8000000 in
theorem peekLaw (v0 : Value) (x0 : List Int) (a1 : Int) (z : H8) (c1 : Int) (c2 : Int) (w : World) (Inv : World → Prop) (hInv : ∀ w' : World, Below w.heap.size w w' → Inv w') (row0 : Row w .u8 v0 x0) (l0 : x0.length ≤ 1048576) (lr : z.small 1048576)
    (hS : ∀ (w : World) (u0 : Value), Row w .u8 u0 x0 → Calls Tryd.prog 7 #[u0, .int .i64 a1] w fun e w' => ∃ r, e = .returned (.tuple #[r, .int .i64 c1, .int .i64 c2]) ∧ HOwns w' w.heap.size r z ∧ Below w.heap.size w w')
    (hI : ∀ (w : World) (u0 : Value), Inv w → Row w .u8 u0 x0 → Calls Tryd.prog 9 #[u0, .int .i64 a1] w fun e w' => ∃ r, e = .returned (.tuple #[r, .int .i64 c1, .int .i64 c2]) ∧ HOwns w' w.heap.size r z ∧ Below w.heap.size w w') :
    Calls Tryd.prog 3 #[v0, .int .i64 a1] w fun e w' => e = .returned (.bool true) ∧ Below w.heap.size w w' := by
  obtain ⟨ao0, cp0, ev0⟩ := row0.form
  subst ev0
  obtain ⟨n0, en0⟩ : ∃ n, n = x0.length := ⟨_, rfl⟩
  have TB0 : Hid (∀ w : World, Row w .u8 (.slice ao0 n0 cp0) x0 → Calls Tryd.prog 8 #[.slice ao0 n0 cp0] w fun e w' => ∃ r, e = .returned r ∧ w'.ownsRow w.heap.size 5 1 r x0.length (x0.map (Value.int .u8)) ∧ Below w.heap.size w w') := fun w h => toBytes _ x0 w h (by omega)
  rw [← en0] at row0 l0 ⊢
  have EN0 : Hid _ := And.intro en0 row0
  have hc1 : (c1 != c1) = false := by simp
  have hc2 : (c2 != c2) = false := by simp
  have LR : Hid _ := And.intro lr True.intro
  obtain ⟨rp0, rp1, rp2⟩ := id lr
  have HS : Hid _ := And.intro hS True.intro
  have HI : Hid _ := And.intro hI True.intro
  have HV : Hid _ := And.intro hInv True.intro
  have C_0 : Hid _ := And.intro (Below.refl w.heap.size w) True.intro
  clear hS hI hInv row0 en0 lr
  go_enter Tryd.func3, Tryd.ntmps3
  go_wp2_with fail
  go_at_call 8
  refine (TB0.out _ (EN0.out.2.below C_0.out.1)).mono ?_
  rintro e w1 ⟨T0, rfl, oT0, bT0⟩
  have z_1 : w.heap.size ≤ w1.heap.size := bT0.size
  have C_1 : Hid _ := And.intro (C_0.out.1.trans (bT0.mono C_0.out.1.size)) True.intro
  have T0_1 : Hid _ := And.intro oT0 (fun g (hg : Value.ownBlock _ = some g) => oT0.lt g hg)
  clear oT0 bT0
  go_wp2_with fail
  go_at_call 7
  refine (HS.out.1 _ _ (row_of_owns T0_1.out.1)).mono ?_
  rintro e w2 ⟨S, rfl, oS, bS⟩
  have z_2 : w1.heap.size ≤ w2.heap.size := bS.size
  have T0_2 : Hid _ := And.intro (owns_below T0_1.out.1 bS) T0_1.out.2
  have C_2 : Hid _ := And.intro (C_1.out.1.trans (bS.mono C_1.out.1.size)) True.intro
  have S_2 : Hid _ := And.intro oS (fun g (hg : HBlk _ g) => HOwns.blk oS g hg)
  clear oS bS
  obtain ⟨Sa0, Sa1, Sa2, Sp0, Sp1, Sp2, eS⟩ := HOwns.parts S_2.out.1
  subst eS
  have alS : Below w2.heap.size w2 (w2.alloc (.cells #[.int .i64 z.f, .int .i64 z.v, .slice Sa0 z.d.length Sp0, .slice Sa1 z.s.length Sp1, .slice Sa2 z.t.length Sp2, .int .i64 z.n, .int .i64 z.l, .int .i64 z.p] 24)) := (Below.refl _ _).alloc (Nat.le_refl _) _
  have B_2 : Hid _ := And.intro (Book.nil w2) True.intro
  have z_3 : w2.heap.size ≤ (w2.alloc (.cells #[.int .i64 z.f, .int .i64 z.v, .slice Sa0 z.d.length Sp0, .slice Sa1 z.s.length Sp1, .slice Sa2 z.t.length Sp2, .int .i64 z.n, .int .i64 z.l, .int .i64 z.p] 24)).heap.size := alS.size
  have S_3 : Hid _ := And.intro (HOwns.below S_2.out.1 alS) S_2.out.2
  have C_3 : Hid _ := And.intro (C_2.out.1.trans (alS.mono C_2.out.1.size)) True.intro
  have B_3 : Hid _ := And.intro (B_2.out.1.add (.cells #[.int .i64 z.f, .int .i64 z.v, .slice Sa0 z.d.length Sp0, .slice Sa1 z.s.length Sp1, .slice Sa2 z.t.length Sp2, .int .i64 z.n, .int .i64 z.l, .int .i64 z.p] 24)) True.intro
  have y_3 : (w2.alloc (.cells #[.int .i64 z.f, .int .i64 z.v, .slice Sa0 z.d.length Sp0, .slice Sa1 z.s.length Sp1, .slice Sa2 z.t.length Sp2, .int .i64 z.n, .int .i64 z.l, .int .i64 z.p] 24)).heap.size = w2.heap.size + 1 := by simp
  clear alS
  go_wp2_with fail
  go_at_call 8
  refine (TB0.out _ (EN0.out.2.below C_3.out.1)).mono ?_
  rintro e w3 ⟨X0, rfl, oX0, bX0⟩
  have z_4 : (w2.alloc (.cells #[.int .i64 z.f, .int .i64 z.v, .slice Sa0 z.d.length Sp0, .slice Sa1 z.s.length Sp1, .slice Sa2 z.t.length Sp2, .int .i64 z.n, .int .i64 z.l, .int .i64 z.p] 24)).heap.size ≤ w3.heap.size := bX0.size
  have S_4 : Hid _ := And.intro (HOwns.below S_3.out.1 bX0) S_3.out.2
  have C_4 : Hid _ := And.intro (C_3.out.1.trans (bX0.mono C_3.out.1.size)) True.intro
  have B_4 : Hid _ := And.intro (B_3.out.1.below bX0) True.intro
  have X0_4 : Hid _ := And.intro oX0 (fun g (hg : Value.ownBlock _ = some g) => oX0.lt g hg)
  clear oX0 bX0
  go_wp2_with fail
  go_at_call 9
  refine (HI.out.1 _ _ (HV.out.1 _ C_4.out.1) (row_of_owns X0_4.out.1)).mono ?_
  rintro e w4 ⟨G, rfl, oG, bG⟩
  have z_5 : w3.heap.size ≤ w4.heap.size := bG.size
  have S_5 : Hid _ := And.intro (HOwns.below S_4.out.1 bG) S_4.out.2
  have X0_5 : Hid _ := And.intro (owns_below X0_4.out.1 bG) X0_4.out.2
  have C_5 : Hid _ := And.intro (C_4.out.1.trans (bG.mono C_4.out.1.size)) True.intro
  have B_5 : Hid _ := And.intro (B_4.out.1.below bG) True.intro
  have G_5 : Hid _ := And.intro oG (fun g (hg : HBlk _ g) => HOwns.blk oG g hg)
  clear oG bG
  obtain ⟨Ga0, Ga1, Ga2, Gp0, Gp1, Gp2, eG⟩ := HOwns.parts G_5.out.1
  subst eG
  have alG : Below w4.heap.size w4 (w4.alloc (.cells #[.int .i64 z.f, .int .i64 z.v, .slice Ga0 z.d.length Gp0, .slice Ga1 z.s.length Gp1, .slice Ga2 z.t.length Gp2, .int .i64 z.n, .int .i64 z.l, .int .i64 z.p] 24)) := (Below.refl _ _).alloc (Nat.le_refl _) _
  have z_6 : w4.heap.size ≤ (w4.alloc (.cells #[.int .i64 z.f, .int .i64 z.v, .slice Ga0 z.d.length Gp0, .slice Ga1 z.s.length Gp1, .slice Ga2 z.t.length Gp2, .int .i64 z.n, .int .i64 z.l, .int .i64 z.p] 24)).heap.size := alG.size
  have S_6 : Hid _ := And.intro (HOwns.below S_5.out.1 alG) S_5.out.2
  have X0_6 : Hid _ := And.intro (owns_below X0_5.out.1 alG) X0_5.out.2
  have G_6 : Hid _ := And.intro (HOwns.below G_5.out.1 alG) G_5.out.2
  have C_6 : Hid _ := And.intro (C_5.out.1.trans (alG.mono C_5.out.1.size)) True.intro
  have B_6 : Hid _ := And.intro (B_5.out.1.add (.cells #[.int .i64 z.f, .int .i64 z.v, .slice Ga0 z.d.length Gp0, .slice Ga1 z.s.length Gp1, .slice Ga2 z.t.length Gp2, .int .i64 z.n, .int .i64 z.l, .int .i64 z.p] 24)) True.intro
  have y_6 : (w4.alloc (.cells #[.int .i64 z.f, .int .i64 z.v, .slice Ga0 z.d.length Gp0, .slice Ga1 z.s.length Gp1, .slice Ga2 z.t.length Gp2, .int .i64 z.n, .int .i64 z.l, .int .i64 z.p] 24)).heap.size = w4.heap.size + 1 := by simp
  clear alG
  obtain ⟨ld00, ld01, ld02, ld03, ld04, ld05, ld06, ld07⟩ := B_6.out.1.c8 (b := w4.heap.size) (x0 := .int .i64 z.f) (x1 := .int .i64 z.v) (x2 := .slice Ga0 z.d.length Gp0) (x3 := .slice Ga1 z.s.length Gp1) (x4 := .slice Ga2 z.t.length Gp2) (x5 := .int .i64 z.n) (x6 := .int .i64 z.l) (x7 := .int .i64 z.p) (t := 24) (by simp)
  obtain ⟨ld10, ld11, ld12, ld13, ld14, ld15, ld16, ld17⟩ := B_6.out.1.c8 (b := w2.heap.size) (x0 := .int .i64 z.f) (x1 := .int .i64 z.v) (x2 := .slice Sa0 z.d.length Sp0) (x3 := .slice Sa1 z.s.length Sp1) (x4 := .slice Sa2 z.t.length Sp2) (x5 := .int .i64 z.n) (x6 := .int .i64 z.l) (x7 := .int .i64 z.p) (t := 24) (by simp)
  go_wp2_with fail
  go_at_call 10
  refine (eqHead_same _ _ z _ (HOwns.row G_6.out.1) (HOwns.row S_6.out.1) (h8small_mono LR.out.1 (by decide))).mono ?_
  rintro e w5 ⟨rfl, bw5⟩
  have z_7 : (w4.alloc (.cells #[.int .i64 z.f, .int .i64 z.v, .slice Ga0 z.d.length Gp0, .slice Ga1 z.s.length Gp1, .slice Ga2 z.t.length Gp2, .int .i64 z.n, .int .i64 z.l, .int .i64 z.p] 24)).heap.size ≤ w5.heap.size := bw5.size
  have S_7 : Hid _ := And.intro (HOwns.below S_6.out.1 bw5) S_6.out.2
  have X0_7 : Hid _ := And.intro (owns_below X0_6.out.1 bw5) X0_6.out.2
  have G_7 : Hid _ := And.intro (HOwns.below G_6.out.1 bw5) G_6.out.2
  have C_7 : Hid _ := And.intro (C_6.out.1.trans (bw5.mono C_6.out.1.size)) True.intro
  have B_7 : Hid _ := And.intro (B_6.out.1.below bw5) True.intro
  clear bw5
  clear ld00 ld01 ld02 ld03 ld04 ld05 ld06 ld07 ld10 ld11 ld12 ld13 ld14 ld15 ld16 ld17
  go_wp2_with fail
  go_at_call 8
  refine (TB0.out _ (EN0.out.2.below C_7.out.1)).mono ?_
  rintro e w6 ⟨Y0, rfl, oY0, bY0⟩
  have z_8 : w5.heap.size ≤ w6.heap.size := bY0.size
  have S_8 : Hid _ := And.intro (HOwns.below S_7.out.1 bY0) S_7.out.2
  have X0_8 : Hid _ := And.intro (owns_below X0_7.out.1 bY0) X0_7.out.2
  have G_8 : Hid _ := And.intro (HOwns.below G_7.out.1 bY0) G_7.out.2
  have C_8 : Hid _ := And.intro (C_7.out.1.trans (bY0.mono C_7.out.1.size)) True.intro
  have B_8 : Hid _ := And.intro (B_7.out.1.below bY0) True.intro
  have Y0_8 : Hid _ := And.intro oY0 (fun g (hg : Value.ownBlock _ = some g) => oY0.lt g hg)
  clear oY0 bY0
  go_wp2_with fail
  go_at_call 11
  refine (eqBytes_same _ _ x0 _ (row_of_owns X0_8.out.1) (row_of_owns Y0_8.out.1) (by rw [← EN0.out.1]; omega)).mono ?_
  rintro e w7 ⟨rfl, mw7, hw⟩
  have dw7 : Below w6.heap.size w6 w7 := by rw [hw]; exact below_drewN (Below.refl _ _) mw7
  clear hw
  have z_9 : w6.heap.size ≤ w7.heap.size := dw7.size
  have S_9 : Hid _ := And.intro (HOwns.below S_8.out.1 dw7) S_8.out.2
  have X0_9 : Hid _ := And.intro (owns_below X0_8.out.1 dw7) X0_8.out.2
  have G_9 : Hid _ := And.intro (HOwns.below G_8.out.1 dw7) G_8.out.2
  have Y0_9 : Hid _ := And.intro (owns_below Y0_8.out.1 dw7) Y0_8.out.2
  have C_9 : Hid _ := And.intro (C_8.out.1.trans (dw7.mono C_8.out.1.size)) True.intro
  have B_9 : Hid _ := And.intro (B_8.out.1.below dw7) True.intro
  clear dw7
  go_wp2_with fail
  go_at_call 12
  refine (markBytes 1 n0 _ _ x0 _ (by omega) (by omega) (by omega) (by have h := X0_9.out.1; rw [← EN0.out.1] at h; exact h)).mono ?_
  rintro e w8 ⟨rfl, om, bm, zm, om'⟩
  have ch : Chg (fun g => Value.ownBlock _ = some g) _ _ := Chg.of_only om' (fun g e => e)
  have z_10 : w7.heap.size ≤ w8.heap.size := ch.size
  have S_10 : Hid _ := And.intro (ch.howns2 S_9.out.1 (fun g hg hs => by have p1 := S_9.out.2 g hg; have p2 := X0_9.out.2 g hs; omega)) S_9.out.2
  have G_10 : Hid _ := And.intro (ch.howns2 G_9.out.1 (fun g hg hs => by have p1 := G_9.out.2 g hg; have p2 := X0_9.out.2 g hs; omega)) G_9.out.2
  have C_10 : Hid _ := And.intro (C_9.out.1.trans (ch.below C_9.out.1.size (fun g hg => by have p2 := X0_9.out.2 g hg; omega))) True.intro
  have B_10 : Hid _ := And.intro (B_9.out.1.chg ch (fun b o hm hs => by have p2 := X0_9.out.2 b hs; simp at hm; rcases hm with ⟨hm, _⟩ | ⟨hm, _⟩ <;> omega)) True.intro
  have X0_10 : Hid _ := And.intro om X0_9.out.2
  clear om bm zm om' ch
  obtain ⟨ld00, ld01, ld02, ld03, ld04, ld05, ld06, ld07⟩ := B_10.out.1.c8 (b := w4.heap.size) (x0 := .int .i64 z.f) (x1 := .int .i64 z.v) (x2 := .slice Ga0 z.d.length Gp0) (x3 := .slice Ga1 z.s.length Gp1) (x4 := .slice Ga2 z.t.length Gp2) (x5 := .int .i64 z.n) (x6 := .int .i64 z.l) (x7 := .int .i64 z.p) (t := 24) (by simp)
  obtain ⟨ld10, ld11, ld12, ld13, ld14, ld15, ld16, ld17⟩ := B_10.out.1.c8 (b := w2.heap.size) (x0 := .int .i64 z.f) (x1 := .int .i64 z.v) (x2 := .slice Sa0 z.d.length Sp0) (x3 := .slice Sa1 z.s.length Sp1) (x4 := .slice Sa2 z.t.length Sp2) (x5 := .int .i64 z.n) (x6 := .int .i64 z.l) (x7 := .int .i64 z.p) (t := 24) (by simp)
  go_wp2_with fail
  go_at_call 10
  refine (eqHead_same _ _ z _ (HOwns.row G_10.out.1) (HOwns.row S_10.out.1) (h8small_mono LR.out.1 (by decide))).mono ?_
  rintro e w9 ⟨rfl, bw9⟩
  have z_11 : w8.heap.size ≤ w9.heap.size := bw9.size
  have S_11 : Hid _ := And.intro (HOwns.below S_10.out.1 bw9) S_10.out.2
  have X0_11 : Hid _ := And.intro (owns_below X0_10.out.1 bw9) X0_10.out.2
  have G_11 : Hid _ := And.intro (HOwns.below G_10.out.1 bw9) G_10.out.2
  have C_11 : Hid _ := And.intro (C_10.out.1.trans (bw9.mono C_10.out.1.size)) True.intro
  have B_11 : Hid _ := And.intro (B_10.out.1.below bw9) True.intro
  clear bw9
  clear ld00 ld01 ld02 ld03 ld04 ld05 ld06 ld07 ld10 ld11 ld12 ld13 ld14 ld15 ld16 ld17
  obtain ⟨ld00, ld01, ld02, ld03, ld04, ld05, ld06, ld07⟩ := B_11.out.1.c8 (b := w4.heap.size) (x0 := .int .i64 z.f) (x1 := .int .i64 z.v) (x2 := .slice Ga0 z.d.length Gp0) (x3 := .slice Ga1 z.s.length Gp1) (x4 := .slice Ga2 z.t.length Gp2) (x5 := .int .i64 z.n) (x6 := .int .i64 z.l) (x7 := .int .i64 z.p) (t := 24) (by simp)
  go_wp2_with fail
  go_at_call 13
  refine (markHead 1 _ _ z _ (h8small_mono LR.out.1 (by decide)) (by omega) (by omega) G_11.out.1).mono ?_
  rintro e w10 ⟨rfl, om, ch⟩
  have z_12 : w9.heap.size ≤ w10.heap.size := ch.size
  have S_12 : Hid _ := And.intro (ch.howns2 S_11.out.1 (fun g hg hs => by have p1 := S_11.out.2 g hg; have p2 := G_11.out.2 g hs; omega)) S_11.out.2
  have X0_12 : Hid _ := And.intro (ch.owns X0_11.out.1 (fun g hg hs => by have p1 := X0_11.out.2 g hg; have p2 := G_11.out.2 g hs; omega)) X0_11.out.2
  have C_12 : Hid _ := And.intro (C_11.out.1.trans (ch.below C_11.out.1.size (fun g hg => by have p2 := G_11.out.2 g hg; omega))) True.intro
  have B_12 : Hid _ := And.intro (B_11.out.1.chg ch (fun b o hm hs => by have p2 := G_11.out.2 b hs; simp at hm; rcases hm with ⟨hm, _⟩ | ⟨hm, _⟩ <;> omega)) True.intro
  have G_12 : Hid _ := And.intro (show HOwns _ _ _ _ from om) G_11.out.2
  clear om ch
  clear ld00 ld01 ld02 ld03 ld04 ld05 ld06 ld07
  obtain ⟨ld00, ld01, ld02, ld03, ld04, ld05, ld06, ld07⟩ := B_12.out.1.c8 (b := w4.heap.size) (x0 := .int .i64 z.f) (x1 := .int .i64 z.v) (x2 := .slice Ga0 z.d.length Gp0) (x3 := .slice Ga1 z.s.length Gp1) (x4 := .slice Ga2 z.t.length Gp2) (x5 := .int .i64 z.n) (x6 := .int .i64 z.l) (x7 := .int .i64 z.p) (t := 24) (by simp)
  go_wp2_with fail
  go_at_call 14
  refine (heldHead 1 _ z _ (h8small_mono LR.out.1 (by decide)) (by decide) (by decide) (HOwns.row G_12.out.1)).mono ?_
  rintro e w11 ⟨rfl, bh⟩
  have z_13 : w10.heap.size ≤ w11.heap.size := bh.size
  have S_13 : Hid _ := And.intro (HOwns.below S_12.out.1 bh) S_12.out.2
  have X0_13 : Hid _ := And.intro (owns_below X0_12.out.1 bh) X0_12.out.2
  have G_13 : Hid _ := And.intro (HOwns.below G_12.out.1 bh) G_12.out.2
  have C_13 : Hid _ := And.intro (C_12.out.1.trans (bh.mono C_12.out.1.size)) True.intro
  have B_13 : Hid _ := And.intro (B_12.out.1.below bh) True.intro
  clear bh
  clear ld00 ld01 ld02 ld03 ld04 ld05 ld06 ld07
  go_wp2_with fail
  go_at_call 8
  refine (TB0.out _ (EN0.out.2.below C_13.out.1)).mono ?_
  rintro e w12 ⟨H0, rfl, oH0, bH0⟩
  have z_14 : w11.heap.size ≤ w12.heap.size := bH0.size
  have S_14 : Hid _ := And.intro (HOwns.below S_13.out.1 bH0) S_13.out.2
  have X0_14 : Hid _ := And.intro (owns_below X0_13.out.1 bH0) X0_13.out.2
  have G_14 : Hid _ := And.intro (HOwns.below G_13.out.1 bH0) G_13.out.2
  have C_14 : Hid _ := And.intro (C_13.out.1.trans (bH0.mono C_13.out.1.size)) True.intro
  have B_14 : Hid _ := And.intro (B_13.out.1.below bH0) True.intro
  have H0_14 : Hid _ := And.intro oH0 (fun g (hg : Value.ownBlock _ = some g) => oH0.lt g hg)
  clear oH0 bH0
  go_wp2_with fail
  go_at_call 9
  refine (HI.out.1 _ _ (HV.out.1 _ C_14.out.1) (row_of_owns H0_14.out.1)).mono ?_
  rintro e w13 ⟨H, rfl, oH, bH⟩
  have z_15 : w12.heap.size ≤ w13.heap.size := bH.size
  have S_15 : Hid _ := And.intro (HOwns.below S_14.out.1 bH) S_14.out.2
  have X0_15 : Hid _ := And.intro (owns_below X0_14.out.1 bH) X0_14.out.2
  have G_15 : Hid _ := And.intro (HOwns.below G_14.out.1 bH) G_14.out.2
  have H0_15 : Hid _ := And.intro (owns_below H0_14.out.1 bH) H0_14.out.2
  have C_15 : Hid _ := And.intro (C_14.out.1.trans (bH.mono C_14.out.1.size)) True.intro
  have B_15 : Hid _ := And.intro (B_14.out.1.below bH) True.intro
  have H_15 : Hid _ := And.intro oH (fun g (hg : HBlk _ g) => HOwns.blk oH g hg)
  clear oH bH
  obtain ⟨Ha0, Ha1, Ha2, Hp0, Hp1, Hp2, eH⟩ := HOwns.parts H_15.out.1
  subst eH
  have alH : Below w13.heap.size w13 (w13.alloc (.cells #[.int .i64 z.f, .int .i64 z.v, .slice Ha0 z.d.length Hp0, .slice Ha1 z.s.length Hp1, .slice Ha2 z.t.length Hp2, .int .i64 z.n, .int .i64 z.l, .int .i64 z.p] 24)) := (Below.refl _ _).alloc (Nat.le_refl _) _
  have z_16 : w13.heap.size ≤ (w13.alloc (.cells #[.int .i64 z.f, .int .i64 z.v, .slice Ha0 z.d.length Hp0, .slice Ha1 z.s.length Hp1, .slice Ha2 z.t.length Hp2, .int .i64 z.n, .int .i64 z.l, .int .i64 z.p] 24)).heap.size := alH.size
  have S_16 : Hid _ := And.intro (HOwns.below S_15.out.1 alH) S_15.out.2
  have X0_16 : Hid _ := And.intro (owns_below X0_15.out.1 alH) X0_15.out.2
  have G_16 : Hid _ := And.intro (HOwns.below G_15.out.1 alH) G_15.out.2
  have H_16 : Hid _ := And.intro (HOwns.below H_15.out.1 alH) H_15.out.2
  have C_16 : Hid _ := And.intro (C_15.out.1.trans (alH.mono C_15.out.1.size)) True.intro
  have B_16 : Hid _ := And.intro (B_15.out.1.add (.cells #[.int .i64 z.f, .int .i64 z.v, .slice Ha0 z.d.length Hp0, .slice Ha1 z.s.length Hp1, .slice Ha2 z.t.length Hp2, .int .i64 z.n, .int .i64 z.l, .int .i64 z.p] 24)) True.intro
  have y_16 : (w13.alloc (.cells #[.int .i64 z.f, .int .i64 z.v, .slice Ha0 z.d.length Hp0, .slice Ha1 z.s.length Hp1, .slice Ha2 z.t.length Hp2, .int .i64 z.n, .int .i64 z.l, .int .i64 z.p] 24)).heap.size = w13.heap.size + 1 := by simp
  clear alH
  obtain ⟨ld00, ld01, ld02, ld03, ld04, ld05, ld06, ld07⟩ := B_16.out.1.c8 (b := w13.heap.size) (x0 := .int .i64 z.f) (x1 := .int .i64 z.v) (x2 := .slice Ha0 z.d.length Hp0) (x3 := .slice Ha1 z.s.length Hp1) (x4 := .slice Ha2 z.t.length Hp2) (x5 := .int .i64 z.n) (x6 := .int .i64 z.l) (x7 := .int .i64 z.p) (t := 24) (by simp)
  obtain ⟨ld10, ld11, ld12, ld13, ld14, ld15, ld16, ld17⟩ := B_16.out.1.c8 (b := w2.heap.size) (x0 := .int .i64 z.f) (x1 := .int .i64 z.v) (x2 := .slice Sa0 z.d.length Sp0) (x3 := .slice Sa1 z.s.length Sp1) (x4 := .slice Sa2 z.t.length Sp2) (x5 := .int .i64 z.n) (x6 := .int .i64 z.l) (x7 := .int .i64 z.p) (t := 24) (by simp)
  go_wp2_with fail
  go_at_call 10
  refine (eqHead_same _ _ z _ (HOwns.row H_16.out.1) (HOwns.row S_16.out.1) (h8small_mono LR.out.1 (by decide))).mono ?_
  rintro e w14 ⟨rfl, bw14⟩
  have z_17 : (w13.alloc (.cells #[.int .i64 z.f, .int .i64 z.v, .slice Ha0 z.d.length Hp0, .slice Ha1 z.s.length Hp1, .slice Ha2 z.t.length Hp2, .int .i64 z.n, .int .i64 z.l, .int .i64 z.p] 24)).heap.size ≤ w14.heap.size := bw14.size
  have S_17 : Hid _ := And.intro (HOwns.below S_16.out.1 bw14) S_16.out.2
  have X0_17 : Hid _ := And.intro (owns_below X0_16.out.1 bw14) X0_16.out.2
  have G_17 : Hid _ := And.intro (HOwns.below G_16.out.1 bw14) G_16.out.2
  have H_17 : Hid _ := And.intro (HOwns.below H_16.out.1 bw14) H_16.out.2
  have C_17 : Hid _ := And.intro (C_16.out.1.trans (bw14.mono C_16.out.1.size)) True.intro
  have B_17 : Hid _ := And.intro (B_16.out.1.below bw14) True.intro
  clear bw14
  clear ld00 ld01 ld02 ld03 ld04 ld05 ld06 ld07 ld10 ld11 ld12 ld13 ld14 ld15 ld16 ld17
  obtain ⟨ld00, ld01, ld02, ld03, ld04, ld05, ld06, ld07⟩ := B_17.out.1.c8 (b := w4.heap.size) (x0 := .int .i64 z.f) (x1 := .int .i64 z.v) (x2 := .slice Ga0 z.d.length Gp0) (x3 := .slice Ga1 z.s.length Gp1) (x4 := .slice Ga2 z.t.length Gp2) (x5 := .int .i64 z.n) (x6 := .int .i64 z.l) (x7 := .int .i64 z.p) (t := 24) (by simp)
  go_wp2_with fail
  go_at_call 14
  refine (heldHead 1 _ z _ (h8small_mono LR.out.1 (by decide)) (by decide) (by decide) (HOwns.row G_17.out.1)).mono ?_
  rintro e w15 ⟨rfl, bh⟩
  have z_18 : w14.heap.size ≤ w15.heap.size := bh.size
  have S_18 : Hid _ := And.intro (HOwns.below S_17.out.1 bh) S_17.out.2
  have X0_18 : Hid _ := And.intro (owns_below X0_17.out.1 bh) X0_17.out.2
  have G_18 : Hid _ := And.intro (HOwns.below G_17.out.1 bh) G_17.out.2
  have H_18 : Hid _ := And.intro (HOwns.below H_17.out.1 bh) H_17.out.2
  have C_18 : Hid _ := And.intro (C_17.out.1.trans (bh.mono C_17.out.1.size)) True.intro
  have B_18 : Hid _ := And.intro (B_17.out.1.below bh) True.intro
  clear bh
  clear ld00 ld01 ld02 ld03 ld04 ld05 ld06 ld07
  go_wp2
  go_ret
  exact ⟨rfl, C_18.out.1⟩
/-- For arguments of whatever size: over the model's contract and the program's, where the sizes are within the law's. -/
theorem peek_walkOf (v0 : Value) (x0 : List Int) (a1 : Int) (z : H8) (c1 : Int) (c2 : Int) (w : World) (Inv : World → Prop) (hInv : ∀ w' : World, Below w.heap.size w w' → Inv w') (l0 : x0.length ≤ maxLen) (wf0 : ∀ x ∈ x0, (Lit.int .u8 x).wf = true) (wf1 : (Lit.int .i64 a1).wf = true) (row0 : Row w .u8 v0 x0) (lr : z.small 1048576)
    (hS : ∀ (w : World) (u0 : Value), Row w .u8 u0 x0 → Calls Tryd.prog 7 #[u0, .int .i64 a1] w fun e w' => ∃ r, e = .returned (.tuple #[r, .int .i64 c1, .int .i64 c2]) ∧ HOwns w' w.heap.size r z ∧ Below w.heap.size w w')
    (hI : ∀ (w : World) (u0 : Value), Inv w → Row w .u8 u0 x0 → Calls Tryd.prog 9 #[u0, .int .i64 a1] w fun e w' => ∃ r, e = .returned (.tuple #[r, .int .i64 c1, .int .i64 c2]) ∧ HOwns w' w.heap.size r z ∧ Below w.heap.size w w') :
    Calls Tryd.prog 3 #[v0, .int .i64 a1] w fun e w' => e = .returned (.bool true) ∧ Below w.heap.size w w' := by
  have m0 : x0.length ≤ 9223372036854775807 := by have h := l0; unfold maxLen at h; omega
  by_cases g0 : 1048576 < x0.length
  · obtain ⟨ao0, cp0, rfl⟩ := row0.form; exact peek_huge0 ao0 _ cp0 a1 w g0 m0
  · skip
    exact peekLaw v0 x0 a1 z c1 c2 w Inv hInv row0 (by omega) lr hS hI
end Go.Proofs.YtbbiinbjgognjaaDoor
