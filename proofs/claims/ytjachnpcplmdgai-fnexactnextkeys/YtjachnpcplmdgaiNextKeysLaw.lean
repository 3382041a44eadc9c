import Derived.Test.YtjachnpcplmdgaiEqBytes
import Derived.Test.YtjachnpcplmdgaiMarkBytes
import Derived.Test.YtjachnpcplmdgaiToBytes
import Derived.Test.YtjachnpcplmdgaiKeys
import Derived.Test.YtjachnpcplmdgaiBook
import Derived.Test.YtjachnpcplmdgaiEqKeys
import Derived.Test.YtjachnpcplmdgaiMarkKeys
import Derived.Test.YtjachnpcplmdgaiSzKeys
import Derived.Test.YtjachnpcplmdgaiToKeys
import Derived.Deep.RegionWith
import Derived.Deep.CutRange
namespace Go.Proofs.Ytjachnpcplmdgai
open Go.RowKit
set_option linter.unusedVariables false

theorem nextKeys_hugeK (v0 : Value) (k0 : K4) (w : World) (row0 : KRow w v0 k0) (sm : k0.small 9223372036854775807) (ho : 1048576 < k0.total) :
    Calls Try.prog 8 #[v0] w fun e w' => e = .returned (.bool true) ∧ Below w.heap.size w w' := by
  obtain ⟨d0, d1, d2, d3, rfl, _⟩ := id row0
  have WB : Below w.heap.size w (w.alloc (.cells #[d0, d1, d2, d3] 39)) := (Below.refl _ _).alloc (Nat.le_refl _) _
  have C := sz_over _ k0 1048576 _ (row0.below WB) sm (by decide) (by decide) ho
  have HW : Hid _ := WB
  clear row0 sm ho WB
  go_enter Try.func8, Try.ntmps8
  go_wp2_with fail
  go_at_call 26
  refine C.mono ?_
  rintro e w1 ⟨rfl, b1⟩
  have HB : Hid _ := HW.out.trans (b1.mono HW.out.size)
  clear b1 C
  go_wp2
  go_ret
  exact ⟨rfl, HB.out⟩
set_option maxRecDepth 20000 in
set_option maxHeartbeats 8000000 in
theorem nextKeysLaw (v0 : Value) (k0 : K4) (z : K4) (w : World) (Inv : World → Prop) (hInv : ∀ w' : World, Below w.heap.size w w' → Inv w') (row0 : KRow w v0 k0) (l0 : k0.small 1048576) (t0 : k0.total ≤ 1048576) (lr : z.small 4096)
    (hS : ∀ (w : World) (u0 : Value), KRow w u0 k0 → Calls Try.prog 27 #[u0] w fun e w' => ∃ r, e = .returned (r) ∧ KOwns w' w.heap.size r z ∧ Below w.heap.size w w')
    (hI : ∀ (w : World) (u0 : Value), Inv w → KRow w u0 k0 → Calls Try.prog 29 #[u0] w fun e w' => ∃ r, e = .returned (r) ∧ KOwns w' w.heap.size r z ∧ Below w.heap.size w w') :
    Calls Try.prog 8 #[v0] w fun e w' => e = .returned (.bool true) ∧ Below w.heap.size w w' := by
  have TB0 : Hid (∀ w : World, KRow w v0 k0 → Calls Try.prog 28 #[v0] w fun e w' => ∃ r, e = .returned r ∧ KOwns w' w.heap.size r k0 ∧ Below w.heap.size w w') := fun w h => toKeys v0 k0 w h (small_mono l0 (by decide))
  obtain ⟨d0, d1, d2, d3, rfl, _⟩ := id row0
  have WB : Below w.heap.size w (w.alloc (.cells #[d0, d1, d2, d3] 39)) := (Below.refl _ _).alloc (Nat.le_refl _) _
  have B0 := (Book.nil w).add (.cells #[d0, d1, d2, d3] 39)
  have CZ := sz_fit _ k0 1048576 _ (row0.below WB) (small_mono l0 (by decide)) (by decide) (by decide) t0
  have tt0 : 0 ≤ k0.total := by unfold K4.total; omega
  obtain ⟨lt, el⟩ : ∃ lt, lt = 1048576 - k0.total := ⟨_, rfl⟩
  rw [← el] at CZ
  have lt0 : 0 ≤ lt := by omega
  have EN0 : Hid _ := And.intro l0 (And.intro row0 True.intro)
  obtain ⟨kp0, kp1, kp2, kp3⟩ := id l0
  have LR : Hid _ := And.intro lr True.intro
  obtain ⟨rp0, rp1, rp2, rp3⟩ := id lr
  have HS : Hid _ := And.intro hS True.intro
  have HI : Hid _ := And.intro hI True.intro
  have HV : Hid _ := And.intro hInv True.intro
  have C_0 : Hid _ := And.intro WB True.intro
  have B_0 : Hid _ := And.intro B0 True.intro
  have y_0 : (w.alloc (.cells #[d0, d1, d2, d3] 39)).heap.size = w.heap.size + 1 := by simp
  clear hS hI hInv row0 el tt0 t0 l0 lr WB B0
  go_enter Try.func8, Try.ntmps8
  go_wp2_with fail
  go_at_call 26
  refine CZ.mono ?_
  rintro e w1 ⟨rfl, bz⟩
  have z_1 : (w.alloc (.cells #[d0, d1, d2, d3] 39)).heap.size ≤ w1.heap.size := bz.size
  have C_1 : Hid _ := And.intro (C_0.out.1.trans (bz.mono C_0.out.1.size)) True.intro
  have B_1 : Hid _ := And.intro (B_0.out.1.below bz) True.intro
  clear CZ bz
  obtain ⟨ld00, ld01, ld02, ld03⟩ := B_1.out.1.c4 (b := w.heap.size) (x0 := d0) (x1 := d1) (x2 := d2) (x3 := d3) (t := 39) (by simp)
  go_wp2_with fail
  go_at_call 28
  refine (TB0.out _ (KRow.below EN0.out.2.1 C_1.out.1)).mono ?_
  rintro e w2 ⟨T0, rfl, oT0, bT0⟩
  clear ld00 ld01 ld02 ld03
  have z_2 : w1.heap.size ≤ w2.heap.size := bT0.size
  have C_2 : Hid _ := And.intro (C_1.out.1.trans (bT0.mono C_1.out.1.size)) True.intro
  have B_2 : Hid _ := And.intro (B_1.out.1.below bT0) True.intro
  have T0_2 : Hid _ := And.intro oT0 (fun g (hg : KBlk _ g) => KOwns.blk oT0 g hg)
  clear oT0 bT0
  go_wp2_with fail
  go_at_call 27
  refine (HS.out.1 _ _ (KOwns.row T0_2.out.1)).mono ?_
  rintro e w3 ⟨S, rfl, oS, bS⟩
  have z_3 : w2.heap.size ≤ w3.heap.size := bS.size
  have T0_3 : Hid _ := And.intro (KOwns.below T0_2.out.1 bS) T0_2.out.2
  have C_3 : Hid _ := And.intro (C_2.out.1.trans (bS.mono C_2.out.1.size)) True.intro
  have B_3 : Hid _ := And.intro (B_2.out.1.below bS) True.intro
  have S_3 : Hid _ := And.intro oS (fun g (hg : KBlk _ g) => KOwns.blk oS g hg)
  clear oS bS
  obtain ⟨Sa0, Sa1, Sa2, Sa3, Sp0, Sp1, Sp2, Sp3, eS⟩ := KOwns.parts S_3.out.1
  subst eS
  have alS : Below w3.heap.size w3 (w3.alloc (.cells #[.slice Sa0 z.a.length Sp0, .slice Sa1 z.b.length Sp1, .slice Sa2 z.c.length Sp2, .slice Sa3 z.d.length Sp3] 34)) := (Below.refl _ _).alloc (Nat.le_refl _) _
  have z_4 : w3.heap.size ≤ (w3.alloc (.cells #[.slice Sa0 z.a.length Sp0, .slice Sa1 z.b.length Sp1, .slice Sa2 z.c.length Sp2, .slice Sa3 z.d.length Sp3] 34)).heap.size := alS.size
  have S_4 : Hid _ := And.intro (KOwns.below S_3.out.1 alS) S_3.out.2
  have C_4 : Hid _ := And.intro (C_3.out.1.trans (alS.mono C_3.out.1.size)) True.intro
  have B_4 : Hid _ := And.intro (B_3.out.1.add (.cells #[.slice Sa0 z.a.length Sp0, .slice Sa1 z.b.length Sp1, .slice Sa2 z.c.length Sp2, .slice Sa3 z.d.length Sp3] 34)) True.intro
  have y_4 : (w3.alloc (.cells #[.slice Sa0 z.a.length Sp0, .slice Sa1 z.b.length Sp1, .slice Sa2 z.c.length Sp2, .slice Sa3 z.d.length Sp3] 34)).heap.size = w3.heap.size + 1 := by simp
  clear alS
  obtain ⟨ld00, ld01, ld02, ld03⟩ := B_4.out.1.c4 (b := w.heap.size) (x0 := d0) (x1 := d1) (x2 := d2) (x3 := d3) (t := 39) (by simp)
  go_wp2_with fail
  go_at_call 28
  refine (TB0.out _ (KRow.below EN0.out.2.1 C_4.out.1)).mono ?_
  rintro e w4 ⟨X0, rfl, oX0, bX0⟩
  clear ld00 ld01 ld02 ld03
  have z_5 : (w3.alloc (.cells #[.slice Sa0 z.a.length Sp0, .slice Sa1 z.b.length Sp1, .slice Sa2 z.c.length Sp2, .slice Sa3 z.d.length Sp3] 34)).heap.size ≤ w4.heap.size := bX0.size
  have S_5 : Hid _ := And.intro (KOwns.below S_4.out.1 bX0) S_4.out.2
  have C_5 : Hid _ := And.intro (C_4.out.1.trans (bX0.mono C_4.out.1.size)) True.intro
  have B_5 : Hid _ := And.intro (B_4.out.1.below bX0) True.intro
  have X0_5 : Hid _ := And.intro oX0 (fun g (hg : KBlk _ g) => KOwns.blk oX0 g hg)
  clear oX0 bX0
  obtain ⟨X0a0, X0a1, X0a2, X0a3, X0p0, X0p1, X0p2, X0p3, eX0⟩ := KOwns.parts X0_5.out.1
  subst eX0
  have alX0 : Below w4.heap.size w4 (w4.alloc (.cells #[.slice X0a0 k0.a.length X0p0, .slice X0a1 k0.b.length X0p1, .slice X0a2 k0.c.length X0p2, .slice X0a3 k0.d.length X0p3] 34)) := (Below.refl _ _).alloc (Nat.le_refl _) _
  have z_6 : w4.heap.size ≤ (w4.alloc (.cells #[.slice X0a0 k0.a.length X0p0, .slice X0a1 k0.b.length X0p1, .slice X0a2 k0.c.length X0p2, .slice X0a3 k0.d.length X0p3] 34)).heap.size := alX0.size
  have S_6 : Hid _ := And.intro (KOwns.below S_5.out.1 alX0) S_5.out.2
  have X0_6 : Hid _ := And.intro (KOwns.below X0_5.out.1 alX0) X0_5.out.2
  have C_6 : Hid _ := And.intro (C_5.out.1.trans (alX0.mono C_5.out.1.size)) True.intro
  have B_6 : Hid _ := And.intro (B_5.out.1.add (.cells #[.slice X0a0 k0.a.length X0p0, .slice X0a1 k0.b.length X0p1, .slice X0a2 k0.c.length X0p2, .slice X0a3 k0.d.length X0p3] 34)) True.intro
  have y_6 : (w4.alloc (.cells #[.slice X0a0 k0.a.length X0p0, .slice X0a1 k0.b.length X0p1, .slice X0a2 k0.c.length X0p2, .slice X0a3 k0.d.length X0p3] 34)).heap.size = w4.heap.size + 1 := by simp
  clear alX0
  obtain ⟨ld00, ld01, ld02, ld03⟩ := B_6.out.1.c4 (b := w4.heap.size) (x0 := .slice X0a0 k0.a.length X0p0) (x1 := .slice X0a1 k0.b.length X0p1) (x2 := .slice X0a2 k0.c.length X0p2) (x3 := .slice X0a3 k0.d.length X0p3) (t := 34) (by simp)
  go_wp2_with fail
  go_at_call 29
  refine (HI.out.1 _ _ (HV.out.1 _ C_6.out.1) (KOwns.row X0_6.out.1)).mono ?_
  rintro e w5 ⟨G, rfl, oG, bG⟩
  clear ld00 ld01 ld02 ld03
  have z_7 : (w4.alloc (.cells #[.slice X0a0 k0.a.length X0p0, .slice X0a1 k0.b.length X0p1, .slice X0a2 k0.c.length X0p2, .slice X0a3 k0.d.length X0p3] 34)).heap.size ≤ w5.heap.size := bG.size
  have S_7 : Hid _ := And.intro (KOwns.below S_6.out.1 bG) S_6.out.2
  have X0_7 : Hid _ := And.intro (KOwns.below X0_6.out.1 bG) X0_6.out.2
  have C_7 : Hid _ := And.intro (C_6.out.1.trans (bG.mono C_6.out.1.size)) True.intro
  have B_7 : Hid _ := And.intro (B_6.out.1.below bG) True.intro
  have G_7 : Hid _ := And.intro oG (fun g (hg : KBlk _ g) => KOwns.blk oG g hg)
  clear oG bG
  obtain ⟨Ga0, Ga1, Ga2, Ga3, Gp0, Gp1, Gp2, Gp3, eG⟩ := KOwns.parts G_7.out.1
  subst eG
  have alG : Below w5.heap.size w5 (w5.alloc (.cells #[.slice Ga0 z.a.length Gp0, .slice Ga1 z.b.length Gp1, .slice Ga2 z.c.length Gp2, .slice Ga3 z.d.length Gp3] 34)) := (Below.refl _ _).alloc (Nat.le_refl _) _
  have z_8 : w5.heap.size ≤ (w5.alloc (.cells #[.slice Ga0 z.a.length Gp0, .slice Ga1 z.b.length Gp1, .slice Ga2 z.c.length Gp2, .slice Ga3 z.d.length Gp3] 34)).heap.size := alG.size
  have S_8 : Hid _ := And.intro (KOwns.below S_7.out.1 alG) S_7.out.2
  have X0_8 : Hid _ := And.intro (KOwns.below X0_7.out.1 alG) X0_7.out.2
  have G_8 : Hid _ := And.intro (KOwns.below G_7.out.1 alG) G_7.out.2
  have C_8 : Hid _ := And.intro (C_7.out.1.trans (alG.mono C_7.out.1.size)) True.intro
  have B_8 : Hid _ := And.intro (B_7.out.1.add (.cells #[.slice Ga0 z.a.length Gp0, .slice Ga1 z.b.length Gp1, .slice Ga2 z.c.length Gp2, .slice Ga3 z.d.length Gp3] 34)) True.intro
  have y_8 : (w5.alloc (.cells #[.slice Ga0 z.a.length Gp0, .slice Ga1 z.b.length Gp1, .slice Ga2 z.c.length Gp2, .slice Ga3 z.d.length Gp3] 34)).heap.size = w5.heap.size + 1 := by simp
  clear alG
  obtain ⟨ld00, ld01, ld02, ld03⟩ := B_8.out.1.c4 (b := w5.heap.size) (x0 := .slice Ga0 z.a.length Gp0) (x1 := .slice Ga1 z.b.length Gp1) (x2 := .slice Ga2 z.c.length Gp2) (x3 := .slice Ga3 z.d.length Gp3) (t := 34) (by simp)
  obtain ⟨ld10, ld11, ld12, ld13⟩ := B_8.out.1.c4 (b := w3.heap.size) (x0 := .slice Sa0 z.a.length Sp0) (x1 := .slice Sa1 z.b.length Sp1) (x2 := .slice Sa2 z.c.length Sp2) (x3 := .slice Sa3 z.d.length Sp3) (t := 34) (by simp)
  go_wp2_with fail
  go_at_call 23
  refine (eqKeys_same _ _ z _ (KOwns.row G_8.out.1) (KOwns.row S_8.out.1) (small_mono LR.out.1 (by decide))).mono ?_
  rintro e w6 ⟨rfl, bw6⟩
  have z_9 : (w5.alloc (.cells #[.slice Ga0 z.a.length Gp0, .slice Ga1 z.b.length Gp1, .slice Ga2 z.c.length Gp2, .slice Ga3 z.d.length Gp3] 34)).heap.size ≤ w6.heap.size := bw6.size
  have S_9 : Hid _ := And.intro (KOwns.below S_8.out.1 bw6) S_8.out.2
  have X0_9 : Hid _ := And.intro (KOwns.below X0_8.out.1 bw6) X0_8.out.2
  have G_9 : Hid _ := And.intro (KOwns.below G_8.out.1 bw6) G_8.out.2
  have C_9 : Hid _ := And.intro (C_8.out.1.trans (bw6.mono C_8.out.1.size)) True.intro
  have B_9 : Hid _ := And.intro (B_8.out.1.below bw6) True.intro
  clear bw6
  clear ld00 ld01 ld02 ld03 ld10 ld11 ld12 ld13
  go_upto_region 10 with fail
  go_cut [31] from 27 to 31 (fun cv wx => cv = .bool false ∧ Below w6.heap.size w6 wx)
  case first =>
    have D : Hid (Below w6.heap.size w6 w6.drew) := ⟨rfl, rfl, rfl, Nat.le_refl _, fun _ _ => rfl⟩
    have CD : Hid _ := And.intro (C_9.out.1.trans (D.out.mono C_9.out.1.size)) True.intro
    obtain ⟨ld00, ld01, ld02, ld03⟩ := (B_9.out.1.drew).c4 (b := w4.heap.size) (x0 := .slice X0a0 k0.a.length X0p0) (x1 := .slice X0a1 k0.b.length X0p1) (x2 := .slice X0a2 k0.c.length X0p2) (x3 := .slice X0a3 k0.d.length X0p3) (t := 34) (by simp)
    obtain ⟨ld10, ld11, ld12, ld13⟩ := (B_9.out.1.drew).c4 (b := w.heap.size) (x0 := d0) (x1 := d1) (x2 := d2) (x3 := d3) (t := 39) (by simp)
    go_region_with (first
      | (go_at_call 28; refine (TB0.out w6.drew (KRow.below EN0.out.2.1 CD.out.1)).mono ?_; rintro e wy ⟨ry, rfl, oy, by'⟩; obtain ⟨le0, le1, le2, le3⟩ := (B_9.out.1.drew.below by').c4 (b := w4.heap.size) (x0 := .slice X0a0 k0.a.length X0p0) (x1 := .slice X0a1 k0.b.length X0p1) (x2 := .slice X0a2 k0.c.length X0p2) (x3 := .slice X0a3 k0.d.length X0p3) (t := 34) (by simp))
      | (go_at_call 23; refine (eqKeys_same _ _ k0 wy (KOwns.row ((KOwns.below X0_9.out.1 D.out).below by')) oy.row (small_mono EN0.out.1 (by decide))).mono ?_; rintro e wz ⟨rfl, bz⟩))
    all_goals (go_wp2_with fail; go_meet; exact ⟨rfl, D.out.trans ((by'.trans (bz.mono by'.size)).mono D.out.size)⟩)
  case rest =>
  obtain ⟨rfl, bc⟩ := hcut
  have z_10 : w6.heap.size ≤ wc.heap.size := bc.size
  have S_10 : Hid _ := And.intro (KOwns.below S_9.out.1 bc) S_9.out.2
  have X0_10 : Hid _ := And.intro (KOwns.below X0_9.out.1 bc) X0_9.out.2
  have G_10 : Hid _ := And.intro (KOwns.below G_9.out.1 bc) G_9.out.2
  have C_10 : Hid _ := And.intro (C_9.out.1.trans (bc.mono C_9.out.1.size)) True.intro
  have B_10 : Hid _ := And.intro (B_9.out.1.below bc) True.intro
  clear bc
  obtain ⟨ld00, ld01, ld02, ld03⟩ := B_10.out.1.c4 (b := w4.heap.size) (x0 := .slice X0a0 k0.a.length X0p0) (x1 := .slice X0a1 k0.b.length X0p1) (x2 := .slice X0a2 k0.c.length X0p2) (x3 := .slice X0a3 k0.d.length X0p3) (t := 34) (by simp)
  go_wp2_with fail
  go_at_call 24
  refine (markKeys 1 _ _ k0 _ (small_mono EN0.out.1 (by decide)) (by omega) (by omega) X0_10.out.1).mono ?_
  rintro e w7 ⟨rfl, om, ch⟩
  have z_11 : wc.heap.size ≤ w7.heap.size := ch.size
  have S_11 : Hid _ := And.intro (ch.kowns2 S_10.out.1 (fun g hg hs => by have p1 := S_10.out.2 g hg; have p2 := X0_10.out.2 g hs; omega)) S_10.out.2
  have G_11 : Hid _ := And.intro (ch.kowns2 G_10.out.1 (fun g hg hs => by have p1 := G_10.out.2 g hg; have p2 := X0_10.out.2 g hs; omega)) G_10.out.2
  have C_11 : Hid _ := And.intro (C_10.out.1.trans (ch.below C_10.out.1.size (fun g hg => by have p2 := X0_10.out.2 g hg; omega))) True.intro
  have B_11 : Hid _ := And.intro (B_10.out.1.chg ch (fun b o hm hs => by have p2 := X0_10.out.2 b hs; simp at hm; rcases hm with ⟨hm, _⟩ | ⟨hm, _⟩ | ⟨hm, _⟩ | ⟨hm, _⟩ <;> omega)) True.intro
  have X0_11 : Hid _ := And.intro (show KOwns _ _ _ _ from om) X0_10.out.2
  clear om ch
  clear ld00 ld01 ld02 ld03
  obtain ⟨ld00, ld01, ld02, ld03⟩ := B_11.out.1.c4 (b := w5.heap.size) (x0 := .slice Ga0 z.a.length Gp0) (x1 := .slice Ga1 z.b.length Gp1) (x2 := .slice Ga2 z.c.length Gp2) (x3 := .slice Ga3 z.d.length Gp3) (t := 34) (by simp)
  obtain ⟨ld10, ld11, ld12, ld13⟩ := B_11.out.1.c4 (b := w3.heap.size) (x0 := .slice Sa0 z.a.length Sp0) (x1 := .slice Sa1 z.b.length Sp1) (x2 := .slice Sa2 z.c.length Sp2) (x3 := .slice Sa3 z.d.length Sp3) (t := 34) (by simp)
  go_wp2_with fail
  go_at_call 23
  refine (eqKeys_same _ _ z _ (KOwns.row G_11.out.1) (KOwns.row S_11.out.1) (small_mono LR.out.1 (by decide))).mono ?_
  rintro e w8 ⟨rfl, bw8⟩
  have z_12 : w7.heap.size ≤ w8.heap.size := bw8.size
  have S_12 : Hid _ := And.intro (KOwns.below S_11.out.1 bw8) S_11.out.2
  have X0_12 : Hid _ := And.intro (KOwns.below X0_11.out.1 bw8) X0_11.out.2
  have G_12 : Hid _ := And.intro (KOwns.below G_11.out.1 bw8) G_11.out.2
  have C_12 : Hid _ := And.intro (C_11.out.1.trans (bw8.mono C_11.out.1.size)) True.intro
  have B_12 : Hid _ := And.intro (B_11.out.1.below bw8) True.intro
  clear bw8
  clear ld00 ld01 ld02 ld03 ld10 ld11 ld12 ld13
  obtain ⟨ld00, ld01, ld02, ld03⟩ := B_12.out.1.c4 (b := w5.heap.size) (x0 := .slice Ga0 z.a.length Gp0) (x1 := .slice Ga1 z.b.length Gp1) (x2 := .slice Ga2 z.c.length Gp2) (x3 := .slice Ga3 z.d.length Gp3) (t := 34) (by simp)
  go_wp2_with fail
  go_at_call 24
  refine (markKeys 1 _ _ z _ (small_mono LR.out.1 (by decide)) (by omega) (by omega) G_12.out.1).mono ?_
  rintro e w9 ⟨rfl, om, ch⟩
  have z_13 : w8.heap.size ≤ w9.heap.size := ch.size
  have S_13 : Hid _ := And.intro (ch.kowns2 S_12.out.1 (fun g hg hs => by have p1 := S_12.out.2 g hg; have p2 := G_12.out.2 g hs; omega)) S_12.out.2
  have X0_13 : Hid _ := And.intro (ch.kowns2 X0_12.out.1 (fun g hg hs => by have p1 := X0_12.out.2 g hg; have p2 := G_12.out.2 g hs; omega)) X0_12.out.2
  have C_13 : Hid _ := And.intro (C_12.out.1.trans (ch.below C_12.out.1.size (fun g hg => by have p2 := G_12.out.2 g hg; omega))) True.intro
  have B_13 : Hid _ := And.intro (B_12.out.1.chg ch (fun b o hm hs => by have p2 := G_12.out.2 b hs; simp at hm; rcases hm with ⟨hm, _⟩ | ⟨hm, _⟩ | ⟨hm, _⟩ | ⟨hm, _⟩ <;> omega)) True.intro
  have G_13 : Hid _ := And.intro (show KOwns _ _ _ _ from om) G_12.out.2
  clear om ch
  clear ld00 ld01 ld02 ld03
  obtain ⟨ld00, ld01, ld02, ld03⟩ := B_13.out.1.c4 (b := w5.heap.size) (x0 := .slice Ga0 z.a.length Gp0) (x1 := .slice Ga1 z.b.length Gp1) (x2 := .slice Ga2 z.c.length Gp2) (x3 := .slice Ga3 z.d.length Gp3) (t := 34) (by simp)
  go_wp2_with fail
  go_at_call 25
  refine (heldKeys 1 _ z _ (small_mono LR.out.1 (by decide)) (by decide) (by decide) (KOwns.row G_13.out.1)).mono ?_
  rintro e w10 ⟨rfl, bh⟩
  have z_14 : w9.heap.size ≤ w10.heap.size := bh.size
  have S_14 : Hid _ := And.intro (KOwns.below S_13.out.1 bh) S_13.out.2
  have X0_14 : Hid _ := And.intro (KOwns.below X0_13.out.1 bh) X0_13.out.2
  have G_14 : Hid _ := And.intro (KOwns.below G_13.out.1 bh) G_13.out.2
  have C_14 : Hid _ := And.intro (C_13.out.1.trans (bh.mono C_13.out.1.size)) True.intro
  have B_14 : Hid _ := And.intro (B_13.out.1.below bh) True.intro
  clear bh
  clear ld00 ld01 ld02 ld03
  obtain ⟨ld00, ld01, ld02, ld03⟩ := B_14.out.1.c4 (b := w.heap.size) (x0 := d0) (x1 := d1) (x2 := d2) (x3 := d3) (t := 39) (by simp)
  go_wp2_with fail
  go_at_call 28
  refine (TB0.out _ (KRow.below EN0.out.2.1 C_14.out.1)).mono ?_
  rintro e w11 ⟨H0, rfl, oH0, bH0⟩
  clear ld00 ld01 ld02 ld03
  have z_15 : w10.heap.size ≤ w11.heap.size := bH0.size
  have S_15 : Hid _ := And.intro (KOwns.below S_14.out.1 bH0) S_14.out.2
  have X0_15 : Hid _ := And.intro (KOwns.below X0_14.out.1 bH0) X0_14.out.2
  have G_15 : Hid _ := And.intro (KOwns.below G_14.out.1 bH0) G_14.out.2
  have C_15 : Hid _ := And.intro (C_14.out.1.trans (bH0.mono C_14.out.1.size)) True.intro
  have B_15 : Hid _ := And.intro (B_14.out.1.below bH0) True.intro
  have H0_15 : Hid _ := And.intro oH0 (fun g (hg : KBlk _ g) => KOwns.blk oH0 g hg)
  clear oH0 bH0
  go_wp2_with fail
  go_at_call 29
  refine (HI.out.1 _ _ (HV.out.1 _ C_15.out.1) (KOwns.row H0_15.out.1)).mono ?_
  rintro e w12 ⟨H, rfl, oH, bH⟩
  have z_16 : w11.heap.size ≤ w12.heap.size := bH.size
  have S_16 : Hid _ := And.intro (KOwns.below S_15.out.1 bH) S_15.out.2
  have X0_16 : Hid _ := And.intro (KOwns.below X0_15.out.1 bH) X0_15.out.2
  have G_16 : Hid _ := And.intro (KOwns.below G_15.out.1 bH) G_15.out.2
  have H0_16 : Hid _ := And.intro (KOwns.below H0_15.out.1 bH) H0_15.out.2
  have C_16 : Hid _ := And.intro (C_15.out.1.trans (bH.mono C_15.out.1.size)) True.intro
  have B_16 : Hid _ := And.intro (B_15.out.1.below bH) True.intro
  have H_16 : Hid _ := And.intro oH (fun g (hg : KBlk _ g) => KOwns.blk oH g hg)
  clear oH bH
  obtain ⟨Ha0, Ha1, Ha2, Ha3, Hp0, Hp1, Hp2, Hp3, eH⟩ := KOwns.parts H_16.out.1
  subst eH
  have alH : Below w12.heap.size w12 (w12.alloc (.cells #[.slice Ha0 z.a.length Hp0, .slice Ha1 z.b.length Hp1, .slice Ha2 z.c.length Hp2, .slice Ha3 z.d.length Hp3] 34)) := (Below.refl _ _).alloc (Nat.le_refl _) _
  have z_17 : w12.heap.size ≤ (w12.alloc (.cells #[.slice Ha0 z.a.length Hp0, .slice Ha1 z.b.length Hp1, .slice Ha2 z.c.length Hp2, .slice Ha3 z.d.length Hp3] 34)).heap.size := alH.size
  have S_17 : Hid _ := And.intro (KOwns.below S_16.out.1 alH) S_16.out.2
  have X0_17 : Hid _ := And.intro (KOwns.below X0_16.out.1 alH) X0_16.out.2
  have G_17 : Hid _ := And.intro (KOwns.below G_16.out.1 alH) G_16.out.2
  have H_17 : Hid _ := And.intro (KOwns.below H_16.out.1 alH) H_16.out.2
  have C_17 : Hid _ := And.intro (C_16.out.1.trans (alH.mono C_16.out.1.size)) True.intro
  have B_17 : Hid _ := And.intro (B_16.out.1.add (.cells #[.slice Ha0 z.a.length Hp0, .slice Ha1 z.b.length Hp1, .slice Ha2 z.c.length Hp2, .slice Ha3 z.d.length Hp3] 34)) True.intro
  have y_17 : (w12.alloc (.cells #[.slice Ha0 z.a.length Hp0, .slice Ha1 z.b.length Hp1, .slice Ha2 z.c.length Hp2, .slice Ha3 z.d.length Hp3] 34)).heap.size = w12.heap.size + 1 := by simp
  clear alH
  obtain ⟨ld00, ld01, ld02, ld03⟩ := B_17.out.1.c4 (b := w12.heap.size) (x0 := .slice Ha0 z.a.length Hp0) (x1 := .slice Ha1 z.b.length Hp1) (x2 := .slice Ha2 z.c.length Hp2) (x3 := .slice Ha3 z.d.length Hp3) (t := 34) (by simp)
  obtain ⟨ld10, ld11, ld12, ld13⟩ := B_17.out.1.c4 (b := w3.heap.size) (x0 := .slice Sa0 z.a.length Sp0) (x1 := .slice Sa1 z.b.length Sp1) (x2 := .slice Sa2 z.c.length Sp2) (x3 := .slice Sa3 z.d.length Sp3) (t := 34) (by simp)
  go_wp2_with fail
  go_at_call 23
  refine (eqKeys_same _ _ z _ (KOwns.row H_17.out.1) (KOwns.row S_17.out.1) (small_mono LR.out.1 (by decide))).mono ?_
  rintro e w13 ⟨rfl, bw13⟩
  have z_18 : (w12.alloc (.cells #[.slice Ha0 z.a.length Hp0, .slice Ha1 z.b.length Hp1, .slice Ha2 z.c.length Hp2, .slice Ha3 z.d.length Hp3] 34)).heap.size ≤ w13.heap.size := bw13.size
  have S_18 : Hid _ := And.intro (KOwns.below S_17.out.1 bw13) S_17.out.2
  have X0_18 : Hid _ := And.intro (KOwns.below X0_17.out.1 bw13) X0_17.out.2
  have G_18 : Hid _ := And.intro (KOwns.below G_17.out.1 bw13) G_17.out.2
  have H_18 : Hid _ := And.intro (KOwns.below H_17.out.1 bw13) H_17.out.2
  have C_18 : Hid _ := And.intro (C_17.out.1.trans (bw13.mono C_17.out.1.size)) True.intro
  have B_18 : Hid _ := And.intro (B_17.out.1.below bw13) True.intro
  clear bw13
  clear ld00 ld01 ld02 ld03 ld10 ld11 ld12 ld13
  obtain ⟨ld00, ld01, ld02, ld03⟩ := B_18.out.1.c4 (b := w5.heap.size) (x0 := .slice Ga0 z.a.length Gp0) (x1 := .slice Ga1 z.b.length Gp1) (x2 := .slice Ga2 z.c.length Gp2) (x3 := .slice Ga3 z.d.length Gp3) (t := 34) (by simp)
  go_wp2_with fail
  go_at_call 25
  refine (heldKeys 1 _ z _ (small_mono LR.out.1 (by decide)) (by decide) (by decide) (KOwns.row G_18.out.1)).mono ?_
  rintro e w14 ⟨rfl, bh⟩
  have z_19 : w13.heap.size ≤ w14.heap.size := bh.size
  have S_19 : Hid _ := And.intro (KOwns.below S_18.out.1 bh) S_18.out.2
  have X0_19 : Hid _ := And.intro (KOwns.below X0_18.out.1 bh) X0_18.out.2
  have G_19 : Hid _ := And.intro (KOwns.below G_18.out.1 bh) G_18.out.2
  have H_19 : Hid _ := And.intro (KOwns.below H_18.out.1 bh) H_18.out.2
  have C_19 : Hid _ := And.intro (C_18.out.1.trans (bh.mono C_18.out.1.size)) True.intro
  have B_19 : Hid _ := And.intro (B_18.out.1.below bh) True.intro
  clear bh
  clear ld00 ld01 ld02 ld03
  go_wp2
  go_ret
  exact ⟨rfl, C_19.out.1⟩
/-- For arguments of whatever size: over the model's contract and the program's, where the sizes are within the law's. -/
theorem nextKeys_walkOf (v0 : Value) (k0 : K4) (z : K4) (w : World) (Inv : World → Prop) (hInv : ∀ w' : World, Below w.heap.size w w' → Inv w') (sm0 : k0.small maxLen) (kb0 : k0.bytes) (row0 : KRow w v0 k0) (lr : z.small 4096)
    (hS : ∀ (w : World) (u0 : Value), KRow w u0 k0 → Calls Try.prog 27 #[u0] w fun e w' => ∃ r, e = .returned (r) ∧ KOwns w' w.heap.size r z ∧ Below w.heap.size w w')
    (hI : ∀ (w : World) (u0 : Value), Inv w → KRow w u0 k0 → Calls Try.prog 29 #[u0] w fun e w' => ∃ r, e = .returned (r) ∧ KOwns w' w.heap.size r z ∧ Below w.heap.size w w') :
    Calls Try.prog 8 #[v0] w fun e w' => e = .returned (.bool true) ∧ Below w.heap.size w w' := by
  have sm9 : k0.small 9223372036854775807 := small_mono sm0 (by unfold maxLen; decide)
  by_cases gk : 1048576 < k0.total
  · exact nextKeys_hugeK v0 k0 w row0 sm9 gk
  · skip
    have tk : k0.total ≤ 1048576 := by omega
    have smk : k0.small 1048576 := by unfold K4.total at tk; exact ⟨by omega, by omega, by omega, by omega⟩
    exact nextKeysLaw v0 k0 z w Inv hInv row0 smk tk lr hS hI
end Go.Proofs.Ytjachnpcplmdgai
