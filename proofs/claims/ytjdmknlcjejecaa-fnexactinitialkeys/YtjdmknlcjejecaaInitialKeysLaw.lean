import Derived.Test.YtjdmknlcjejecaaEqBytes
import Derived.Test.YtjdmknlcjejecaaMarkBytes
import Derived.Test.YtjdmknlcjejecaaToBytes
import Derived.Test.YtjdmknlcjejecaaKeys
import Derived.Test.YtjdmknlcjejecaaBook
import Derived.Test.YtjdmknlcjejecaaEqKeys
import Derived.Test.YtjdmknlcjejecaaMarkKeys
import Derived.Deep.RegionWith
import Derived.Deep.CutRange
namespace Go.Proofs.Ytjdmknlcjejecaa
open Go.RowKit
set_option linter.unusedVariables false

theorem initialKeys_huge1 (a0 : Int) (ao1 : Option Addr) (n1 cp1 : Nat) (w : World) (h1 : 1048576 < n1) (m1 : n1 ≤ 9223372036854775807) :
    Calls Try.prog 3 #[.int .i64 a0, .slice ao1 n1 cp1] w fun e w' => e = .returned (.bool true) ∧ Below w.heap.size w w' := by
  go_enter Try.func3, Try.ntmps3
  go_wp2
  go_ret
  exact ⟨rfl, Below.refl _ _⟩
set_option maxRecDepth 20000 in
set_option maxHeartbeats 8000000 in
theorem initialKeysLaw (a0 : Int) (v1 : Value) (x1 : List Int) (z : K4) (z2 : K4) (w : World) (Inv : World → Prop) (hInv : ∀ w' : World, Below w.heap.size w w' → Inv w') (row1 : Row w .u8 v1 x1) (l1 : x1.length ≤ 1048576) (lr : z.small 4096) (lr2 : z2.small 4096)
    (hS : ∀ (w : World) (u1 : Value), Row w .u8 u1 x1 → Calls Try.prog 4 #[.int .i64 a0, u1] w fun e w' => ∃ r rb mid, e = .returned (.tuple #[r, rb]) ∧ KOwns w' w.heap.size r z ∧ (∀ g, KBlk r g → g < mid) ∧ w.heap.size ≤ mid ∧ mid ≤ w'.heap.size ∧ KOwns w' mid rb z2 ∧ Below w.heap.size w w')
    (hI : ∀ (w : World) (u1 : Value), Inv w → Row w .u8 u1 x1 → Calls Try.prog 6 #[.int .i64 a0, u1] w fun e w' => ∃ r rb mid, e = .returned (.tuple #[r, rb]) ∧ KOwns w' w.heap.size r z ∧ (∀ g, KBlk r g → g < mid) ∧ w.heap.size ≤ mid ∧ mid ≤ w'.heap.size ∧ KOwns w' mid rb z2 ∧ Below w.heap.size w w') :
    Calls Try.prog 3 #[.int .i64 a0, v1] w fun e w' => e = .returned (.bool true) ∧ Below w.heap.size w w' := by
  obtain ⟨ao1, cp1, ev1⟩ := row1.form
  subst ev1
  obtain ⟨n1, en1⟩ : ∃ n, n = x1.length := ⟨_, rfl⟩
  have TB1 : Hid (∀ w : World, Row w .u8 (.slice ao1 n1 cp1) x1 → Calls Try.prog 5 #[.slice ao1 n1 cp1] w fun e w' => ∃ r, e = .returned r ∧ w'.ownsRow w.heap.size 5 1 r x1.length (x1.map (Value.int .u8)) ∧ Below w.heap.size w w') := fun w h => toBytes _ x1 w h (by omega)
  rw [← en1] at row1 l1 ⊢
  have EN1 : Hid _ := And.intro en1 row1
  have LR : Hid _ := And.intro lr True.intro
  obtain ⟨rp0, rp1, rp2, rp3⟩ := id lr
  have LR2 : Hid _ := And.intro lr2 True.intro
  obtain ⟨rq0, rq1, rq2, rq3⟩ := id lr2
  have HS : Hid _ := And.intro hS True.intro
  have HI : Hid _ := And.intro hI True.intro
  have HV : Hid _ := And.intro hInv True.intro
  have C_0 : Hid _ := And.intro (Below.refl w.heap.size w) True.intro
  clear hS hI hInv row1 en1 lr lr2
  go_enter Try.func3, Try.ntmps3
  go_wp2_with fail
  go_at_call 5
  refine (TB1.out _ (EN1.out.2.below C_0.out.1)).mono ?_
  rintro e w1 ⟨T1, rfl, oT1, bT1⟩
  have z_1 : w.heap.size ≤ w1.heap.size := bT1.size
  have C_1 : Hid _ := And.intro (C_0.out.1.trans (bT1.mono C_0.out.1.size)) True.intro
  have T1_1 : Hid _ := And.intro oT1 (fun g (hg : Value.ownBlock _ = some g) => oT1.lt g hg)
  clear oT1 bT1
  go_wp2_with fail
  go_at_call 4
  refine (HS.out.1 _ _ (row_of_owns T1_1.out.1)).mono ?_
  rintro e w2 ⟨S, Sb, midS, rfl, oS, m1S, m2S, m3S, oSb, bS⟩
  have z_2 : w1.heap.size ≤ w2.heap.size := bS.size
  have T1_2 : Hid _ := And.intro (owns_below T1_1.out.1 bS) T1_1.out.2
  have C_2 : Hid _ := And.intro (C_1.out.1.trans (bS.mono C_1.out.1.size)) True.intro
  have S_2 : Hid _ := And.intro oS (fun g (hg : KBlk _ g) => And.intro (KOwns.blk oS g hg).1 (m1S g hg))
  have Sb_2 : Hid _ := And.intro oSb (fun g (hg : KBlk _ g) => KOwns.blk oSb g hg)
  clear oS oSb bS m1S
  obtain ⟨Sa0, Sa1, Sa2, Sa3, Sp0, Sp1, Sp2, Sp3, eS⟩ := KOwns.parts S_2.out.1
  subst eS
  have alS : Below w2.heap.size w2 (w2.alloc (.cells #[.slice Sa0 z.a.length Sp0, .slice Sa1 z.b.length Sp1, .slice Sa2 z.c.length Sp2, .slice Sa3 z.d.length Sp3] 24)) := (Below.refl _ _).alloc (Nat.le_refl _) _
  have B_2 : Hid _ := And.intro (Book.nil w2) True.intro
  have z_3 : w2.heap.size ≤ (w2.alloc (.cells #[.slice Sa0 z.a.length Sp0, .slice Sa1 z.b.length Sp1, .slice Sa2 z.c.length Sp2, .slice Sa3 z.d.length Sp3] 24)).heap.size := alS.size
  have S_3 : Hid _ := And.intro (KOwns.below S_2.out.1 alS) S_2.out.2
  have Sb_3 : Hid _ := And.intro (KOwns.below Sb_2.out.1 alS) Sb_2.out.2
  have C_3 : Hid _ := And.intro (C_2.out.1.trans (alS.mono C_2.out.1.size)) True.intro
  have B_3 : Hid _ := And.intro (B_2.out.1.add (.cells #[.slice Sa0 z.a.length Sp0, .slice Sa1 z.b.length Sp1, .slice Sa2 z.c.length Sp2, .slice Sa3 z.d.length Sp3] 24)) True.intro
  have y_3 : (w2.alloc (.cells #[.slice Sa0 z.a.length Sp0, .slice Sa1 z.b.length Sp1, .slice Sa2 z.c.length Sp2, .slice Sa3 z.d.length Sp3] 24)).heap.size = w2.heap.size + 1 := by simp
  clear alS
  obtain ⟨Sba0, Sba1, Sba2, Sba3, Sbp0, Sbp1, Sbp2, Sbp3, eSb⟩ := KOwns.parts Sb_3.out.1
  subst eSb
  have alSb : Below (w2.alloc (.cells #[.slice Sa0 z.a.length Sp0, .slice Sa1 z.b.length Sp1, .slice Sa2 z.c.length Sp2, .slice Sa3 z.d.length Sp3] 24)).heap.size (w2.alloc (.cells #[.slice Sa0 z.a.length Sp0, .slice Sa1 z.b.length Sp1, .slice Sa2 z.c.length Sp2, .slice Sa3 z.d.length Sp3] 24)) ((w2.alloc (.cells #[.slice Sa0 z.a.length Sp0, .slice Sa1 z.b.length Sp1, .slice Sa2 z.c.length Sp2, .slice Sa3 z.d.length Sp3] 24)).alloc (.cells #[.slice Sba0 z2.a.length Sbp0, .slice Sba1 z2.b.length Sbp1, .slice Sba2 z2.c.length Sbp2, .slice Sba3 z2.d.length Sbp3] 24)) := (Below.refl _ _).alloc (Nat.le_refl _) _
  have z_4 : (w2.alloc (.cells #[.slice Sa0 z.a.length Sp0, .slice Sa1 z.b.length Sp1, .slice Sa2 z.c.length Sp2, .slice Sa3 z.d.length Sp3] 24)).heap.size ≤ ((w2.alloc (.cells #[.slice Sa0 z.a.length Sp0, .slice Sa1 z.b.length Sp1, .slice Sa2 z.c.length Sp2, .slice Sa3 z.d.length Sp3] 24)).alloc (.cells #[.slice Sba0 z2.a.length Sbp0, .slice Sba1 z2.b.length Sbp1, .slice Sba2 z2.c.length Sbp2, .slice Sba3 z2.d.length Sbp3] 24)).heap.size := alSb.size
  have S_4 : Hid _ := And.intro (KOwns.below S_3.out.1 alSb) S_3.out.2
  have Sb_4 : Hid _ := And.intro (KOwns.below Sb_3.out.1 alSb) Sb_3.out.2
  have C_4 : Hid _ := And.intro (C_3.out.1.trans (alSb.mono C_3.out.1.size)) True.intro
  have B_4 : Hid _ := And.intro (B_3.out.1.add (.cells #[.slice Sba0 z2.a.length Sbp0, .slice Sba1 z2.b.length Sbp1, .slice Sba2 z2.c.length Sbp2, .slice Sba3 z2.d.length Sbp3] 24)) True.intro
  have y_4 : ((w2.alloc (.cells #[.slice Sa0 z.a.length Sp0, .slice Sa1 z.b.length Sp1, .slice Sa2 z.c.length Sp2, .slice Sa3 z.d.length Sp3] 24)).alloc (.cells #[.slice Sba0 z2.a.length Sbp0, .slice Sba1 z2.b.length Sbp1, .slice Sba2 z2.c.length Sbp2, .slice Sba3 z2.d.length Sbp3] 24)).heap.size = (w2.alloc (.cells #[.slice Sa0 z.a.length Sp0, .slice Sa1 z.b.length Sp1, .slice Sa2 z.c.length Sp2, .slice Sa3 z.d.length Sp3] 24)).heap.size + 1 := by simp
  clear alSb
  go_wp2_with fail
  go_at_call 5
  refine (TB1.out _ (EN1.out.2.below C_4.out.1)).mono ?_
  rintro e w3 ⟨X1, rfl, oX1, bX1⟩
  have z_5 : ((w2.alloc (.cells #[.slice Sa0 z.a.length Sp0, .slice Sa1 z.b.length Sp1, .slice Sa2 z.c.length Sp2, .slice Sa3 z.d.length Sp3] 24)).alloc (.cells #[.slice Sba0 z2.a.length Sbp0, .slice Sba1 z2.b.length Sbp1, .slice Sba2 z2.c.length Sbp2, .slice Sba3 z2.d.length Sbp3] 24)).heap.size ≤ w3.heap.size := bX1.size
  have S_5 : Hid _ := And.intro (KOwns.below S_4.out.1 bX1) S_4.out.2
  have Sb_5 : Hid _ := And.intro (KOwns.below Sb_4.out.1 bX1) Sb_4.out.2
  have C_5 : Hid _ := And.intro (C_4.out.1.trans (bX1.mono C_4.out.1.size)) True.intro
  have B_5 : Hid _ := And.intro (B_4.out.1.below bX1) True.intro
  have X1_5 : Hid _ := And.intro oX1 (fun g (hg : Value.ownBlock _ = some g) => oX1.lt g hg)
  clear oX1 bX1
  go_wp2_with fail
  go_at_call 6
  refine (HI.out.1 _ _ (HV.out.1 _ C_5.out.1) (row_of_owns X1_5.out.1)).mono ?_
  rintro e w4 ⟨G, Gb, midG, rfl, oG, m1G, m2G, m3G, oGb, bG⟩
  have z_6 : w3.heap.size ≤ w4.heap.size := bG.size
  have S_6 : Hid _ := And.intro (KOwns.below S_5.out.1 bG) S_5.out.2
  have Sb_6 : Hid _ := And.intro (KOwns.below Sb_5.out.1 bG) Sb_5.out.2
  have X1_6 : Hid _ := And.intro (owns_below X1_5.out.1 bG) X1_5.out.2
  have C_6 : Hid _ := And.intro (C_5.out.1.trans (bG.mono C_5.out.1.size)) True.intro
  have B_6 : Hid _ := And.intro (B_5.out.1.below bG) True.intro
  have G_6 : Hid _ := And.intro oG (fun g (hg : KBlk _ g) => And.intro (KOwns.blk oG g hg).1 (m1G g hg))
  have Gb_6 : Hid _ := And.intro oGb (fun g (hg : KBlk _ g) => KOwns.blk oGb g hg)
  clear oG oGb bG m1G
  obtain ⟨Ga0, Ga1, Ga2, Ga3, Gp0, Gp1, Gp2, Gp3, eG⟩ := KOwns.parts G_6.out.1
  subst eG
  have alG : Below w4.heap.size w4 (w4.alloc (.cells #[.slice Ga0 z.a.length Gp0, .slice Ga1 z.b.length Gp1, .slice Ga2 z.c.length Gp2, .slice Ga3 z.d.length Gp3] 24)) := (Below.refl _ _).alloc (Nat.le_refl _) _
  have z_7 : w4.heap.size ≤ (w4.alloc (.cells #[.slice Ga0 z.a.length Gp0, .slice Ga1 z.b.length Gp1, .slice Ga2 z.c.length Gp2, .slice Ga3 z.d.length Gp3] 24)).heap.size := alG.size
  have S_7 : Hid _ := And.intro (KOwns.below S_6.out.1 alG) S_6.out.2
  have Sb_7 : Hid _ := And.intro (KOwns.below Sb_6.out.1 alG) Sb_6.out.2
  have X1_7 : Hid _ := And.intro (owns_below X1_6.out.1 alG) X1_6.out.2
  have G_7 : Hid _ := And.intro (KOwns.below G_6.out.1 alG) G_6.out.2
  have Gb_7 : Hid _ := And.intro (KOwns.below Gb_6.out.1 alG) Gb_6.out.2
  have C_7 : Hid _ := And.intro (C_6.out.1.trans (alG.mono C_6.out.1.size)) True.intro
  have B_7 : Hid _ := And.intro (B_6.out.1.add (.cells #[.slice Ga0 z.a.length Gp0, .slice Ga1 z.b.length Gp1, .slice Ga2 z.c.length Gp2, .slice Ga3 z.d.length Gp3] 24)) True.intro
  have y_7 : (w4.alloc (.cells #[.slice Ga0 z.a.length Gp0, .slice Ga1 z.b.length Gp1, .slice Ga2 z.c.length Gp2, .slice Ga3 z.d.length Gp3] 24)).heap.size = w4.heap.size + 1 := by simp
  clear alG
  obtain ⟨Gba0, Gba1, Gba2, Gba3, Gbp0, Gbp1, Gbp2, Gbp3, eGb⟩ := KOwns.parts Gb_7.out.1
  subst eGb
  have alGb : Below (w4.alloc (.cells #[.slice Ga0 z.a.length Gp0, .slice Ga1 z.b.length Gp1, .slice Ga2 z.c.length Gp2, .slice Ga3 z.d.length Gp3] 24)).heap.size (w4.alloc (.cells #[.slice Ga0 z.a.length Gp0, .slice Ga1 z.b.length Gp1, .slice Ga2 z.c.length Gp2, .slice Ga3 z.d.length Gp3] 24)) ((w4.alloc (.cells #[.slice Ga0 z.a.length Gp0, .slice Ga1 z.b.length Gp1, .slice Ga2 z.c.length Gp2, .slice Ga3 z.d.length Gp3] 24)).alloc (.cells #[.slice Gba0 z2.a.length Gbp0, .slice Gba1 z2.b.length Gbp1, .slice Gba2 z2.c.length Gbp2, .slice Gba3 z2.d.length Gbp3] 24)) := (Below.refl _ _).alloc (Nat.le_refl _) _
  have z_8 : (w4.alloc (.cells #[.slice Ga0 z.a.length Gp0, .slice Ga1 z.b.length Gp1, .slice Ga2 z.c.length Gp2, .slice Ga3 z.d.length Gp3] 24)).heap.size ≤ ((w4.alloc (.cells #[.slice Ga0 z.a.length Gp0, .slice Ga1 z.b.length Gp1, .slice Ga2 z.c.length Gp2, .slice Ga3 z.d.length Gp3] 24)).alloc (.cells #[.slice Gba0 z2.a.length Gbp0, .slice Gba1 z2.b.length Gbp1, .slice Gba2 z2.c.length Gbp2, .slice Gba3 z2.d.length Gbp3] 24)).heap.size := alGb.size
  have S_8 : Hid _ := And.intro (KOwns.below S_7.out.1 alGb) S_7.out.2
  have Sb_8 : Hid _ := And.intro (KOwns.below Sb_7.out.1 alGb) Sb_7.out.2
  have X1_8 : Hid _ := And.intro (owns_below X1_7.out.1 alGb) X1_7.out.2
  have G_8 : Hid _ := And.intro (KOwns.below G_7.out.1 alGb) G_7.out.2
  have Gb_8 : Hid _ := And.intro (KOwns.below Gb_7.out.1 alGb) Gb_7.out.2
  have C_8 : Hid _ := And.intro (C_7.out.1.trans (alGb.mono C_7.out.1.size)) True.intro
  have B_8 : Hid _ := And.intro (B_7.out.1.add (.cells #[.slice Gba0 z2.a.length Gbp0, .slice Gba1 z2.b.length Gbp1, .slice Gba2 z2.c.length Gbp2, .slice Gba3 z2.d.length Gbp3] 24)) True.intro
  have y_8 : ((w4.alloc (.cells #[.slice Ga0 z.a.length Gp0, .slice Ga1 z.b.length Gp1, .slice Ga2 z.c.length Gp2, .slice Ga3 z.d.length Gp3] 24)).alloc (.cells #[.slice Gba0 z2.a.length Gbp0, .slice Gba1 z2.b.length Gbp1, .slice Gba2 z2.c.length Gbp2, .slice Gba3 z2.d.length Gbp3] 24)).heap.size = (w4.alloc (.cells #[.slice Ga0 z.a.length Gp0, .slice Ga1 z.b.length Gp1, .slice Ga2 z.c.length Gp2, .slice Ga3 z.d.length Gp3] 24)).heap.size + 1 := by simp
  clear alGb
  obtain ⟨ld00, ld01, ld02, ld03⟩ := B_8.out.1.c4 (b := w4.heap.size) (x0 := .slice Ga0 z.a.length Gp0) (x1 := .slice Ga1 z.b.length Gp1) (x2 := .slice Ga2 z.c.length Gp2) (x3 := .slice Ga3 z.d.length Gp3) (t := 24) (by simp)
  obtain ⟨ld10, ld11, ld12, ld13⟩ := B_8.out.1.c4 (b := w2.heap.size) (x0 := .slice Sa0 z.a.length Sp0) (x1 := .slice Sa1 z.b.length Sp1) (x2 := .slice Sa2 z.c.length Sp2) (x3 := .slice Sa3 z.d.length Sp3) (t := 24) (by simp)
  go_wp2_with fail
  go_at_call 7
  refine (eqKeys_same _ _ z _ (KOwns.row G_8.out.1) (KOwns.row S_8.out.1) (small_mono LR.out.1 (by decide))).mono ?_
  rintro e w5 ⟨rfl, bw5⟩
  have z_9 : ((w4.alloc (.cells #[.slice Ga0 z.a.length Gp0, .slice Ga1 z.b.length Gp1, .slice Ga2 z.c.length Gp2, .slice Ga3 z.d.length Gp3] 24)).alloc (.cells #[.slice Gba0 z2.a.length Gbp0, .slice Gba1 z2.b.length Gbp1, .slice Gba2 z2.c.length Gbp2, .slice Gba3 z2.d.length Gbp3] 24)).heap.size ≤ w5.heap.size := bw5.size
  have S_9 : Hid _ := And.intro (KOwns.below S_8.out.1 bw5) S_8.out.2
  have Sb_9 : Hid _ := And.intro (KOwns.below Sb_8.out.1 bw5) Sb_8.out.2
  have X1_9 : Hid _ := And.intro (owns_below X1_8.out.1 bw5) X1_8.out.2
  have G_9 : Hid _ := And.intro (KOwns.below G_8.out.1 bw5) G_8.out.2
  have Gb_9 : Hid _ := And.intro (KOwns.below Gb_8.out.1 bw5) Gb_8.out.2
  have C_9 : Hid _ := And.intro (C_8.out.1.trans (bw5.mono C_8.out.1.size)) True.intro
  have B_9 : Hid _ := And.intro (B_8.out.1.below bw5) True.intro
  clear bw5
  clear ld00 ld01 ld02 ld03 ld10 ld11 ld12 ld13
  obtain ⟨ld00, ld01, ld02, ld03⟩ := B_9.out.1.c4 (b := (w4.heap.size + 1)) (x0 := .slice Gba0 z2.a.length Gbp0) (x1 := .slice Gba1 z2.b.length Gbp1) (x2 := .slice Gba2 z2.c.length Gbp2) (x3 := .slice Gba3 z2.d.length Gbp3) (t := 24) (by simp)
  obtain ⟨ld10, ld11, ld12, ld13⟩ := B_9.out.1.c4 (b := (w2.heap.size + 1)) (x0 := .slice Sba0 z2.a.length Sbp0) (x1 := .slice Sba1 z2.b.length Sbp1) (x2 := .slice Sba2 z2.c.length Sbp2) (x3 := .slice Sba3 z2.d.length Sbp3) (t := 24) (by simp)
  go_wp2_with fail
  go_at_call 7
  refine (eqKeys_same _ _ z2 _ (KOwns.row Gb_9.out.1) (KOwns.row Sb_9.out.1) (small_mono LR2.out.1 (by decide))).mono ?_
  rintro e w6 ⟨rfl, bw6⟩
  have z_10 : w5.heap.size ≤ w6.heap.size := bw6.size
  have S_10 : Hid _ := And.intro (KOwns.below S_9.out.1 bw6) S_9.out.2
  have Sb_10 : Hid _ := And.intro (KOwns.below Sb_9.out.1 bw6) Sb_9.out.2
  have X1_10 : Hid _ := And.intro (owns_below X1_9.out.1 bw6) X1_9.out.2
  have G_10 : Hid _ := And.intro (KOwns.below G_9.out.1 bw6) G_9.out.2
  have Gb_10 : Hid _ := And.intro (KOwns.below Gb_9.out.1 bw6) Gb_9.out.2
  have C_10 : Hid _ := And.intro (C_9.out.1.trans (bw6.mono C_9.out.1.size)) True.intro
  have B_10 : Hid _ := And.intro (B_9.out.1.below bw6) True.intro
  clear bw6
  clear ld00 ld01 ld02 ld03 ld10 ld11 ld12 ld13
  go_wp2_with fail
  go_at_call 5
  refine (TB1.out _ (EN1.out.2.below C_10.out.1)).mono ?_
  rintro e w7 ⟨Y1, rfl, oY1, bY1⟩
  have z_11 : w6.heap.size ≤ w7.heap.size := bY1.size
  have S_11 : Hid _ := And.intro (KOwns.below S_10.out.1 bY1) S_10.out.2
  have Sb_11 : Hid _ := And.intro (KOwns.below Sb_10.out.1 bY1) Sb_10.out.2
  have X1_11 : Hid _ := And.intro (owns_below X1_10.out.1 bY1) X1_10.out.2
  have G_11 : Hid _ := And.intro (KOwns.below G_10.out.1 bY1) G_10.out.2
  have Gb_11 : Hid _ := And.intro (KOwns.below Gb_10.out.1 bY1) Gb_10.out.2
  have C_11 : Hid _ := And.intro (C_10.out.1.trans (bY1.mono C_10.out.1.size)) True.intro
  have B_11 : Hid _ := And.intro (B_10.out.1.below bY1) True.intro
  have Y1_11 : Hid _ := And.intro oY1 (fun g (hg : Value.ownBlock _ = some g) => oY1.lt g hg)
  clear oY1 bY1
  go_wp2_with fail
  go_at_call 8
  refine (eqBytes_same _ _ x1 _ (row_of_owns X1_11.out.1) (row_of_owns Y1_11.out.1) (by rw [← EN1.out.1]; omega)).mono ?_
  rintro e w8 ⟨rfl, mw8, hw⟩
  have dw8 : Below w7.heap.size w7 w8 := by rw [hw]; exact below_drewN (Below.refl _ _) mw8
  clear hw
  have z_12 : w7.heap.size ≤ w8.heap.size := dw8.size
  have S_12 : Hid _ := And.intro (KOwns.below S_11.out.1 dw8) S_11.out.2
  have Sb_12 : Hid _ := And.intro (KOwns.below Sb_11.out.1 dw8) Sb_11.out.2
  have X1_12 : Hid _ := And.intro (owns_below X1_11.out.1 dw8) X1_11.out.2
  have G_12 : Hid _ := And.intro (KOwns.below G_11.out.1 dw8) G_11.out.2
  have Gb_12 : Hid _ := And.intro (KOwns.below Gb_11.out.1 dw8) Gb_11.out.2
  have Y1_12 : Hid _ := And.intro (owns_below Y1_11.out.1 dw8) Y1_11.out.2
  have C_12 : Hid _ := And.intro (C_11.out.1.trans (dw8.mono C_11.out.1.size)) True.intro
  have B_12 : Hid _ := And.intro (B_11.out.1.below dw8) True.intro
  clear dw8
  go_wp2_with fail
  go_at_call 9
  refine (markBytes 1 n1 _ _ x1 _ (by omega) (by omega) (by omega) (by have h := X1_12.out.1; rw [← EN1.out.1] at h; exact h)).mono ?_
  rintro e w9 ⟨rfl, om, bm, zm, om'⟩
  have ch : Chg (fun g => Value.ownBlock _ = some g) _ _ := Chg.of_only om' (fun g e => e)
  have z_13 : w8.heap.size ≤ w9.heap.size := ch.size
  have S_13 : Hid _ := And.intro (ch.kowns2 S_12.out.1 (fun g hg hs => by have p1 := S_12.out.2 g hg; have p2 := X1_12.out.2 g hs; omega)) S_12.out.2
  have Sb_13 : Hid _ := And.intro (ch.kowns2 Sb_12.out.1 (fun g hg hs => by have p1 := Sb_12.out.2 g hg; have p2 := X1_12.out.2 g hs; omega)) Sb_12.out.2
  have G_13 : Hid _ := And.intro (ch.kowns2 G_12.out.1 (fun g hg hs => by have p1 := G_12.out.2 g hg; have p2 := X1_12.out.2 g hs; omega)) G_12.out.2
  have Gb_13 : Hid _ := And.intro (ch.kowns2 Gb_12.out.1 (fun g hg hs => by have p1 := Gb_12.out.2 g hg; have p2 := X1_12.out.2 g hs; omega)) Gb_12.out.2
  have C_13 : Hid _ := And.intro (C_12.out.1.trans (ch.below C_12.out.1.size (fun g hg => by have p2 := X1_12.out.2 g hg; omega))) True.intro
  have B_13 : Hid _ := And.intro (B_12.out.1.chg ch (fun b o hm hs => by have p2 := X1_12.out.2 b hs; simp at hm; rcases hm with ⟨hm, _⟩ | ⟨hm, _⟩ | ⟨hm, _⟩ | ⟨hm, _⟩ <;> omega)) True.intro
  have X1_13 : Hid _ := And.intro om X1_12.out.2
  clear om bm zm om' ch
  obtain ⟨ld00, ld01, ld02, ld03⟩ := B_13.out.1.c4 (b := w4.heap.size) (x0 := .slice Ga0 z.a.length Gp0) (x1 := .slice Ga1 z.b.length Gp1) (x2 := .slice Ga2 z.c.length Gp2) (x3 := .slice Ga3 z.d.length Gp3) (t := 24) (by simp)
  obtain ⟨ld10, ld11, ld12, ld13⟩ := B_13.out.1.c4 (b := w2.heap.size) (x0 := .slice Sa0 z.a.length Sp0) (x1 := .slice Sa1 z.b.length Sp1) (x2 := .slice Sa2 z.c.length Sp2) (x3 := .slice Sa3 z.d.length Sp3) (t := 24) (by simp)
  go_wp2_with fail
  go_at_call 7
  refine (eqKeys_same _ _ z _ (KOwns.row G_13.out.1) (KOwns.row S_13.out.1) (small_mono LR.out.1 (by decide))).mono ?_
  rintro e w10 ⟨rfl, bw10⟩
  have z_14 : w9.heap.size ≤ w10.heap.size := bw10.size
  have S_14 : Hid _ := And.intro (KOwns.below S_13.out.1 bw10) S_13.out.2
  have Sb_14 : Hid _ := And.intro (KOwns.below Sb_13.out.1 bw10) Sb_13.out.2
  have X1_14 : Hid _ := And.intro (owns_below X1_13.out.1 bw10) X1_13.out.2
  have G_14 : Hid _ := And.intro (KOwns.below G_13.out.1 bw10) G_13.out.2
  have Gb_14 : Hid _ := And.intro (KOwns.below Gb_13.out.1 bw10) Gb_13.out.2
  have C_14 : Hid _ := And.intro (C_13.out.1.trans (bw10.mono C_13.out.1.size)) True.intro
  have B_14 : Hid _ := And.intro (B_13.out.1.below bw10) True.intro
  clear bw10
  clear ld00 ld01 ld02 ld03 ld10 ld11 ld12 ld13
  obtain ⟨ld00, ld01, ld02, ld03⟩ := B_14.out.1.c4 (b := (w4.heap.size + 1)) (x0 := .slice Gba0 z2.a.length Gbp0) (x1 := .slice Gba1 z2.b.length Gbp1) (x2 := .slice Gba2 z2.c.length Gbp2) (x3 := .slice Gba3 z2.d.length Gbp3) (t := 24) (by simp)
  obtain ⟨ld10, ld11, ld12, ld13⟩ := B_14.out.1.c4 (b := (w2.heap.size + 1)) (x0 := .slice Sba0 z2.a.length Sbp0) (x1 := .slice Sba1 z2.b.length Sbp1) (x2 := .slice Sba2 z2.c.length Sbp2) (x3 := .slice Sba3 z2.d.length Sbp3) (t := 24) (by simp)
  go_wp2_with fail
  go_at_call 7
  refine (eqKeys_same _ _ z2 _ (KOwns.row Gb_14.out.1) (KOwns.row Sb_14.out.1) (small_mono LR2.out.1 (by decide))).mono ?_
  rintro e w11 ⟨rfl, bw11⟩
  have z_15 : w10.heap.size ≤ w11.heap.size := bw11.size
  have S_15 : Hid _ := And.intro (KOwns.below S_14.out.1 bw11) S_14.out.2
  have Sb_15 : Hid _ := And.intro (KOwns.below Sb_14.out.1 bw11) Sb_14.out.2
  have X1_15 : Hid _ := And.intro (owns_below X1_14.out.1 bw11) X1_14.out.2
  have G_15 : Hid _ := And.intro (KOwns.below G_14.out.1 bw11) G_14.out.2
  have Gb_15 : Hid _ := And.intro (KOwns.below Gb_14.out.1 bw11) Gb_14.out.2
  have C_15 : Hid _ := And.intro (C_14.out.1.trans (bw11.mono C_14.out.1.size)) True.intro
  have B_15 : Hid _ := And.intro (B_14.out.1.below bw11) True.intro
  clear bw11
  clear ld00 ld01 ld02 ld03 ld10 ld11 ld12 ld13
  obtain ⟨ld00, ld01, ld02, ld03⟩ := B_15.out.1.c4 (b := w4.heap.size) (x0 := .slice Ga0 z.a.length Gp0) (x1 := .slice Ga1 z.b.length Gp1) (x2 := .slice Ga2 z.c.length Gp2) (x3 := .slice Ga3 z.d.length Gp3) (t := 24) (by simp)
  go_wp2_with fail
  go_at_call 10
  refine (markKeys 1 _ _ z _ (small_mono LR.out.1 (by decide)) (by omega) (by omega) G_15.out.1).mono ?_
  rintro e w12 ⟨rfl, om, ch⟩
  have z_16 : w11.heap.size ≤ w12.heap.size := ch.size
  have S_16 : Hid _ := And.intro (ch.kowns2 S_15.out.1 (fun g hg hs => by have p1 := S_15.out.2 g hg; have p2 := G_15.out.2 g hs; omega)) S_15.out.2
  have Sb_16 : Hid _ := And.intro (ch.kowns2 Sb_15.out.1 (fun g hg hs => by have p1 := Sb_15.out.2 g hg; have p2 := G_15.out.2 g hs; omega)) Sb_15.out.2
  have X1_16 : Hid _ := And.intro (ch.owns X1_15.out.1 (fun g hg hs => by have p1 := X1_15.out.2 g hg; have p2 := G_15.out.2 g hs; omega)) X1_15.out.2
  have Gb_16 : Hid _ := And.intro (ch.kowns2 Gb_15.out.1 (fun g hg hs => by have p1 := Gb_15.out.2 g hg; have p2 := G_15.out.2 g hs; omega)) Gb_15.out.2
  have C_16 : Hid _ := And.intro (C_15.out.1.trans (ch.below C_15.out.1.size (fun g hg => by have p2 := G_15.out.2 g hg; omega))) True.intro
  have B_16 : Hid _ := And.intro (B_15.out.1.chg ch (fun b o hm hs => by have p2 := G_15.out.2 b hs; simp at hm; rcases hm with ⟨hm, _⟩ | ⟨hm, _⟩ | ⟨hm, _⟩ | ⟨hm, _⟩ <;> omega)) True.intro
  have G_16 : Hid _ := And.intro (show KOwns _ _ _ _ from om) G_15.out.2
  clear om ch
  clear ld00 ld01 ld02 ld03
  obtain ⟨ld00, ld01, ld02, ld03⟩ := B_16.out.1.c4 (b := (w4.heap.size + 1)) (x0 := .slice Gba0 z2.a.length Gbp0) (x1 := .slice Gba1 z2.b.length Gbp1) (x2 := .slice Gba2 z2.c.length Gbp2) (x3 := .slice Gba3 z2.d.length Gbp3) (t := 24) (by simp)
  go_wp2_with fail
  go_at_call 10
  refine (markKeys (1 + (z.a.length : Int) + (z.b.length : Int) + (z.c.length : Int) + (z.d.length : Int)) _ _ z2 _ (small_mono LR2.out.1 (by decide)) (by omega) (by omega) Gb_16.out.1).mono ?_
  rintro e w13 ⟨rfl, om, ch⟩
  have z_17 : w12.heap.size ≤ w13.heap.size := ch.size
  have S_17 : Hid _ := And.intro (ch.kowns2 S_16.out.1 (fun g hg hs => by have p1 := S_16.out.2 g hg; have p2 := Gb_16.out.2 g hs; omega)) S_16.out.2
  have Sb_17 : Hid _ := And.intro (ch.kowns2 Sb_16.out.1 (fun g hg hs => by have p1 := Sb_16.out.2 g hg; have p2 := Gb_16.out.2 g hs; omega)) Sb_16.out.2
  have X1_17 : Hid _ := And.intro (ch.owns X1_16.out.1 (fun g hg hs => by have p1 := X1_16.out.2 g hg; have p2 := Gb_16.out.2 g hs; omega)) X1_16.out.2
  have G_17 : Hid _ := And.intro (ch.kowns2 G_16.out.1 (fun g hg hs => by have p1 := G_16.out.2 g hg; have p2 := Gb_16.out.2 g hs; omega)) G_16.out.2
  have C_17 : Hid _ := And.intro (C_16.out.1.trans (ch.below C_16.out.1.size (fun g hg => by have p2 := Gb_16.out.2 g hg; omega))) True.intro
  have B_17 : Hid _ := And.intro (B_16.out.1.chg ch (fun b o hm hs => by have p2 := Gb_16.out.2 b hs; simp at hm; rcases hm with ⟨hm, _⟩ | ⟨hm, _⟩ | ⟨hm, _⟩ | ⟨hm, _⟩ <;> omega)) True.intro
  have Gb_17 : Hid _ := And.intro (show KOwns _ _ _ _ from om) Gb_16.out.2
  clear om ch
  clear ld00 ld01 ld02 ld03
  obtain ⟨ld00, ld01, ld02, ld03⟩ := B_17.out.1.c4 (b := w4.heap.size) (x0 := .slice Ga0 z.a.length Gp0) (x1 := .slice Ga1 z.b.length Gp1) (x2 := .slice Ga2 z.c.length Gp2) (x3 := .slice Ga3 z.d.length Gp3) (t := 24) (by simp)
  go_wp2_with fail
  go_at_call 11
  refine (heldKeys 1 _ z _ (small_mono LR.out.1 (by decide)) (by omega) (by omega) (KOwns.row G_17.out.1)).mono ?_
  rintro e w14 ⟨rfl, bh⟩
  have z_18 : w13.heap.size ≤ w14.heap.size := bh.size
  have S_18 : Hid _ := And.intro (KOwns.below S_17.out.1 bh) S_17.out.2
  have Sb_18 : Hid _ := And.intro (KOwns.below Sb_17.out.1 bh) Sb_17.out.2
  have X1_18 : Hid _ := And.intro (owns_below X1_17.out.1 bh) X1_17.out.2
  have G_18 : Hid _ := And.intro (KOwns.below G_17.out.1 bh) G_17.out.2
  have Gb_18 : Hid _ := And.intro (KOwns.below Gb_17.out.1 bh) Gb_17.out.2
  have C_18 : Hid _ := And.intro (C_17.out.1.trans (bh.mono C_17.out.1.size)) True.intro
  have B_18 : Hid _ := And.intro (B_17.out.1.below bh) True.intro
  clear bh
  clear ld00 ld01 ld02 ld03
  obtain ⟨ld00, ld01, ld02, ld03⟩ := B_18.out.1.c4 (b := (w4.heap.size + 1)) (x0 := .slice Gba0 z2.a.length Gbp0) (x1 := .slice Gba1 z2.b.length Gbp1) (x2 := .slice Gba2 z2.c.length Gbp2) (x3 := .slice Gba3 z2.d.length Gbp3) (t := 24) (by simp)
  go_wp2_with fail
  go_at_call 11
  refine (heldKeys (1 + (z.a.length : Int) + (z.b.length : Int) + (z.c.length : Int) + (z.d.length : Int)) _ z2 _ (small_mono LR2.out.1 (by decide)) (by omega) (by omega) (KOwns.row Gb_18.out.1)).mono ?_
  rintro e w15 ⟨rfl, bh⟩
  have z_19 : w14.heap.size ≤ w15.heap.size := bh.size
  have S_19 : Hid _ := And.intro (KOwns.below S_18.out.1 bh) S_18.out.2
  have Sb_19 : Hid _ := And.intro (KOwns.below Sb_18.out.1 bh) Sb_18.out.2
  have X1_19 : Hid _ := And.intro (owns_below X1_18.out.1 bh) X1_18.out.2
  have G_19 : Hid _ := And.intro (KOwns.below G_18.out.1 bh) G_18.out.2
  have Gb_19 : Hid _ := And.intro (KOwns.below Gb_18.out.1 bh) Gb_18.out.2
  have C_19 : Hid _ := And.intro (C_18.out.1.trans (bh.mono C_18.out.1.size)) True.intro
  have B_19 : Hid _ := And.intro (B_18.out.1.below bh) True.intro
  clear bh
  clear ld00 ld01 ld02 ld03
  go_wp2_with fail
  go_at_call 5
  refine (TB1.out _ (EN1.out.2.below C_19.out.1)).mono ?_
  rintro e w16 ⟨H1, rfl, oH1, bH1⟩
  have z_20 : w15.heap.size ≤ w16.heap.size := bH1.size
  have S_20 : Hid _ := And.intro (KOwns.below S_19.out.1 bH1) S_19.out.2
  have Sb_20 : Hid _ := And.intro (KOwns.below Sb_19.out.1 bH1) Sb_19.out.2
  have X1_20 : Hid _ := And.intro (owns_below X1_19.out.1 bH1) X1_19.out.2
  have G_20 : Hid _ := And.intro (KOwns.below G_19.out.1 bH1) G_19.out.2
  have Gb_20 : Hid _ := And.intro (KOwns.below Gb_19.out.1 bH1) Gb_19.out.2
  have C_20 : Hid _ := And.intro (C_19.out.1.trans (bH1.mono C_19.out.1.size)) True.intro
  have B_20 : Hid _ := And.intro (B_19.out.1.below bH1) True.intro
  have H1_20 : Hid _ := And.intro oH1 (fun g (hg : Value.ownBlock _ = some g) => oH1.lt g hg)
  clear oH1 bH1
  go_wp2_with fail
  go_at_call 6
  refine (HI.out.1 _ _ (HV.out.1 _ C_20.out.1) (row_of_owns H1_20.out.1)).mono ?_
  rintro e w17 ⟨H, Hb, midH, rfl, oH, m1H, m2H, m3H, oHb, bH⟩
  have z_21 : w16.heap.size ≤ w17.heap.size := bH.size
  have S_21 : Hid _ := And.intro (KOwns.below S_20.out.1 bH) S_20.out.2
  have Sb_21 : Hid _ := And.intro (KOwns.below Sb_20.out.1 bH) Sb_20.out.2
  have X1_21 : Hid _ := And.intro (owns_below X1_20.out.1 bH) X1_20.out.2
  have G_21 : Hid _ := And.intro (KOwns.below G_20.out.1 bH) G_20.out.2
  have Gb_21 : Hid _ := And.intro (KOwns.below Gb_20.out.1 bH) Gb_20.out.2
  have H1_21 : Hid _ := And.intro (owns_below H1_20.out.1 bH) H1_20.out.2
  have C_21 : Hid _ := And.intro (C_20.out.1.trans (bH.mono C_20.out.1.size)) True.intro
  have B_21 : Hid _ := And.intro (B_20.out.1.below bH) True.intro
  have H_21 : Hid _ := And.intro oH (fun g (hg : KBlk _ g) => And.intro (KOwns.blk oH g hg).1 (m1H g hg))
  have Hb_21 : Hid _ := And.intro oHb (fun g (hg : KBlk _ g) => KOwns.blk oHb g hg)
  clear oH oHb bH m1H
  obtain ⟨Ha0, Ha1, Ha2, Ha3, Hp0, Hp1, Hp2, Hp3, eH⟩ := KOwns.parts H_21.out.1
  subst eH
  have alH : Below w17.heap.size w17 (w17.alloc (.cells #[.slice Ha0 z.a.length Hp0, .slice Ha1 z.b.length Hp1, .slice Ha2 z.c.length Hp2, .slice Ha3 z.d.length Hp3] 24)) := (Below.refl _ _).alloc (Nat.le_refl _) _
  have z_22 : w17.heap.size ≤ (w17.alloc (.cells #[.slice Ha0 z.a.length Hp0, .slice Ha1 z.b.length Hp1, .slice Ha2 z.c.length Hp2, .slice Ha3 z.d.length Hp3] 24)).heap.size := alH.size
  have S_22 : Hid _ := And.intro (KOwns.below S_21.out.1 alH) S_21.out.2
  have Sb_22 : Hid _ := And.intro (KOwns.below Sb_21.out.1 alH) Sb_21.out.2
  have X1_22 : Hid _ := And.intro (owns_below X1_21.out.1 alH) X1_21.out.2
  have G_22 : Hid _ := And.intro (KOwns.below G_21.out.1 alH) G_21.out.2
  have Gb_22 : Hid _ := And.intro (KOwns.below Gb_21.out.1 alH) Gb_21.out.2
  have H_22 : Hid _ := And.intro (KOwns.below H_21.out.1 alH) H_21.out.2
  have Hb_22 : Hid _ := And.intro (KOwns.below Hb_21.out.1 alH) Hb_21.out.2
  have C_22 : Hid _ := And.intro (C_21.out.1.trans (alH.mono C_21.out.1.size)) True.intro
  have B_22 : Hid _ := And.intro (B_21.out.1.add (.cells #[.slice Ha0 z.a.length Hp0, .slice Ha1 z.b.length Hp1, .slice Ha2 z.c.length Hp2, .slice Ha3 z.d.length Hp3] 24)) True.intro
  have y_22 : (w17.alloc (.cells #[.slice Ha0 z.a.length Hp0, .slice Ha1 z.b.length Hp1, .slice Ha2 z.c.length Hp2, .slice Ha3 z.d.length Hp3] 24)).heap.size = w17.heap.size + 1 := by simp
  clear alH
  obtain ⟨Hba0, Hba1, Hba2, Hba3, Hbp0, Hbp1, Hbp2, Hbp3, eHb⟩ := KOwns.parts Hb_22.out.1
  subst eHb
  have alHb : Below (w17.alloc (.cells #[.slice Ha0 z.a.length Hp0, .slice Ha1 z.b.length Hp1, .slice Ha2 z.c.length Hp2, .slice Ha3 z.d.length Hp3] 24)).heap.size (w17.alloc (.cells #[.slice Ha0 z.a.length Hp0, .slice Ha1 z.b.length Hp1, .slice Ha2 z.c.length Hp2, .slice Ha3 z.d.length Hp3] 24)) ((w17.alloc (.cells #[.slice Ha0 z.a.length Hp0, .slice Ha1 z.b.length Hp1, .slice Ha2 z.c.length Hp2, .slice Ha3 z.d.length Hp3] 24)).alloc (.cells #[.slice Hba0 z2.a.length Hbp0, .slice Hba1 z2.b.length Hbp1, .slice Hba2 z2.c.length Hbp2, .slice Hba3 z2.d.length Hbp3] 24)) := (Below.refl _ _).alloc (Nat.le_refl _) _
  have z_23 : (w17.alloc (.cells #[.slice Ha0 z.a.length Hp0, .slice Ha1 z.b.length Hp1, .slice Ha2 z.c.length Hp2, .slice Ha3 z.d.length Hp3] 24)).heap.size ≤ ((w17.alloc (.cells #[.slice Ha0 z.a.length Hp0, .slice Ha1 z.b.length Hp1, .slice Ha2 z.c.length Hp2, .slice Ha3 z.d.length Hp3] 24)).alloc (.cells #[.slice Hba0 z2.a.length Hbp0, .slice Hba1 z2.b.length Hbp1, .slice Hba2 z2.c.length Hbp2, .slice Hba3 z2.d.length Hbp3] 24)).heap.size := alHb.size
  have S_23 : Hid _ := And.intro (KOwns.below S_22.out.1 alHb) S_22.out.2
  have Sb_23 : Hid _ := And.intro (KOwns.below Sb_22.out.1 alHb) Sb_22.out.2
  have X1_23 : Hid _ := And.intro (owns_below X1_22.out.1 alHb) X1_22.out.2
  have G_23 : Hid _ := And.intro (KOwns.below G_22.out.1 alHb) G_22.out.2
  have Gb_23 : Hid _ := And.intro (KOwns.below Gb_22.out.1 alHb) Gb_22.out.2
  have H_23 : Hid _ := And.intro (KOwns.below H_22.out.1 alHb) H_22.out.2
  have Hb_23 : Hid _ := And.intro (KOwns.below Hb_22.out.1 alHb) Hb_22.out.2
  have C_23 : Hid _ := And.intro (C_22.out.1.trans (alHb.mono C_22.out.1.size)) True.intro
  have B_23 : Hid _ := And.intro (B_22.out.1.add (.cells #[.slice Hba0 z2.a.length Hbp0, .slice Hba1 z2.b.length Hbp1, .slice Hba2 z2.c.length Hbp2, .slice Hba3 z2.d.length Hbp3] 24)) True.intro
  have y_23 : ((w17.alloc (.cells #[.slice Ha0 z.a.length Hp0, .slice Ha1 z.b.length Hp1, .slice Ha2 z.c.length Hp2, .slice Ha3 z.d.length Hp3] 24)).alloc (.cells #[.slice Hba0 z2.a.length Hbp0, .slice Hba1 z2.b.length Hbp1, .slice Hba2 z2.c.length Hbp2, .slice Hba3 z2.d.length Hbp3] 24)).heap.size = (w17.alloc (.cells #[.slice Ha0 z.a.length Hp0, .slice Ha1 z.b.length Hp1, .slice Ha2 z.c.length Hp2, .slice Ha3 z.d.length Hp3] 24)).heap.size + 1 := by simp
  clear alHb
  obtain ⟨ld00, ld01, ld02, ld03⟩ := B_23.out.1.c4 (b := w17.heap.size) (x0 := .slice Ha0 z.a.length Hp0) (x1 := .slice Ha1 z.b.length Hp1) (x2 := .slice Ha2 z.c.length Hp2) (x3 := .slice Ha3 z.d.length Hp3) (t := 24) (by simp)
  obtain ⟨ld10, ld11, ld12, ld13⟩ := B_23.out.1.c4 (b := w2.heap.size) (x0 := .slice Sa0 z.a.length Sp0) (x1 := .slice Sa1 z.b.length Sp1) (x2 := .slice Sa2 z.c.length Sp2) (x3 := .slice Sa3 z.d.length Sp3) (t := 24) (by simp)
  go_wp2_with fail
  go_at_call 7
  refine (eqKeys_same _ _ z _ (KOwns.row H_23.out.1) (KOwns.row S_23.out.1) (small_mono LR.out.1 (by decide))).mono ?_
  rintro e w18 ⟨rfl, bw18⟩
  have z_24 : ((w17.alloc (.cells #[.slice Ha0 z.a.length Hp0, .slice Ha1 z.b.length Hp1, .slice Ha2 z.c.length Hp2, .slice Ha3 z.d.length Hp3] 24)).alloc (.cells #[.slice Hba0 z2.a.length Hbp0, .slice Hba1 z2.b.length Hbp1, .slice Hba2 z2.c.length Hbp2, .slice Hba3 z2.d.length Hbp3] 24)).heap.size ≤ w18.heap.size := bw18.size
  have S_24 : Hid _ := And.intro (KOwns.below S_23.out.1 bw18) S_23.out.2
  have Sb_24 : Hid _ := And.intro (KOwns.below Sb_23.out.1 bw18) Sb_23.out.2
  have X1_24 : Hid _ := And.intro (owns_below X1_23.out.1 bw18) X1_23.out.2
  have G_24 : Hid _ := And.intro (KOwns.below G_23.out.1 bw18) G_23.out.2
  have Gb_24 : Hid _ := And.intro (KOwns.below Gb_23.out.1 bw18) Gb_23.out.2
  have H_24 : Hid _ := And.intro (KOwns.below H_23.out.1 bw18) H_23.out.2
  have Hb_24 : Hid _ := And.intro (KOwns.below Hb_23.out.1 bw18) Hb_23.out.2
  have C_24 : Hid _ := And.intro (C_23.out.1.trans (bw18.mono C_23.out.1.size)) True.intro
  have B_24 : Hid _ := And.intro (B_23.out.1.below bw18) True.intro
  clear bw18
  clear ld00 ld01 ld02 ld03 ld10 ld11 ld12 ld13
  obtain ⟨ld00, ld01, ld02, ld03⟩ := B_24.out.1.c4 (b := (w17.heap.size + 1)) (x0 := .slice Hba0 z2.a.length Hbp0) (x1 := .slice Hba1 z2.b.length Hbp1) (x2 := .slice Hba2 z2.c.length Hbp2) (x3 := .slice Hba3 z2.d.length Hbp3) (t := 24) (by simp)
  obtain ⟨ld10, ld11, ld12, ld13⟩ := B_24.out.1.c4 (b := (w2.heap.size + 1)) (x0 := .slice Sba0 z2.a.length Sbp0) (x1 := .slice Sba1 z2.b.length Sbp1) (x2 := .slice Sba2 z2.c.length Sbp2) (x3 := .slice Sba3 z2.d.length Sbp3) (t := 24) (by simp)
  go_wp2_with fail
  go_at_call 7
  refine (eqKeys_same _ _ z2 _ (KOwns.row Hb_24.out.1) (KOwns.row Sb_24.out.1) (small_mono LR2.out.1 (by decide))).mono ?_
  rintro e w19 ⟨rfl, bw19⟩
  have z_25 : w18.heap.size ≤ w19.heap.size := bw19.size
  have S_25 : Hid _ := And.intro (KOwns.below S_24.out.1 bw19) S_24.out.2
  have Sb_25 : Hid _ := And.intro (KOwns.below Sb_24.out.1 bw19) Sb_24.out.2
  have X1_25 : Hid _ := And.intro (owns_below X1_24.out.1 bw19) X1_24.out.2
  have G_25 : Hid _ := And.intro (KOwns.below G_24.out.1 bw19) G_24.out.2
  have Gb_25 : Hid _ := And.intro (KOwns.below Gb_24.out.1 bw19) Gb_24.out.2
  have H_25 : Hid _ := And.intro (KOwns.below H_24.out.1 bw19) H_24.out.2
  have Hb_25 : Hid _ := And.intro (KOwns.below Hb_24.out.1 bw19) Hb_24.out.2
  have C_25 : Hid _ := And.intro (C_24.out.1.trans (bw19.mono C_24.out.1.size)) True.intro
  have B_25 : Hid _ := And.intro (B_24.out.1.below bw19) True.intro
  clear bw19
  clear ld00 ld01 ld02 ld03 ld10 ld11 ld12 ld13
  obtain ⟨ld00, ld01, ld02, ld03⟩ := B_25.out.1.c4 (b := w4.heap.size) (x0 := .slice Ga0 z.a.length Gp0) (x1 := .slice Ga1 z.b.length Gp1) (x2 := .slice Ga2 z.c.length Gp2) (x3 := .slice Ga3 z.d.length Gp3) (t := 24) (by simp)
  go_wp2_with fail
  go_at_call 11
  refine (heldKeys 1 _ z _ (small_mono LR.out.1 (by decide)) (by omega) (by omega) (KOwns.row G_25.out.1)).mono ?_
  rintro e w20 ⟨rfl, bh⟩
  have z_26 : w19.heap.size ≤ w20.heap.size := bh.size
  have S_26 : Hid _ := And.intro (KOwns.below S_25.out.1 bh) S_25.out.2
  have Sb_26 : Hid _ := And.intro (KOwns.below Sb_25.out.1 bh) Sb_25.out.2
  have X1_26 : Hid _ := And.intro (owns_below X1_25.out.1 bh) X1_25.out.2
  have G_26 : Hid _ := And.intro (KOwns.below G_25.out.1 bh) G_25.out.2
  have Gb_26 : Hid _ := And.intro (KOwns.below Gb_25.out.1 bh) Gb_25.out.2
  have H_26 : Hid _ := And.intro (KOwns.below H_25.out.1 bh) H_25.out.2
  have Hb_26 : Hid _ := And.intro (KOwns.below Hb_25.out.1 bh) Hb_25.out.2
  have C_26 : Hid _ := And.intro (C_25.out.1.trans (bh.mono C_25.out.1.size)) True.intro
  have B_26 : Hid _ := And.intro (B_25.out.1.below bh) True.intro
  clear bh
  clear ld00 ld01 ld02 ld03
  obtain ⟨ld00, ld01, ld02, ld03⟩ := B_26.out.1.c4 (b := (w4.heap.size + 1)) (x0 := .slice Gba0 z2.a.length Gbp0) (x1 := .slice Gba1 z2.b.length Gbp1) (x2 := .slice Gba2 z2.c.length Gbp2) (x3 := .slice Gba3 z2.d.length Gbp3) (t := 24) (by simp)
  go_wp2_with fail
  go_at_call 11
  refine (heldKeys (1 + (z.a.length : Int) + (z.b.length : Int) + (z.c.length : Int) + (z.d.length : Int)) _ z2 _ (small_mono LR2.out.1 (by decide)) (by omega) (by omega) (KOwns.row Gb_26.out.1)).mono ?_
  rintro e w21 ⟨rfl, bh⟩
  have z_27 : w20.heap.size ≤ w21.heap.size := bh.size
  have S_27 : Hid _ := And.intro (KOwns.below S_26.out.1 bh) S_26.out.2
  have Sb_27 : Hid _ := And.intro (KOwns.below Sb_26.out.1 bh) Sb_26.out.2
  have X1_27 : Hid _ := And.intro (owns_below X1_26.out.1 bh) X1_26.out.2
  have G_27 : Hid _ := And.intro (KOwns.below G_26.out.1 bh) G_26.out.2
  have Gb_27 : Hid _ := And.intro (KOwns.below Gb_26.out.1 bh) Gb_26.out.2
  have H_27 : Hid _ := And.intro (KOwns.below H_26.out.1 bh) H_26.out.2
  have Hb_27 : Hid _ := And.intro (KOwns.below Hb_26.out.1 bh) Hb_26.out.2
  have C_27 : Hid _ := And.intro (C_26.out.1.trans (bh.mono C_26.out.1.size)) True.intro
  have B_27 : Hid _ := And.intro (B_26.out.1.below bh) True.intro
  clear bh
  clear ld00 ld01 ld02 ld03
  go_wp2
  go_ret
  exact ⟨rfl, C_27.out.1⟩
/-- For arguments of whatever size: over the model's contract and the program's, where the sizes are within the law's. -/
theorem initialKeys_walkOf (a0 : Int) (v1 : Value) (x1 : List Int) (z z2 : K4) (w : World) (Inv : World → Prop) (hInv : ∀ w' : World, Below w.heap.size w w' → Inv w') (wf0 : (Lit.int .i64 a0).wf = true) (l1 : x1.length ≤ maxLen) (wf1 : ∀ x ∈ x1, (Lit.int .u8 x).wf = true) (row1 : Row w .u8 v1 x1) (lr : z.small 4096) (lr2 : z2.small 4096)
    (hS : ∀ (w : World) (u1 : Value), Row w .u8 u1 x1 → Calls Try.prog 4 #[.int .i64 a0, u1] w fun e w' => ∃ r rb mid, e = .returned (.tuple #[r, rb]) ∧ KOwns w' w.heap.size r z ∧ (∀ g, KBlk r g → g < mid) ∧ w.heap.size ≤ mid ∧ mid ≤ w'.heap.size ∧ KOwns w' mid rb z2 ∧ Below w.heap.size w w')
    (hI : ∀ (w : World) (u1 : Value), Inv w → Row w .u8 u1 x1 → Calls Try.prog 6 #[.int .i64 a0, u1] w fun e w' => ∃ r rb mid, e = .returned (.tuple #[r, rb]) ∧ KOwns w' w.heap.size r z ∧ (∀ g, KBlk r g → g < mid) ∧ w.heap.size ≤ mid ∧ mid ≤ w'.heap.size ∧ KOwns w' mid rb z2 ∧ Below w.heap.size w w') :
    Calls Try.prog 3 #[.int .i64 a0, v1] w fun e w' => e = .returned (.bool true) ∧ Below w.heap.size w w' := by
  have m1 : x1.length ≤ 9223372036854775807 := by have h := l1; unfold maxLen at h; omega
  by_cases g1 : 1048576 < x1.length
  · obtain ⟨ao1, cp1, rfl⟩ := row1.form; exact initialKeys_huge1 a0 ao1 _ cp1 w g1 m1
  · skip
    exact initialKeysLaw a0 v1 x1 z z2 w Inv hInv row1 (by omega) lr lr2 hS hI
end Go.Proofs.Ytjdmknlcjejecaa
