import Derived.Deep.RegionWith
import Derived.Test.YtlbiaiohjohgiaaFrameB
import Derived.Test.YtlbiaiohjohgiaaToFrame
namespace Go.Proofs.Ytlbiaiohjohgiaa
open Go.RowKit
set_option linter.unusedVariables false

theorem bothF (h : F8) (hs : h.small 1048576) : ∃ s : Bool, (∀ v w, FRow w v h → Calls Try.prog 7 #[v] w fun e w' => e = .returned (.bool s) ∧ Below w.heap.size w w') ∧ (∀ v w, FRow w v h → Calls Try.prog 9 #[v] w fun e w' => e = .returned (.bool s) ∧ Below w.heap.size w w') := by
  obtain ⟨s, h1, h2⟩ := bothC h.k h.a h.b h.c h.fin h.d.length h.t.length h.r.length h.r rfl (Nat.le_trans hs.1 (by decide)) (Nat.le_trans hs.2.2 (by decide))
  refine ⟨s, fun v w hr => ?_, fun v w hr => ?_⟩
  · obtain ⟨a2, a3, a4, p2, p3, p4, rfl, q2, q3, q4⟩ := hr.parts
    exact h1 a2 a3 a4 p2 p3 p4 w q4
  · obtain ⟨a2, a3, a4, p2, p3, p4, rfl, q2, q3, q4⟩ := hr.parts
    exact h2 a2 a3 a4 p2 p3 p4 w q4
set_option maxRecDepth 20000 in
set_option maxHeartbeats 1000000 in
theorem fnExactFrameOK_walk (v0 : Value) (k0 : F8) (sm : k0.small maxLen) (w : World) (row : FRow w v0 k0) :
    Calls Try.prog 3 #[v0] w fun e w' => e = .returned (.bool true) ∧ Below w.heap.size w w' := by
  have sm2 : k0.small 9223372036854775807 := ⟨Nat.le_trans sm.1 (by decide), Nat.le_trans sm.2.1 (by decide), Nat.le_trans sm.2.2 (by decide)⟩
  have B0 : ∀ ob : Obj, Below w.heap.size w (w.alloc ob) := fun ob => (Below.refl _ _).alloc (Nat.le_refl _) ob
  by_cases hf : k0.total ≤ 1048576
  case neg =>
    have HH : Hid _ := And.intro row (And.intro sm2 (And.intro hf B0))
    clear row sm sm2 hf B0
    obtain ⟨a2, a3, a4, c2, c3, c4, ev, q2, q3, q4⟩ := HH.out.1.parts
    subst ev
    clear q2 q3 q4
    go_enter Try.func3, Try.ntmps3
    go_wp2_with fail
    go_at_call 6
    refine (fsz_over _ k0 1048576 _ (HH.out.1.below (HH.out.2.2.2 _)) HH.out.2.1 (by decide) (by decide) (by have := HH.out.2.2.1; omega)).mono ?_
    rintro e w1 ⟨rfl, b1⟩
    go_wp2
    go_ret
    exact ⟨rfl, (HH.out.2.2.2 _).trans (b1.mono (HH.out.2.2.2 _).size)⟩
  case pos =>
    have sk : k0.small 1048576 := by unfold F8.total at hf; exact ⟨by omega, by omega, by omega⟩
    obtain ⟨s, hS, hI⟩ := bothF k0 sk
    have hss : (s != s) = false := by simp
    have HH : Hid _ := And.intro row (And.intro sk (And.intro hf (And.intro B0 (And.intro hS hI))))
    clear row sm sm2 hf B0 sk hS hI
    obtain ⟨a2, a3, a4, c2, c3, c4, ev, q2, q3, q4⟩ := HH.out.1.parts
    subst ev
    clear q2 q3 q4
    have hk0 : ∀ j, (w.alloc (.cells #[.int .i64 k0.k, .int .i64 k0.a, .int .i64 k0.b, .int .i64 k0.c, .bool k0.fin, .slice a2 k0.d.length c2, .slice a3 k0.t.length c3, .slice a4 k0.r.length c4] 25)).cell? ⟨w.heap.size, j, none⟩ = (#[.int .i64 k0.k, .int .i64 k0.a, .int .i64 k0.b, .int .i64 k0.c, .bool k0.fin, .slice a2 k0.d.length c2, .slice a3 k0.t.length c3, .slice a4 k0.r.length c4] : Array Value)[j]? := fun j => bk_cell (heap_alloc_new w _) j
    have hs0 : w.heap.size < (w.alloc (.cells #[.int .i64 k0.k, .int .i64 k0.a, .int .i64 k0.b, .int .i64 k0.c, .bool k0.fin, .slice a2 k0.d.length c2, .slice a3 k0.t.length c3, .slice a4 k0.r.length c4] 25)).heap.size := by simp
    have HK : Hid _ := And.intro hk0 hs0
    clear hk0 hs0
    go_enter Try.func3, Try.ntmps3
    go_wp2_with fail
    go_at_call 6
    refine (fsz_fit _ k0 1048576 _ (HH.out.1.below (HH.out.2.2.2.1 _)) (by decide) (by decide) (HH.out.2.2.1)).mono ?_
    rintro e w1 ⟨rfl, b1⟩
    have hl : ¬ (1048576 - k0.total < 0) := by have := HH.out.2.2.1; omega
    have B1 : Hid _ := And.intro ((HH.out.2.2.2.1 _).trans (b1.mono (HH.out.2.2.2.1 _).size)) (Nat.lt_of_lt_of_le HK.out.2 b1.size)
    have c1_0 : w1.cell? ⟨w.heap.size, 0, none⟩ = some (.int .i64 k0.k) := (b1.cell (p := ⟨w.heap.size, 0, none⟩) HK.out.2).trans (HK.out.1 _)
    have c1_1 : w1.cell? ⟨w.heap.size, 1, none⟩ = some (.int .i64 k0.a) := (b1.cell (p := ⟨w.heap.size, 1, none⟩) HK.out.2).trans (HK.out.1 _)
    have c1_2 : w1.cell? ⟨w.heap.size, 2, none⟩ = some (.int .i64 k0.b) := (b1.cell (p := ⟨w.heap.size, 2, none⟩) HK.out.2).trans (HK.out.1 _)
    have c1_3 : w1.cell? ⟨w.heap.size, 3, none⟩ = some (.int .i64 k0.c) := (b1.cell (p := ⟨w.heap.size, 3, none⟩) HK.out.2).trans (HK.out.1 _)
    have c1_4 : w1.cell? ⟨w.heap.size, 4, none⟩ = some (.bool k0.fin) := (b1.cell (p := ⟨w.heap.size, 4, none⟩) HK.out.2).trans (HK.out.1 _)
    have c1_5 : w1.cell? ⟨w.heap.size, 5, none⟩ = some (.slice a2 k0.d.length c2) := (b1.cell (p := ⟨w.heap.size, 5, none⟩) HK.out.2).trans (HK.out.1 _)
    have c1_6 : w1.cell? ⟨w.heap.size, 6, none⟩ = some (.slice a3 k0.t.length c3) := (b1.cell (p := ⟨w.heap.size, 6, none⟩) HK.out.2).trans (HK.out.1 _)
    have c1_7 : w1.cell? ⟨w.heap.size, 7, none⟩ = some (.slice a4 k0.r.length c4) := (b1.cell (p := ⟨w.heap.size, 7, none⟩) HK.out.2).trans (HK.out.1 _)
    clear b1
    go_wp2_with fail
    go_at_call 8
    refine (toFrm _ k0 _ (HH.out.1.below B1.out.1) HH.out.2.1).mono ?_
    rintro e w2 ⟨r1, rfl, f1, b2⟩
    have B2 : Hid _ := And.intro (B1.out.1.trans (b2.mono B1.out.1.size)) (And.intro (Nat.lt_of_lt_of_le B1.out.2 b2.size) (And.intro f1 b2))
    have c2_0 : w2.cell? ⟨w.heap.size, 0, none⟩ = some (.int .i64 k0.k) := (b2.cell (p := ⟨w.heap.size, 0, none⟩) B1.out.2).trans c1_0
    have c2_1 : w2.cell? ⟨w.heap.size, 1, none⟩ = some (.int .i64 k0.a) := (b2.cell (p := ⟨w.heap.size, 1, none⟩) B1.out.2).trans c1_1
    have c2_2 : w2.cell? ⟨w.heap.size, 2, none⟩ = some (.int .i64 k0.b) := (b2.cell (p := ⟨w.heap.size, 2, none⟩) B1.out.2).trans c1_2
    have c2_3 : w2.cell? ⟨w.heap.size, 3, none⟩ = some (.int .i64 k0.c) := (b2.cell (p := ⟨w.heap.size, 3, none⟩) B1.out.2).trans c1_3
    have c2_4 : w2.cell? ⟨w.heap.size, 4, none⟩ = some (.bool k0.fin) := (b2.cell (p := ⟨w.heap.size, 4, none⟩) B1.out.2).trans c1_4
    have c2_5 : w2.cell? ⟨w.heap.size, 5, none⟩ = some (.slice a2 k0.d.length c2) := (b2.cell (p := ⟨w.heap.size, 5, none⟩) B1.out.2).trans c1_5
    have c2_6 : w2.cell? ⟨w.heap.size, 6, none⟩ = some (.slice a3 k0.t.length c3) := (b2.cell (p := ⟨w.heap.size, 6, none⟩) B1.out.2).trans c1_6
    have c2_7 : w2.cell? ⟨w.heap.size, 7, none⟩ = some (.slice a4 k0.r.length c4) := (b2.cell (p := ⟨w.heap.size, 7, none⟩) B1.out.2).trans c1_7
    clear b2 f1
    clear c1_0 c1_1 c1_2 c1_3 c1_4 c1_5 c1_6 c1_7
    go_wp2_with fail
    go_at_call 7
    refine (HH.out.2.2.2.2.1 _ _ B2.out.2.2.1).mono ?_
    rintro e w3 ⟨rfl, b3⟩
    have B3 : Hid _ := And.intro (B2.out.1.trans (b3.mono B2.out.1.size)) (And.intro (Nat.lt_of_lt_of_le B2.out.2.1 b3.size) b3)
    have c3_0 : w3.cell? ⟨w.heap.size, 0, none⟩ = some (.int .i64 k0.k) := (b3.cell (p := ⟨w.heap.size, 0, none⟩) B2.out.2.1).trans c2_0
    have c3_1 : w3.cell? ⟨w.heap.size, 1, none⟩ = some (.int .i64 k0.a) := (b3.cell (p := ⟨w.heap.size, 1, none⟩) B2.out.2.1).trans c2_1
    have c3_2 : w3.cell? ⟨w.heap.size, 2, none⟩ = some (.int .i64 k0.b) := (b3.cell (p := ⟨w.heap.size, 2, none⟩) B2.out.2.1).trans c2_2
    have c3_3 : w3.cell? ⟨w.heap.size, 3, none⟩ = some (.int .i64 k0.c) := (b3.cell (p := ⟨w.heap.size, 3, none⟩) B2.out.2.1).trans c2_3
    have c3_4 : w3.cell? ⟨w.heap.size, 4, none⟩ = some (.bool k0.fin) := (b3.cell (p := ⟨w.heap.size, 4, none⟩) B2.out.2.1).trans c2_4
    have c3_5 : w3.cell? ⟨w.heap.size, 5, none⟩ = some (.slice a2 k0.d.length c2) := (b3.cell (p := ⟨w.heap.size, 5, none⟩) B2.out.2.1).trans c2_5
    have c3_6 : w3.cell? ⟨w.heap.size, 6, none⟩ = some (.slice a3 k0.t.length c3) := (b3.cell (p := ⟨w.heap.size, 6, none⟩) B2.out.2.1).trans c2_6
    have c3_7 : w3.cell? ⟨w.heap.size, 7, none⟩ = some (.slice a4 k0.r.length c4) := (b3.cell (p := ⟨w.heap.size, 7, none⟩) B2.out.2.1).trans c2_7
    clear b3
    clear c2_0 c2_1 c2_2 c2_3 c2_4 c2_5 c2_6 c2_7
    go_wp2_with fail
    go_at_call 8
    refine (toFrm _ k0 _ (HH.out.1.below B3.out.1) HH.out.2.1).mono ?_
    rintro e w4 ⟨r2, rfl, f2, b4⟩
    obtain ⟨d2, d3, d4, e2, e3, e4, er, g2, g3, g4⟩ := f2.parts
    subst er
    clear g2 g3 g4
    have B4 : Hid _ := And.intro (B3.out.1.trans (b4.mono B3.out.1.size)) (And.intro (Nat.lt_of_lt_of_le B3.out.2.1 b4.size) (And.intro f2 b4))
    have c4_0 : w4.cell? ⟨w.heap.size, 0, none⟩ = some (.int .i64 k0.k) := (b4.cell (p := ⟨w.heap.size, 0, none⟩) B3.out.2.1).trans c3_0
    have c4_1 : w4.cell? ⟨w.heap.size, 1, none⟩ = some (.int .i64 k0.a) := (b4.cell (p := ⟨w.heap.size, 1, none⟩) B3.out.2.1).trans c3_1
    have c4_2 : w4.cell? ⟨w.heap.size, 2, none⟩ = some (.int .i64 k0.b) := (b4.cell (p := ⟨w.heap.size, 2, none⟩) B3.out.2.1).trans c3_2
    have c4_3 : w4.cell? ⟨w.heap.size, 3, none⟩ = some (.int .i64 k0.c) := (b4.cell (p := ⟨w.heap.size, 3, none⟩) B3.out.2.1).trans c3_3
    have c4_4 : w4.cell? ⟨w.heap.size, 4, none⟩ = some (.bool k0.fin) := (b4.cell (p := ⟨w.heap.size, 4, none⟩) B3.out.2.1).trans c3_4
    have c4_5 : w4.cell? ⟨w.heap.size, 5, none⟩ = some (.slice a2 k0.d.length c2) := (b4.cell (p := ⟨w.heap.size, 5, none⟩) B3.out.2.1).trans c3_5
    have c4_6 : w4.cell? ⟨w.heap.size, 6, none⟩ = some (.slice a3 k0.t.length c3) := (b4.cell (p := ⟨w.heap.size, 6, none⟩) B3.out.2.1).trans c3_6
    have c4_7 : w4.cell? ⟨w.heap.size, 7, none⟩ = some (.slice a4 k0.r.length c4) := (b4.cell (p := ⟨w.heap.size, 7, none⟩) B3.out.2.1).trans c3_7
    clear b4 f2
    clear c3_0 c3_1 c3_2 c3_3 c3_4 c3_5 c3_6 c3_7
    have D4 : Below w4.heap.size w4 (w4.alloc (.cells #[.int .i64 k0.k, .int .i64 k0.a, .int .i64 k0.b, .int .i64 k0.c, .bool k0.fin, .slice d2 k0.d.length e2, .slice d3 k0.t.length e3, .slice d4 k0.r.length e4] 30)) := (Below.refl _ _).alloc (Nat.le_refl _) _
    have hk4 : ∀ j, (w4.alloc (.cells #[.int .i64 k0.k, .int .i64 k0.a, .int .i64 k0.b, .int .i64 k0.c, .bool k0.fin, .slice d2 k0.d.length e2, .slice d3 k0.t.length e3, .slice d4 k0.r.length e4] 30)).cell? ⟨w4.heap.size, j, none⟩ = (#[.int .i64 k0.k, .int .i64 k0.a, .int .i64 k0.b, .int .i64 k0.c, .bool k0.fin, .slice d2 k0.d.length e2, .slice d3 k0.t.length e3, .slice d4 k0.r.length e4] : Array Value)[j]? := fun j => bk_cell (heap_alloc_new w4 _) j
    have hs4 : w4.heap.size < (w4.alloc (.cells #[.int .i64 k0.k, .int .i64 k0.a, .int .i64 k0.b, .int .i64 k0.c, .bool k0.fin, .slice d2 k0.d.length e2, .slice d3 k0.t.length e3, .slice d4 k0.r.length e4] 30)).heap.size := by simp
    have HX : Hid _ := And.intro D4 (And.intro hk4 hs4)
    clear D4 hk4 hs4
    go_wp2_with fail
    go_at_call 9
    refine (HH.out.2.2.2.2.2 _ _ (B4.out.2.2.1.below HX.out.1)).mono ?_
    rintro e w5 ⟨rfl, b5⟩
    have b45 : Below w4.heap.size w4 w5 := HX.out.1.trans (b5.mono HX.out.1.size)
    have B5 : Hid _ := And.intro (B4.out.1.trans (b45.mono B4.out.1.size)) (And.intro (Nat.lt_of_lt_of_le B4.out.2.1 b45.size) (And.intro (B4.out.2.2.1.below b45) (Nat.lt_of_lt_of_le HX.out.2.2 b5.size)))
    have c5_0 : w5.cell? ⟨w.heap.size, 0, none⟩ = some (.int .i64 k0.k) := (b45.cell (p := ⟨w.heap.size, 0, none⟩) B4.out.2.1).trans c4_0
    have c5_1 : w5.cell? ⟨w.heap.size, 1, none⟩ = some (.int .i64 k0.a) := (b45.cell (p := ⟨w.heap.size, 1, none⟩) B4.out.2.1).trans c4_1
    have c5_2 : w5.cell? ⟨w.heap.size, 2, none⟩ = some (.int .i64 k0.b) := (b45.cell (p := ⟨w.heap.size, 2, none⟩) B4.out.2.1).trans c4_2
    have c5_3 : w5.cell? ⟨w.heap.size, 3, none⟩ = some (.int .i64 k0.c) := (b45.cell (p := ⟨w.heap.size, 3, none⟩) B4.out.2.1).trans c4_3
    have c5_4 : w5.cell? ⟨w.heap.size, 4, none⟩ = some (.bool k0.fin) := (b45.cell (p := ⟨w.heap.size, 4, none⟩) B4.out.2.1).trans c4_4
    have c5_5 : w5.cell? ⟨w.heap.size, 5, none⟩ = some (.slice a2 k0.d.length c2) := (b45.cell (p := ⟨w.heap.size, 5, none⟩) B4.out.2.1).trans c4_5
    have c5_6 : w5.cell? ⟨w.heap.size, 6, none⟩ = some (.slice a3 k0.t.length c3) := (b45.cell (p := ⟨w.heap.size, 6, none⟩) B4.out.2.1).trans c4_6
    have c5_7 : w5.cell? ⟨w.heap.size, 7, none⟩ = some (.slice a4 k0.r.length c4) := (b45.cell (p := ⟨w.heap.size, 7, none⟩) B4.out.2.1).trans c4_7
    have x5_0 : w5.cell? ⟨w4.heap.size, 0, none⟩ = some (.int .i64 k0.k) := (b5.cell (p := ⟨w4.heap.size, 0, none⟩) HX.out.2.2).trans (HX.out.2.1 _)
    have x5_1 : w5.cell? ⟨w4.heap.size, 1, none⟩ = some (.int .i64 k0.a) := (b5.cell (p := ⟨w4.heap.size, 1, none⟩) HX.out.2.2).trans (HX.out.2.1 _)
    have x5_2 : w5.cell? ⟨w4.heap.size, 2, none⟩ = some (.int .i64 k0.b) := (b5.cell (p := ⟨w4.heap.size, 2, none⟩) HX.out.2.2).trans (HX.out.2.1 _)
    have x5_3 : w5.cell? ⟨w4.heap.size, 3, none⟩ = some (.int .i64 k0.c) := (b5.cell (p := ⟨w4.heap.size, 3, none⟩) HX.out.2.2).trans (HX.out.2.1 _)
    have x5_4 : w5.cell? ⟨w4.heap.size, 4, none⟩ = some (.bool k0.fin) := (b5.cell (p := ⟨w4.heap.size, 4, none⟩) HX.out.2.2).trans (HX.out.2.1 _)
    have x5_5 : w5.cell? ⟨w4.heap.size, 5, none⟩ = some (.slice d2 k0.d.length e2) := (b5.cell (p := ⟨w4.heap.size, 5, none⟩) HX.out.2.2).trans (HX.out.2.1 _)
    have x5_6 : w5.cell? ⟨w4.heap.size, 6, none⟩ = some (.slice d3 k0.t.length e3) := (b5.cell (p := ⟨w4.heap.size, 6, none⟩) HX.out.2.2).trans (HX.out.2.1 _)
    have x5_7 : w5.cell? ⟨w4.heap.size, 7, none⟩ = some (.slice d4 k0.r.length e4) := (b5.cell (p := ⟨w4.heap.size, 7, none⟩) HX.out.2.2).trans (HX.out.2.1 _)
    clear b5 b45
    clear c4_0 c4_1 c4_2 c4_3 c4_4 c4_5 c4_6 c4_7
    go_wp2_with fail
    have D : Hid (Below w5.heap.size w5 w5.drew) := (Below.refl _ _).drew
    have y0 : w5.drew.cell? ⟨w4.heap.size, 0, none⟩ = some (.int .i64 k0.k) := x5_0
    have y1 : w5.drew.cell? ⟨w4.heap.size, 1, none⟩ = some (.int .i64 k0.a) := x5_1
    have y2 : w5.drew.cell? ⟨w4.heap.size, 2, none⟩ = some (.int .i64 k0.b) := x5_2
    have y3 : w5.drew.cell? ⟨w4.heap.size, 3, none⟩ = some (.int .i64 k0.c) := x5_3
    have y4 : w5.drew.cell? ⟨w4.heap.size, 4, none⟩ = some (.bool k0.fin) := x5_4
    have y5 : w5.drew.cell? ⟨w4.heap.size, 5, none⟩ = some (.slice d2 k0.d.length e2) := x5_5
    have y6 : w5.drew.cell? ⟨w4.heap.size, 6, none⟩ = some (.slice d3 k0.t.length e3) := x5_6
    have y7 : w5.drew.cell? ⟨w4.heap.size, 7, none⟩ = some (.slice d4 k0.r.length e4) := x5_7
    have z0 : w5.drew.cell? ⟨w.heap.size, 0, none⟩ = some (.int .i64 k0.k) := c5_0
    have z1 : w5.drew.cell? ⟨w.heap.size, 1, none⟩ = some (.int .i64 k0.a) := c5_1
    have z2 : w5.drew.cell? ⟨w.heap.size, 2, none⟩ = some (.int .i64 k0.b) := c5_2
    have z3 : w5.drew.cell? ⟨w.heap.size, 3, none⟩ = some (.int .i64 k0.c) := c5_3
    have z4 : w5.drew.cell? ⟨w.heap.size, 4, none⟩ = some (.bool k0.fin) := c5_4
    have z5 : w5.drew.cell? ⟨w.heap.size, 5, none⟩ = some (.slice a2 k0.d.length c2) := c5_5
    have z6 : w5.drew.cell? ⟨w.heap.size, 6, none⟩ = some (.slice a3 k0.t.length c3) := c5_6
    have z7 : w5.drew.cell? ⟨w.heap.size, 7, none⟩ = some (.slice a4 k0.r.length c4) := c5_7
    have F5 : Hid _ := And.intro (B5.out.1.trans (D.out.mono B5.out.1.size)) True.intro
    go_region_with (first
      | (go_at_call 8; refine (toFrm _ k0 w5.drew (HH.out.1.below F5.out.1) HH.out.2.1).mono ?_; rintro e wy ⟨ry, rfl, oy, by'⟩; have q0 : wy.cell? ⟨w4.heap.size, 0, none⟩ = some (.int .i64 k0.k) := (by'.cell (p := ⟨w4.heap.size, 0, none⟩) B5.out.2.2.2).trans y0; have q1 : wy.cell? ⟨w4.heap.size, 1, none⟩ = some (.int .i64 k0.a) := (by'.cell (p := ⟨w4.heap.size, 1, none⟩) B5.out.2.2.2).trans y1; have q2 : wy.cell? ⟨w4.heap.size, 2, none⟩ = some (.int .i64 k0.b) := (by'.cell (p := ⟨w4.heap.size, 2, none⟩) B5.out.2.2.2).trans y2; have q3 : wy.cell? ⟨w4.heap.size, 3, none⟩ = some (.int .i64 k0.c) := (by'.cell (p := ⟨w4.heap.size, 3, none⟩) B5.out.2.2.2).trans y3; have q4 : wy.cell? ⟨w4.heap.size, 4, none⟩ = some (.bool k0.fin) := (by'.cell (p := ⟨w4.heap.size, 4, none⟩) B5.out.2.2.2).trans y4; have q5 : wy.cell? ⟨w4.heap.size, 5, none⟩ = some (.slice d2 k0.d.length e2) := (by'.cell (p := ⟨w4.heap.size, 5, none⟩) B5.out.2.2.2).trans y5; have q6 : wy.cell? ⟨w4.heap.size, 6, none⟩ = some (.slice d3 k0.t.length e3) := (by'.cell (p := ⟨w4.heap.size, 6, none⟩) B5.out.2.2.2).trans y6; have q7 : wy.cell? ⟨w4.heap.size, 7, none⟩ = some (.slice d4 k0.r.length e4) := (by'.cell (p := ⟨w4.heap.size, 7, none⟩) B5.out.2.2.2).trans y7)
      | (go_at_call 10; refine (eqFrm_same _ _ k0 wy ((B5.out.2.2.1.below D.out).below by') oy HH.out.2.1).mono ?_; rintro e wz ⟨rfl, bz⟩))
    all_goals (go_wp2_with fail; go_ret; exact ⟨rfl, F5.out.1.trans ((by'.trans (bz.mono by'.size)).mono F5.out.1.size)⟩)
end Go.Proofs.Ytlbiaiohjohgiaa
