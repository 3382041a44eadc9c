import Derived.Test.YtaodcahkkeobdaaFrmO
namespace Go.Proofs.Ytaodcahkkeobdaa
open Go.RowKit
set_option linter.unusedVariables false

theorem FOwns.parts {w : World} {base : Nat} {v : Value} {h : F8} (k : FOwns w base v h) : ∃ (a2 a3 a4 : Option Addr) (p2 p3 p4 : Nat), v = .agg #[.int .i64 h.k, .int .i64 h.a, .int .i64 h.b, .int .i64 h.c, .bool h.fin, .slice a2 h.d.length p2, .slice a3 h.t.length p3, .slice a4 h.r.length p4] := by
  obtain ⟨a2, a3, a4, p2, p3, p4, e, _⟩ := k.row.parts
  exact ⟨a2, a3, a4, p2, p3, p4, e⟩
set_option maxRecDepth 20000 in
set_option maxHeartbeats 8000000 in
theorem fnExactAckFrame_of (v : Value) (R : List (Int × Int)) (n : Int) (sm : R.length ≤ maxLen) (w : World) (row : RRow w v R) (both : R.length ≤ 1048576 → ∃ (Y : F8) (c : Int), Y.small 1048576 ∧ (∀ v w, RRow w v R → Calls Try.prog 6 #[v, .int .i64 n] w fun e w' => ∃ r, e = .returned (.tuple #[r, .int .i64 c]) ∧ FOwns w' w.heap.size r Y ∧ Below w.heap.size w w') ∧ (∀ v w, RRow w v R → Calls Try.prog 8 #[v, .int .i64 n] w fun e w' => ∃ r, e = .returned (.tuple #[r, .int .i64 c]) ∧ FOwns w' w.heap.size r Y ∧ Below w.heap.size w w')) :
    Calls Try.prog 3 #[v, .int .i64 n] w fun e w' => e = .returned (.bool true) ∧ Below w.heap.size w w' := by
  by_cases hf : R.length ≤ 1048576
  case neg =>
    have C := szRng_over v R 1048576 w row (by decide) (Nat.le_trans sm (by decide)) (by omega)
    obtain ⟨ao, cp, rfl⟩ := row.form
    have HC : Hid _ := And.intro C True.intro
    clear C row sm both hf
    go_enter Try.func3, Try.ntmps3
    go_wp2_with fail
    go_at_call 5
    refine HC.out.1.mono ?_
    rintro e w1 ⟨rfl, hw⟩
    subst w1
    go_wp2
    go_ret
    exact ⟨rfl, Below.refl _ _⟩
  case pos =>
    obtain ⟨Y, c, hY, hS, hI⟩ := both hf
    have C := szRng_fit v R 1048576 w row (by decide) (by omega)
    obtain ⟨lt, el⟩ : ∃ lt : Int, lt = 1048576 - (R.length : Int) := ⟨_, rfl⟩
    rw [← el] at C
    have hl : ¬ (lt < 0) := by omega
    have hcc : (c != c) = false := by simp
    have HH : Hid _ := And.intro row (And.intro hf (And.intro hS (And.intro hI (And.intro C hY))))
    obtain ⟨K, eK⟩ : ∃ K : Int, K = 1 + 2 * (R.length : Int) := ⟨_, rfl⟩
    obtain ⟨M, eM⟩ : ∃ M : Int, M = 1 + (Y.d.length : Int) + (Y.t.length : Int) + 2 * (Y.r.length : Int) := ⟨_, rfl⟩
    have hK : ¬ (K < 0) := by omega
    have hM : ¬ (M < 0) := by omega
    have hMM : (M != M) = false := by simp
    have EK : Hid _ := And.intro eK eM
    obtain ⟨ao, cp, rfl⟩ := row.form
    clear row sm both hf hS hI C el hY eK eM
    go_enter Try.func3, Try.ntmps3
    go_wp2_with fail
    go_at_call 5
    refine HH.out.2.2.2.2.1.mono ?_
    rintro e w0 ⟨rfl, hw⟩
    subst w0
    go_wp2_with fail
    go_at_call 7
    refine (toRngs _ R w HH.out.1 HH.out.2.1).mono ?_
    rintro e w1 ⟨r1, rfl, o1, b1⟩
    have B1 : Hid _ := And.intro b1 o1.row
    clear b1 o1
    go_wp2_with fail
    go_at_call 6
    refine (HH.out.2.2.1 _ _ B1.out.2).mono ?_
    rintro e w2 ⟨rS, rfl, oS, b2⟩
    obtain ⟨s2, s3, s4, sp2, sp3, sp4, eS⟩ := oS.parts
    subst eS
    have A2 : Below w2.heap.size w2 (w2.alloc (.cells #[.int .i64 Y.k, .int .i64 Y.a, .int .i64 Y.b, .int .i64 Y.c, .bool Y.fin, .slice s2 Y.d.length sp2, .slice s3 Y.t.length sp3, .slice s4 Y.r.length sp4] 27)) := (Below.refl _ _).alloc (Nat.le_refl _) _
    have K6 := heap_alloc_new w2 (.cells #[.int .i64 Y.k, .int .i64 Y.a, .int .i64 Y.b, .int .i64 Y.c, .bool Y.fin, .slice s2 Y.d.length sp2, .slice s3 Y.t.length sp3, .slice s4 Y.r.length sp4] 27)
    have c2 := B1.out.1.trans (b2.mono B1.out.1.size)
    have B2 : Hid _ := And.intro (c2.trans (A2.mono c2.size)) (And.intro (oS.row.below A2) (And.intro K6 (show w2.heap.size < (w2.alloc (.cells #[.int .i64 Y.k, .int .i64 Y.a, .int .i64 Y.b, .int .i64 Y.c, .bool Y.fin, .slice s2 Y.d.length sp2, .slice s3 Y.t.length sp3, .slice s4 Y.r.length sp4] 27)).heap.size by simp)))
    clear b2 oS A2 c2 K6
    go_wp2_with fail
    go_at_call 7
    refine (toRngs _ R (w2.alloc (.cells #[.int .i64 Y.k, .int .i64 Y.a, .int .i64 Y.b, .int .i64 Y.c, .bool Y.fin, .slice s2 Y.d.length sp2, .slice s3 Y.t.length sp3, .slice s4 Y.r.length sp4] 27)) (HH.out.1.below B2.out.1) HH.out.2.1).mono ?_
    rintro e w3 ⟨x0, rfl, oX, b3⟩
    have B3 : Hid _ := And.intro b3 oX
    clear b3 oX
    go_wp2_with fail
    go_at_call 8
    refine (HH.out.2.2.2.1 _ _ B3.out.2.row).mono ?_
    rintro e w4 ⟨g0, rfl, oG, b4⟩
    obtain ⟨t2, t3, t4, tp2, tp3, tp4, eG⟩ := oG.parts
    subst eG
    have fb := oG.fbelow
    have A4 : Below w4.heap.size w4 (w4.alloc (.cells #[.int .i64 Y.k, .int .i64 Y.a, .int .i64 Y.b, .int .i64 Y.c, .bool Y.fin, .slice t2 Y.d.length tp2, .slice t3 Y.t.length tp3, .slice t4 Y.r.length tp4] 27)) := (Below.refl _ _).alloc (Nat.le_refl _) _
    have K9 := heap_alloc_new w4 (.cells #[.int .i64 Y.k, .int .i64 Y.a, .int .i64 Y.b, .int .i64 Y.c, .bool Y.fin, .slice t2 Y.d.length tp2, .slice t3 Y.t.length tp3, .slice t4 Y.r.length tp4] 27)
    have c4 := b4.trans (A4.mono b4.size)
    have d4 := B3.out.1.trans (c4.mono B3.out.1.size)
    have B4 : Hid _ := And.intro d4 (And.intro (oG.below A4) (And.intro c4 (And.intro ((d4.block w2.heap.size B2.out.2.2.2).trans B2.out.2.2.1) (And.intro K9 (And.intro fb (And.intro (show w4.heap.size < (w4.alloc (.cells #[.int .i64 Y.k, .int .i64 Y.a, .int .i64 Y.b, .int .i64 Y.c, .bool Y.fin, .slice t2 Y.d.length tp2, .slice t3 Y.t.length tp3, .slice t4 Y.r.length tp4] 27)).heap.size by simp) b4.size))))))
    clear b4 oG A4 c4 d4 K9 fb
    obtain ⟨W4, eW4⟩ : ∃ W4, W4 = w4.alloc (.cells #[.int .i64 Y.k, .int .i64 Y.a, .int .i64 Y.b, .int .i64 Y.c, .bool Y.fin, .slice t2 Y.d.length tp2, .slice t3 Y.t.length tp3, .slice t4 Y.r.length tp4] 27) := ⟨_, rfl⟩
    rw [← eW4] at B4
    obtain ⟨hx1, hx2⟩ : w2.heap.size < W4.heap.size ∧ w4.heap.size < W4.heap.size := ⟨Nat.lt_of_lt_of_le B2.out.2.2.2 B4.out.1.size, B4.out.2.2.2.2.2.2.1⟩
    have u6_0 : W4.cell? ⟨w2.heap.size, 0, none⟩ = some (.int .i64 Y.k) := bk_cell B4.out.2.2.2.1 0
    have u6_1 : W4.cell? ⟨w2.heap.size, 1, none⟩ = some (.int .i64 Y.a) := bk_cell B4.out.2.2.2.1 1
    have u6_2 : W4.cell? ⟨w2.heap.size, 2, none⟩ = some (.int .i64 Y.b) := bk_cell B4.out.2.2.2.1 2
    have u6_3 : W4.cell? ⟨w2.heap.size, 3, none⟩ = some (.int .i64 Y.c) := bk_cell B4.out.2.2.2.1 3
    have u6_4 : W4.cell? ⟨w2.heap.size, 4, none⟩ = some (.bool Y.fin) := bk_cell B4.out.2.2.2.1 4
    have u6_5 : W4.cell? ⟨w2.heap.size, 5, none⟩ = some (.slice s2 Y.d.length sp2) := bk_cell B4.out.2.2.2.1 5
    have u6_6 : W4.cell? ⟨w2.heap.size, 6, none⟩ = some (.slice s3 Y.t.length sp3) := bk_cell B4.out.2.2.2.1 6
    have u6_7 : W4.cell? ⟨w2.heap.size, 7, none⟩ = some (.slice s4 Y.r.length sp4) := bk_cell B4.out.2.2.2.1 7
    have u9_0 : W4.cell? ⟨w4.heap.size, 0, none⟩ = some (.int .i64 Y.k) := bk_cell B4.out.2.2.2.2.1 0
    have u9_1 : W4.cell? ⟨w4.heap.size, 1, none⟩ = some (.int .i64 Y.a) := bk_cell B4.out.2.2.2.2.1 1
    have u9_2 : W4.cell? ⟨w4.heap.size, 2, none⟩ = some (.int .i64 Y.b) := bk_cell B4.out.2.2.2.2.1 2
    have u9_3 : W4.cell? ⟨w4.heap.size, 3, none⟩ = some (.int .i64 Y.c) := bk_cell B4.out.2.2.2.2.1 3
    have u9_4 : W4.cell? ⟨w4.heap.size, 4, none⟩ = some (.bool Y.fin) := bk_cell B4.out.2.2.2.2.1 4
    have u9_5 : W4.cell? ⟨w4.heap.size, 5, none⟩ = some (.slice t2 Y.d.length tp2) := bk_cell B4.out.2.2.2.2.1 5
    have u9_6 : W4.cell? ⟨w4.heap.size, 6, none⟩ = some (.slice t3 Y.t.length tp3) := bk_cell B4.out.2.2.2.2.1 6
    have u9_7 : W4.cell? ⟨w4.heap.size, 7, none⟩ = some (.slice t4 Y.r.length tp4) := bk_cell B4.out.2.2.2.2.1 7
    subst eW4
    go_wp2_with fail
    go_at_call 9
    refine (eqFrm_same _ _ Y _ B4.out.2.1.row (B2.out.2.1.below B4.out.1) HH.out.2.2.2.2.2).mono ?_
    rintro e w5 ⟨rfl, b5⟩
    have B5 : Hid _ := And.intro (B4.out.1.trans (b5.mono B4.out.1.size)) (And.intro (B4.out.2.1.below b5) (And.intro (B4.out.2.2.1.trans (b5.mono B4.out.2.2.1.size)) (And.intro ((b5.block w2.heap.size hx1).trans B4.out.2.2.2.1) (And.intro ((b5.block w4.heap.size hx2).trans B4.out.2.2.2.2.1) b5.size))))
    clear b5
    clear u6_0 u6_1 u6_2 u6_3 u6_4 u6_5 u6_6 u6_7
    clear u9_0 u9_1 u9_2 u9_3 u9_4 u9_5 u9_6 u9_7
    go_wp2_with fail
    go_at_call 7
    refine (toRngs _ R w5 (HH.out.1.below (B2.out.1.trans (B5.out.1.mono B2.out.1.size))) HH.out.2.1).mono ?_
    rintro e w6 ⟨r6, rfl, o6, b6⟩
    have y1 : w2.heap.size < w5.heap.size := Nat.lt_of_lt_of_le hx1 B5.out.2.2.2.2.2
    have y2 : w4.heap.size < w5.heap.size := Nat.lt_of_lt_of_le hx2 B5.out.2.2.2.2.2
    have B6 : Hid _ := And.intro (B5.out.1.trans (b6.mono B5.out.1.size)) (And.intro (B5.out.2.1.below b6) (And.intro (B3.out.2.below (B5.out.2.2.1.trans (b6.mono B5.out.2.2.1.size))) (And.intro o6.row (And.intro ((b6.block w2.heap.size y1).trans B5.out.2.2.2.1) (And.intro ((b6.block w4.heap.size y2).trans B5.out.2.2.2.2.1) b6.size)))))
    clear b6 o6
    go_wp2_with fail
    go_at_call 10
    refine (eqRngs _ _ R w6 B6.out.2.2.1.row B6.out.2.2.2.1 HH.out.2.1).mono ?_
    rintro e w7 ⟨rfl, b7⟩
    have z1 : w2.heap.size < w6.heap.size := Nat.lt_of_lt_of_le y1 B6.out.2.2.2.2.2.2
    have z2 : w4.heap.size < w6.heap.size := Nat.lt_of_lt_of_le y2 B6.out.2.2.2.2.2.2
    have B7 : Hid _ := And.intro (B6.out.1.trans (b7.mono B6.out.1.size)) (And.intro (B6.out.2.1.below b7) (And.intro (B6.out.2.2.1.below b7) (And.intro ((b7.block w2.heap.size z1).trans B6.out.2.2.2.2.1) ((b7.block w4.heap.size z2).trans B6.out.2.2.2.2.2.1))))
    clear b7
    go_wp2_with fail
    go_at_call 11
    refine (markRngs 1 (w2.alloc (.cells #[.int .i64 Y.k, .int .i64 Y.a, .int .i64 Y.b, .int .i64 Y.c, .bool Y.fin, .slice s2 Y.d.length sp2, .slice s3 Y.t.length sp3, .slice s4 Y.r.length sp4] 27)).heap.size _ R w7 (Nat.le_trans HH.out.2.1 (by decide)) (by decide) (by decide) B7.out.2.2.1).mono ?_
    rintro e w8 ⟨rfl, oX8, b8, z8, n8⟩
    have xlt : ∀ k, w3.heap.size ≤ k → some k ≠ x0.ownBlock := fun k hk e => by
      obtain ⟨zs, oz, _⟩ := B3.out.2
      have := (oz.lt k e.symm).2
      omega
    have K68 := (b8.block w2.heap.size B2.out.2.2.2).trans B7.out.2.2.2.1
    have K98 := (n8.block w4.heap.size (xlt _ B4.out.2.2.2.2.2.2.2)).trans B7.out.2.2.2.2
    have oG8 := B7.out.2.1.high (B := w3.heap.size) (fun k hk _ => n8.block k (xlt k hk)) (Nat.le_refl _)
    have B8 : Hid _ := And.intro (B7.out.1.trans b8) (And.intro oG8 (And.intro K68 K98))
    have v6_0 : w8.cell? ⟨w2.heap.size, 0, none⟩ = some (.int .i64 Y.k) := bk_cell K68 0
    have v6_1 : w8.cell? ⟨w2.heap.size, 1, none⟩ = some (.int .i64 Y.a) := bk_cell K68 1
    have v6_2 : w8.cell? ⟨w2.heap.size, 2, none⟩ = some (.int .i64 Y.b) := bk_cell K68 2
    have v6_3 : w8.cell? ⟨w2.heap.size, 3, none⟩ = some (.int .i64 Y.c) := bk_cell K68 3
    have v6_4 : w8.cell? ⟨w2.heap.size, 4, none⟩ = some (.bool Y.fin) := bk_cell K68 4
    have v6_5 : w8.cell? ⟨w2.heap.size, 5, none⟩ = some (.slice s2 Y.d.length sp2) := bk_cell K68 5
    have v6_6 : w8.cell? ⟨w2.heap.size, 6, none⟩ = some (.slice s3 Y.t.length sp3) := bk_cell K68 6
    have v6_7 : w8.cell? ⟨w2.heap.size, 7, none⟩ = some (.slice s4 Y.r.length sp4) := bk_cell K68 7
    have v9_0 : w8.cell? ⟨w4.heap.size, 0, none⟩ = some (.int .i64 Y.k) := bk_cell K98 0
    have v9_1 : w8.cell? ⟨w4.heap.size, 1, none⟩ = some (.int .i64 Y.a) := bk_cell K98 1
    have v9_2 : w8.cell? ⟨w4.heap.size, 2, none⟩ = some (.int .i64 Y.b) := bk_cell K98 2
    have v9_3 : w8.cell? ⟨w4.heap.size, 3, none⟩ = some (.int .i64 Y.c) := bk_cell K98 3
    have v9_4 : w8.cell? ⟨w4.heap.size, 4, none⟩ = some (.bool Y.fin) := bk_cell K98 4
    have v9_5 : w8.cell? ⟨w4.heap.size, 5, none⟩ = some (.slice t2 Y.d.length tp2) := bk_cell K98 5
    have v9_6 : w8.cell? ⟨w4.heap.size, 6, none⟩ = some (.slice t3 Y.t.length tp3) := bk_cell K98 6
    have v9_7 : w8.cell? ⟨w4.heap.size, 7, none⟩ = some (.slice t4 Y.r.length tp4) := bk_cell K98 7
    clear b8 oX8 z8 n8 xlt K68 K98 oG8
    rw [← EK.out.1]
    go_wp2_with fail
    go_at_call 9
    refine (eqFrm_same _ _ Y w8 B8.out.2.1.row (B2.out.2.1.below B8.out.1) HH.out.2.2.2.2.2).mono ?_
    rintro e w9 ⟨rfl, b9⟩
    have g68 : w2.heap.size < w8.heap.size := (Array.getElem?_eq_some_iff.1 B8.out.2.2.1).1
    have g98 : w4.heap.size < w8.heap.size := (Array.getElem?_eq_some_iff.1 B8.out.2.2.2).1
    have K69 := (b9.block w2.heap.size g68).trans B8.out.2.2.1
    have K99 := (b9.block w4.heap.size g98).trans B8.out.2.2.2
    have B9 : Hid _ := And.intro (B8.out.1.trans (b9.mono B8.out.1.size)) (And.intro (B8.out.2.1.below b9) (And.intro K69 K99))
    clear v6_0 v6_1 v6_2 v6_3 v6_4 v6_5 v6_6 v6_7
    clear v9_0 v9_1 v9_2 v9_3 v9_4 v9_5 v9_6 v9_7
    have x9_0 : w9.cell? ⟨w4.heap.size, 0, none⟩ = some (.int .i64 Y.k) := bk_cell K99 0
    have x9_1 : w9.cell? ⟨w4.heap.size, 1, none⟩ = some (.int .i64 Y.a) := bk_cell K99 1
    have x9_2 : w9.cell? ⟨w4.heap.size, 2, none⟩ = some (.int .i64 Y.b) := bk_cell K99 2
    have x9_3 : w9.cell? ⟨w4.heap.size, 3, none⟩ = some (.int .i64 Y.c) := bk_cell K99 3
    have x9_4 : w9.cell? ⟨w4.heap.size, 4, none⟩ = some (.bool Y.fin) := bk_cell K99 4
    have x9_5 : w9.cell? ⟨w4.heap.size, 5, none⟩ = some (.slice t2 Y.d.length tp2) := bk_cell K99 5
    have x9_6 : w9.cell? ⟨w4.heap.size, 6, none⟩ = some (.slice t3 Y.t.length tp3) := bk_cell K99 6
    have x9_7 : w9.cell? ⟨w4.heap.size, 7, none⟩ = some (.slice t4 Y.r.length tp4) := bk_cell K99 7
    clear b9 K69 K99
    go_wp2_with fail
    go_at_call 12
    refine (markFrm 1 w3.heap.size w4.heap.size _ Y w9 HH.out.2.2.2.2.2 (by decide) (by decide) B9.out.2.1 B4.out.2.2.2.2.2.1 (Nat.le_trans B4.out.2.2.2.2.2.2.2 (Nat.le_of_lt (Array.getElem?_eq_some_iff.1 B9.out.2.2.2).1))).mono ?_
    rintro e w10 ⟨rfl, oG10, b10, n10, z10⟩
    have s3 : (w2.alloc (.cells #[.int .i64 Y.k, .int .i64 Y.a, .int .i64 Y.b, .int .i64 Y.c, .bool Y.fin, .slice s2 Y.d.length sp2, .slice s3 Y.t.length sp3, .slice s4 Y.r.length sp4] 27)).heap.size ≤ w3.heap.size := B3.out.1.size
    have K610 := (b10.block w2.heap.size (Nat.lt_of_lt_of_le B2.out.2.2.2 s3)).trans B9.out.2.2.1
    have K910 := (n10 w4.heap.size (Nat.le_refl _) (Array.getElem?_eq_some_iff.1 B9.out.2.2.2).1).trans B9.out.2.2.2
    have B10 : Hid _ := And.intro (B9.out.1.trans (b10.mono s3)) (And.intro oG10 (And.intro K610 K910))
    clear x9_0 x9_1 x9_2 x9_3 x9_4 x9_5 x9_6 x9_7
    have m9_0 : w10.cell? ⟨w4.heap.size, 0, none⟩ = some (.int .i64 Y.k) := bk_cell K910 0
    have m9_1 : w10.cell? ⟨w4.heap.size, 1, none⟩ = some (.int .i64 Y.a) := bk_cell K910 1
    have m9_2 : w10.cell? ⟨w4.heap.size, 2, none⟩ = some (.int .i64 Y.b) := bk_cell K910 2
    have m9_3 : w10.cell? ⟨w4.heap.size, 3, none⟩ = some (.int .i64 Y.c) := bk_cell K910 3
    have m9_4 : w10.cell? ⟨w4.heap.size, 4, none⟩ = some (.bool Y.fin) := bk_cell K910 4
    have m9_5 : w10.cell? ⟨w4.heap.size, 5, none⟩ = some (.slice t2 Y.d.length tp2) := bk_cell K910 5
    have m9_6 : w10.cell? ⟨w4.heap.size, 6, none⟩ = some (.slice t3 Y.t.length tp3) := bk_cell K910 6
    have m9_7 : w10.cell? ⟨w4.heap.size, 7, none⟩ = some (.slice t4 Y.r.length tp4) := bk_cell K910 7
    clear b10 n10 z10 oG10 K610 K910 s3
    rw [← EK.out.2]
    go_wp2_with fail
    go_at_call 13
    refine (heldFrm 1 _ Y w10 HH.out.2.2.2.2.2 (by decide) (by decide) B10.out.2.1.row).mono ?_
    rintro e w11 ⟨rfl, b11⟩
    have K611 := (b11.block w2.heap.size (Array.getElem?_eq_some_iff.1 B10.out.2.2.1).1).trans B10.out.2.2.1
    have K911 := (b11.block w4.heap.size (Array.getElem?_eq_some_iff.1 B10.out.2.2.2).1).trans B10.out.2.2.2
    have B11 : Hid _ := And.intro (B10.out.1.trans (b11.mono B10.out.1.size)) (And.intro (B10.out.2.1.below b11) (And.intro K611 K911))
    clear m9_0 m9_1 m9_2 m9_3 m9_4 m9_5 m9_6 m9_7
    clear b11 K611 K911
    rw [← EK.out.2]
    go_wp2_with fail
    go_at_call 7
    refine (toRngs _ R w11 (HH.out.1.below (B2.out.1.trans (B11.out.1.mono B2.out.1.size))) HH.out.2.1).mono ?_
    rintro e w12 ⟨r12, rfl, o12, b12⟩
    have K612 := (b12.block w2.heap.size (Array.getElem?_eq_some_iff.1 B11.out.2.2.1).1).trans B11.out.2.2.1
    have K912 := (b12.block w4.heap.size (Array.getElem?_eq_some_iff.1 B11.out.2.2.2).1).trans B11.out.2.2.2
    have B12 : Hid _ := And.intro (B11.out.1.trans (b12.mono B11.out.1.size)) (And.intro (B11.out.2.1.below b12) (And.intro K612 (And.intro K912 o12.row)))
    clear b12 o12 K612 K912
    go_wp2_with fail
    go_at_call 8
    refine (HH.out.2.2.2.1 _ _ B12.out.2.2.2.2).mono ?_
    rintro e w13 ⟨h0, rfl, oH, b13⟩
    obtain ⟨q2, q3, q4, qp2, qp3, qp4, eH⟩ := oH.parts
    subst eH
    have A13 : Below w13.heap.size w13 (w13.alloc (.cells #[.int .i64 Y.k, .int .i64 Y.a, .int .i64 Y.b, .int .i64 Y.c, .bool Y.fin, .slice q2 Y.d.length qp2, .slice q3 Y.t.length qp3, .slice q4 Y.r.length qp4] 27)) := (Below.refl _ _).alloc (Nat.le_refl _) _
    have c13 := b13.trans (A13.mono b13.size)
    have K613 := (c13.block w2.heap.size (Array.getElem?_eq_some_iff.1 B12.out.2.2.1).1).trans B12.out.2.2.1
    have K913 := (c13.block w4.heap.size (Array.getElem?_eq_some_iff.1 B12.out.2.2.2.1).1).trans B12.out.2.2.2.1
    have KH := heap_alloc_new w13 (.cells #[.int .i64 Y.k, .int .i64 Y.a, .int .i64 Y.b, .int .i64 Y.c, .bool Y.fin, .slice q2 Y.d.length qp2, .slice q3 Y.t.length qp3, .slice q4 Y.r.length qp4] 27)
    have B13 : Hid _ := And.intro (B12.out.1.trans (c13.mono B12.out.1.size)) (And.intro (B12.out.2.1.below c13) (And.intro K613 (And.intro K913 (oH.row.below A13))))
    obtain ⟨W13, eW13⟩ : ∃ W13, W13 = w13.alloc (.cells #[.int .i64 Y.k, .int .i64 Y.a, .int .i64 Y.b, .int .i64 Y.c, .bool Y.fin, .slice q2 Y.d.length qp2, .slice q3 Y.t.length qp3, .slice q4 Y.r.length qp4] 27) := ⟨_, rfl⟩
    rw [← eW13] at K613 K913 KH
    have hy1 : w2.heap.size < W13.heap.size := (Array.getElem?_eq_some_iff.1 K613).1
    have n6_0 : W13.cell? ⟨w2.heap.size, 0, none⟩ = some (.int .i64 Y.k) := bk_cell K613 0
    have n6_1 : W13.cell? ⟨w2.heap.size, 1, none⟩ = some (.int .i64 Y.a) := bk_cell K613 1
    have n6_2 : W13.cell? ⟨w2.heap.size, 2, none⟩ = some (.int .i64 Y.b) := bk_cell K613 2
    have n6_3 : W13.cell? ⟨w2.heap.size, 3, none⟩ = some (.int .i64 Y.c) := bk_cell K613 3
    have n6_4 : W13.cell? ⟨w2.heap.size, 4, none⟩ = some (.bool Y.fin) := bk_cell K613 4
    have n6_5 : W13.cell? ⟨w2.heap.size, 5, none⟩ = some (.slice s2 Y.d.length sp2) := bk_cell K613 5
    have n6_6 : W13.cell? ⟨w2.heap.size, 6, none⟩ = some (.slice s3 Y.t.length sp3) := bk_cell K613 6
    have n6_7 : W13.cell? ⟨w2.heap.size, 7, none⟩ = some (.slice s4 Y.r.length sp4) := bk_cell K613 7
    have nh_0 : W13.cell? ⟨w13.heap.size, 0, none⟩ = some (.int .i64 Y.k) := bk_cell KH 0
    have nh_1 : W13.cell? ⟨w13.heap.size, 1, none⟩ = some (.int .i64 Y.a) := bk_cell KH 1
    have nh_2 : W13.cell? ⟨w13.heap.size, 2, none⟩ = some (.int .i64 Y.b) := bk_cell KH 2
    have nh_3 : W13.cell? ⟨w13.heap.size, 3, none⟩ = some (.int .i64 Y.c) := bk_cell KH 3
    have nh_4 : W13.cell? ⟨w13.heap.size, 4, none⟩ = some (.bool Y.fin) := bk_cell KH 4
    have nh_5 : W13.cell? ⟨w13.heap.size, 5, none⟩ = some (.slice q2 Y.d.length qp2) := bk_cell KH 5
    have nh_6 : W13.cell? ⟨w13.heap.size, 6, none⟩ = some (.slice q3 Y.t.length qp3) := bk_cell KH 6
    have nh_7 : W13.cell? ⟨w13.heap.size, 7, none⟩ = some (.slice q4 Y.r.length qp4) := bk_cell KH 7
    clear b13 oH A13 c13 K613 K913 KH
    subst eW13
    go_wp2_with fail
    go_at_call 9
    refine (eqFrm_same _ _ Y _ B13.out.2.2.2.2 (B2.out.2.1.below B13.out.1) HH.out.2.2.2.2.2).mono ?_
    rintro e w14 ⟨rfl, b14⟩
    have K914 := (b14.block w4.heap.size (Array.getElem?_eq_some_iff.1 B13.out.2.2.2.1).1).trans B13.out.2.2.2.1
    have B14 : Hid _ := And.intro (B13.out.1.trans (b14.mono B13.out.1.size)) (B13.out.2.1.below b14)
    clear n6_0 n6_1 n6_2 n6_3 n6_4 n6_5 n6_6 n6_7
    clear nh_0 nh_1 nh_2 nh_3 nh_4 nh_5 nh_6 nh_7
    have k9_0 : w14.cell? ⟨w4.heap.size, 0, none⟩ = some (.int .i64 Y.k) := bk_cell K914 0
    have k9_1 : w14.cell? ⟨w4.heap.size, 1, none⟩ = some (.int .i64 Y.a) := bk_cell K914 1
    have k9_2 : w14.cell? ⟨w4.heap.size, 2, none⟩ = some (.int .i64 Y.b) := bk_cell K914 2
    have k9_3 : w14.cell? ⟨w4.heap.size, 3, none⟩ = some (.int .i64 Y.c) := bk_cell K914 3
    have k9_4 : w14.cell? ⟨w4.heap.size, 4, none⟩ = some (.bool Y.fin) := bk_cell K914 4
    have k9_5 : w14.cell? ⟨w4.heap.size, 5, none⟩ = some (.slice t2 Y.d.length tp2) := bk_cell K914 5
    have k9_6 : w14.cell? ⟨w4.heap.size, 6, none⟩ = some (.slice t3 Y.t.length tp3) := bk_cell K914 6
    have k9_7 : w14.cell? ⟨w4.heap.size, 7, none⟩ = some (.slice t4 Y.r.length tp4) := bk_cell K914 7
    clear b14 K914
    go_wp2_with fail
    go_at_call 13
    refine (heldFrm 1 _ Y w14 HH.out.2.2.2.2.2 (by decide) (by decide) B14.out.2.row).mono ?_
    rintro e w15 ⟨rfl, b15⟩
    have B15 : Hid _ := And.intro (B14.out.1.trans (b15.mono B14.out.1.size)) True.intro
    clear b15
    rw [← EK.out.2]
    go_wp2
    go_ret
    exact ⟨rfl, B2.out.1.trans (B15.out.1.mono B2.out.1.size)⟩
end Go.Proofs.Ytaodcahkkeobdaa
