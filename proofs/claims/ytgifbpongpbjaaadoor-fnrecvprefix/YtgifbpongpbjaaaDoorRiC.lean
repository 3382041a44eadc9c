import Derived.Test.YtgifbpongpbjaaaDoorRiB
namespace Go.Proofs.YtgifbpongpbjaaaDoor
open Go.RowKit
set_option linter.unusedVariables false

set_option maxRecDepth 20000 in
set_option maxHeartbeats 4000000 in
theorem run_read (g c win i : Nat) (m : MS) (a b : Int) (u : Value) (fb : Bool) (w : World) (hE : Env w g c win i m) (hR : Rep w g c win m) :
    Calls Tryd.prog 10 #[.pointer (some ⟨g, 0, none⟩), .agg #[.int .i64 3, .int .i64 a, .int .i64 b, u, .bool fb]] w fun e w' => ∃ r, e = .returned (.agg #[.int .i64 (mread win m b).2.2, .int .i64 ((mread win m b).1.st : Int), .int .i64 (mread win m b).1.told, r, .bool (decide ((mread win m b).2.2 = 0 ∧ (mread win m b).1.st = 3))]) ∧ w'.ownsRow w.heap.size 5 1 r (mread win m b).2.1.length ((mread win m b).2.1.map (Value.int .u8)) ∧ Rep w' g c win (mread win m b).1 ∧ Chg (K2 g c) w w' := by
  have A0 := run_new w #[.int .i64 3, .int .i64 a, .int .i64 b, u, .bool fb] #[.int .i64 1, .int .i64 0, .int .i64 0, .slice none 0 0, .bool false]
  have B0 := run_below w (.cells #[.int .i64 3, .int .i64 a, .int .i64 b, u, .bool fb] 28) (.cells #[.int .i64 0, .int .i64 0, .int .i64 0, .slice none 0 0, .bool false] 33) (.cells #[.int .i64 1, .int .i64 0, .int .i64 0, .slice none 0 0, .bool false] 33)
  have C := readR g c win i m b _ (hE.below B0) (hR.below B0)
  have hgl := hR.lt
  have hs : ∀ k, w.heap.size ≤ k → ¬ K2 g c k := fun k hk e => by rcases e with e | e <;> omega
  have l3 : w.heap.size + 3 ≤ (((w.alloc (.cells #[.int .i64 3, .int .i64 a, .int .i64 b, u, .bool fb] 28)).alloc (.cells #[.int .i64 0, .int .i64 0, .int .i64 0, .slice none 0 0, .bool false] 33)).alloc (.cells #[.int .i64 1, .int .i64 0, .int .i64 0, .slice none 0 0, .bool false] 33)).heap.size := by simp
  have H0 : Hid _ := And.intro A0 (And.intro B0 (And.intro C (And.intro hs l3)))
  clear A0 B0 C hE hR hs l3
  go_enter Tryd.func10, Tryd.ntmps10
  go_wp2_with fail
  go_at_call 13
  refine H0.out.2.2.1.mono ?_
  rintro e w1 ⟨r, rfl, ow, r1, ch⟩
  obtain ⟨ao, cp, er⟩ := (row_of_owns ow).form
  obtain ⟨ln, eln⟩ : ∃ ln, ln = (mread win m b).2.1.length := ⟨_, rfl⟩
  rw [← eln] at er
  have A1 := H0.out.1.chg ch H0.out.2.2.2.1
  have d1 := r1.c1
  have d7 := r1.c7
  have h1 : w.heap.size + 2 < w1.heap.size := A1.lt
  have z0 : w1.cell? ⟨w.heap.size + 2, 0, none⟩ = some (.int .i64 1) := by rw [bk_cell A1.b2]; rfl
  have f0 : w1.frozen? ⟨w.heap.size + 2, 0, none⟩ = false := bk_free A1.b2 0
  have y0 : w1.cell? ⟨w.heap.size + 1, 0, none⟩ = some (.int .i64 0) := by rw [bk_cell A1.b1]; rfl
  have g0 : w1.frozen? ⟨w.heap.size + 1, 0, none⟩ = false := bk_free A1.b1 0
  have z1 : w1.cell? ⟨w.heap.size + 2, 1, none⟩ = some (.int .i64 0) := by rw [bk_cell A1.b2]; rfl
  have f1 : w1.frozen? ⟨w.heap.size + 2, 1, none⟩ = false := bk_free A1.b2 1
  have y1 : w1.cell? ⟨w.heap.size + 1, 1, none⟩ = some (.int .i64 0) := by rw [bk_cell A1.b1]; rfl
  have g1 : w1.frozen? ⟨w.heap.size + 1, 1, none⟩ = false := bk_free A1.b1 1
  have z2 : w1.cell? ⟨w.heap.size + 2, 2, none⟩ = some (.int .i64 0) := by rw [bk_cell A1.b2]; rfl
  have f2 : w1.frozen? ⟨w.heap.size + 2, 2, none⟩ = false := bk_free A1.b2 2
  have y2 : w1.cell? ⟨w.heap.size + 1, 2, none⟩ = some (.int .i64 0) := by rw [bk_cell A1.b1]; rfl
  have g2 : w1.frozen? ⟨w.heap.size + 1, 2, none⟩ = false := bk_free A1.b1 2
  have z3 : w1.cell? ⟨w.heap.size + 2, 3, none⟩ = some (.slice none 0 0) := by rw [bk_cell A1.b2]; rfl
  have f3 : w1.frozen? ⟨w.heap.size + 2, 3, none⟩ = false := bk_free A1.b2 3
  have y3 : w1.cell? ⟨w.heap.size + 1, 3, none⟩ = some (.slice none 0 0) := by rw [bk_cell A1.b1]; rfl
  have g3 : w1.frozen? ⟨w.heap.size + 1, 3, none⟩ = false := bk_free A1.b1 3
  have z4 : w1.cell? ⟨w.heap.size + 2, 4, none⟩ = some (.bool false) := by rw [bk_cell A1.b2]; rfl
  have f4 : w1.frozen? ⟨w.heap.size + 2, 4, none⟩ = false := bk_free A1.b2 4
  have y4 : w1.cell? ⟨w.heap.size + 1, 4, none⟩ = some (.bool false) := by rw [bk_cell A1.b1]; rfl
  have g4 : w1.frozen? ⟨w.heap.size + 1, 4, none⟩ = false := bk_free A1.b1 4
  obtain ⟨cd, ecd⟩ : ∃ x : Int, x = (mread win m b).2.2 := ⟨_, rfl⟩
  obtain ⟨st, est⟩ : ∃ x : Int, x = ((mread win m b).1.st : Int) := ⟨_, rfl⟩
  obtain ⟨td, etd⟩ : ∃ x : Int, x = (mread win m b).1.told := ⟨_, rfl⟩
  obtain ⟨tb, etb⟩ : ∃ x : Bool, x = decide ((mread win m b).2.2 = 0 ∧ (mread win m b).1.st = 3) := ⟨_, rfl⟩
  rw [← est] at d1
  rw [← etd] at d7
  rw [← ecd]
  have ow2 := ow
  rw [er] at ow2
  have H1 : Hid _ := And.intro A1 (And.intro r1 (And.intro ch (And.intro ecd (And.intro est (And.intro etd (And.intro etb ow2))))))
  have key : (cd == 0 && st == 3) = tb := by
    rw [etb, ecd, est, Bool.eq_iff_iff]; simp; omega
  clear A1 r1 ch ecd est etd etb ow ow2 eln
  subst er
  have hg1 := hgl.1
  have fin2 : Hid (∀ W : World, W = W → True) := fun _ _ => trivial
  by_cases hc : cd = 0
  · have k0 : (cd == 0) = true := by simpa using hc
    have k3 : (st == 3) = tb := by rw [k0] at key; simpa using key
    have KB : Hid _ := And.intro hc key
    clear hc key
    subst k3
    go_wp2_with fail
    go_region
    all_goals
      go_wp2_with fail
      refine bodyPost_ret (v := .agg #[.int .i64 cd, .int .i64 st, .int .i64 td, .slice ao ln cp, .bool (st == 3)]) ?_ rfl ?_
      · refine results_cell_row (t := 33) rfl _ _ (w.heap.size + 1) _ (fr := (0, 0)) _ rfl ?_ Tryd.underlying33 rfl infoRObs
        refine (heap_drewX (bk_set (bk_set (bk_set (bk_set (bk_set ((bk_other (by omega) 2 (.int .i64 td)).trans ((bk_other (by omega) 1 (.int .i64 st)).trans ((bk_other (by omega) 4 (.bool (st == 3))).trans ((bk_other (by omega) 0 (.int .i64 cd)).trans ((bk_other (by omega) 3 (.slice ao ln cp)).trans (H1.out.1.b1)))))) 0 (.int .i64 cd)) 1 (.int .i64 st)) 2 (.int .i64 td)) 3 (.slice ao ln cp)) 4 (.bool (st == 3)))).trans ?_
        rfl
      · have m0 := owns_mono H1.out.2.2.2.2.2.2.2 (base' := w.heap.size + 3) H0.out.2.2.2.2
        refine ⟨_, by rw [← H1.out.2.2.2.2.2.2.1, ← H1.out.2.2.2.1, ← H1.out.2.2.2.2.1, ← H1.out.2.2.2.2.2.1], owns_mono (owns_drewX (owns_set8 (i := 4) (u := (.bool (st == 3))) (owns_set8 (i := 3) (u := (.slice ao ln cp)) (owns_set8 (i := 2) (u := (.int .i64 td)) (owns_set8 (i := 1) (u := (.int .i64 st)) (owns_set8 (i := 0) (u := (.int .i64 cd)) (owns_set8 (i := 2) (u := (.int .i64 td)) (owns_set8 (i := 1) (u := (.int .i64 st)) (owns_set8 (i := 4) (u := (.bool (st == 3))) (owns_set8 (i := 0) (u := (.int .i64 cd)) (owns_set8 (i := 3) (u := (.slice ao ln cp)) (m0) (g := w.heap.size + 2) (by omega)) (g := w.heap.size + 2) (by omega)) (g := w.heap.size + 2) (by omega)) (g := w.heap.size + 2) (by omega)) (g := w.heap.size + 2) (by omega)) (g := w.heap.size + 1) (by omega)) (g := w.heap.size + 1) (by omega)) (g := w.heap.size + 1) (by omega)) (g := w.heap.size + 1) (by omega)) (g := w.heap.size + 1) (by omega))) (by omega), (((((((((((H1.out.2.1).setN (w.heap.size + 2) 3 (.slice ao ln cp) (by omega)).setN (w.heap.size + 2) 0 (.int .i64 cd) (by omega)).setN (w.heap.size + 2) 4 (.bool (st == 3)) (by omega)).setN (w.heap.size + 2) 1 (.int .i64 st) (by omega)).setN (w.heap.size + 2) 2 (.int .i64 td) (by omega)).setN (w.heap.size + 1) 0 (.int .i64 cd) (by omega)).setN (w.heap.size + 1) 1 (.int .i64 st) (by omega)).setN (w.heap.size + 1) 2 (.int .i64 td) (by omega)).setN (w.heap.size + 1) 3 (.slice ao ln cp) (by omega)).setN (w.heap.size + 1) 4 (.bool (st == 3)) (by omega)).drewX, ((((((((((((Chg.of_below H0.out.2.1).trans H1.out.2.2.1).setN (w.heap.size + 2) 3 (.slice ao ln cp) (by omega)).setN (w.heap.size + 2) 0 (.int .i64 cd) (by omega)).setN (w.heap.size + 2) 4 (.bool (st == 3)) (by omega)).setN (w.heap.size + 2) 1 (.int .i64 st) (by omega)).setN (w.heap.size + 2) 2 (.int .i64 td) (by omega)).setN (w.heap.size + 1) 0 (.int .i64 cd) (by omega)).setN (w.heap.size + 1) 1 (.int .i64 st) (by omega)).setN (w.heap.size + 1) 2 (.int .i64 td) (by omega)).setN (w.heap.size + 1) 3 (.slice ao ln cp) (by omega)).setN (w.heap.size + 1) 4 (.bool (st == 3)) (by omega)).drewX⟩
  · have k0 : (cd == 0) = false := by simpa using hc
    have k3 : tb = false := by rw [k0] at key; simpa using key.symm
    have KB : Hid _ := And.intro hc key
    clear hc key
    subst k3
    go_wp2_with fail
    go_region
    all_goals
      go_wp2_with fail
      refine bodyPost_ret (v := .agg #[.int .i64 cd, .int .i64 st, .int .i64 td, .slice ao ln cp, .bool false]) ?_ rfl ?_
      · refine results_cell_row (t := 33) rfl _ _ (w.heap.size + 1) _ (fr := (0, 0)) _ rfl ?_ Tryd.underlying33 rfl infoRObs
        refine (heap_drewX (bk_set (bk_set (bk_set (bk_set (bk_set ((bk_other (by omega) 2 (.int .i64 td)).trans ((bk_other (by omega) 1 (.int .i64 st)).trans ((bk_other (by omega) 4 (.bool false)).trans ((bk_other (by omega) 0 (.int .i64 cd)).trans ((bk_other (by omega) 3 (.slice ao ln cp)).trans (H1.out.1.b1)))))) 0 (.int .i64 cd)) 1 (.int .i64 st)) 2 (.int .i64 td)) 3 (.slice ao ln cp)) 4 (.bool false))).trans ?_
        rfl
      · have m0 := owns_mono H1.out.2.2.2.2.2.2.2 (base' := w.heap.size + 3) H0.out.2.2.2.2
        refine ⟨_, by rw [← H1.out.2.2.2.2.2.2.1, ← H1.out.2.2.2.1, ← H1.out.2.2.2.2.1, ← H1.out.2.2.2.2.2.1], owns_mono (owns_drewX (owns_set8 (i := 4) (u := (.bool false)) (owns_set8 (i := 3) (u := (.slice ao ln cp)) (owns_set8 (i := 2) (u := (.int .i64 td)) (owns_set8 (i := 1) (u := (.int .i64 st)) (owns_set8 (i := 0) (u := (.int .i64 cd)) (owns_set8 (i := 2) (u := (.int .i64 td)) (owns_set8 (i := 1) (u := (.int .i64 st)) (owns_set8 (i := 4) (u := (.bool false)) (owns_set8 (i := 0) (u := (.int .i64 cd)) (owns_set8 (i := 3) (u := (.slice ao ln cp)) (m0) (g := w.heap.size + 2) (by omega)) (g := w.heap.size + 2) (by omega)) (g := w.heap.size + 2) (by omega)) (g := w.heap.size + 2) (by omega)) (g := w.heap.size + 2) (by omega)) (g := w.heap.size + 1) (by omega)) (g := w.heap.size + 1) (by omega)) (g := w.heap.size + 1) (by omega)) (g := w.heap.size + 1) (by omega)) (g := w.heap.size + 1) (by omega))) (by omega), (((((((((((H1.out.2.1).setN (w.heap.size + 2) 3 (.slice ao ln cp) (by omega)).setN (w.heap.size + 2) 0 (.int .i64 cd) (by omega)).setN (w.heap.size + 2) 4 (.bool false) (by omega)).setN (w.heap.size + 2) 1 (.int .i64 st) (by omega)).setN (w.heap.size + 2) 2 (.int .i64 td) (by omega)).setN (w.heap.size + 1) 0 (.int .i64 cd) (by omega)).setN (w.heap.size + 1) 1 (.int .i64 st) (by omega)).setN (w.heap.size + 1) 2 (.int .i64 td) (by omega)).setN (w.heap.size + 1) 3 (.slice ao ln cp) (by omega)).setN (w.heap.size + 1) 4 (.bool false) (by omega)).drewX, ((((((((((((Chg.of_below H0.out.2.1).trans H1.out.2.2.1).setN (w.heap.size + 2) 3 (.slice ao ln cp) (by omega)).setN (w.heap.size + 2) 0 (.int .i64 cd) (by omega)).setN (w.heap.size + 2) 4 (.bool false) (by omega)).setN (w.heap.size + 2) 1 (.int .i64 st) (by omega)).setN (w.heap.size + 2) 2 (.int .i64 td) (by omega)).setN (w.heap.size + 1) 0 (.int .i64 cd) (by omega)).setN (w.heap.size + 1) 1 (.int .i64 st) (by omega)).setN (w.heap.size + 1) 2 (.int .i64 td) (by omega)).setN (w.heap.size + 1) 3 (.slice ao ln cp) (by omega)).setN (w.heap.size + 1) 4 (.bool false) (by omega)).drewX⟩
end Go.Proofs.YtgifbpongpbjaaaDoor
