import Derived.Test.YtmaoajadcgoopaaEnT
namespace Go.Proofs.Ytmaoajadcgoopaa
open Go.RowKit
set_option linter.unusedVariables false

set_option maxHeartbeats 4000000 in
theorem toEnc (e : EN) (s q : Value) (w : World) (hs : GRow 2 w s (SField.L e.t.es)) (hq : GRow 3 w q (SRef.L e.op)) (hn : e.t.es.length ≤ 1048576) (hm : e.op.length ≤ 1048576) :
    Calls Try.prog 6 #[eV e s q] w fun x w' => ∃ r r', x = .returned (eV e r r') ∧ GOwns 53 2 w' w.heap.size r (SField.L e.t.es) ∧ GOwns 43 3 w' w.heap.size r' (SRef.L e.op) ∧ Below w.heap.size w w' := by
  have hform := frow_form hs
  have hformq := rrow_form hq
  obtain ⟨t, kn, bl, op⟩ := e
  have DT : ∀ u, Below w.heap.size w u → Calls Try.prog 13 #[tV t s] u fun e w' => ∃ r, e = .returned (tV t r) ∧ GOwns 53 2 w' u.heap.size r (SField.L t.es) ∧ Below u.heap.size u w' := fun u hb => toTab t s u (hs.below hb) hn
  have DR : ∀ u, Below w.heap.size w u → Calls Try.prog 14 #[q] u fun e w' => ∃ r, e = .returned r ∧ GOwns 43 3 w' u.heap.size r (SRef.L op) ∧ Below u.heap.size u w' := fun u hb => toRefS q op u (hq.below hb) hm
  obtain ⟨mo, ca, ad, es⟩ := t
  unfold eV tV at *
  simp only at *
  obtain ⟨k0, k1, k2⟩ := bk_new3 w (.cells #[.int .i64 mo, .int .i64 ca, .int .i64 ad, s, .int .i64 kn, .int .i64 bl, q] 27) (.cells #[.int .i64 0, .int .i64 0, .int .i64 0, .slice none 0 0, .int .i64 0, .int .i64 0, .slice none 0 0] 35) (.cells #[.int .i64 0, .int .i64 0, .int .i64 0, .slice none 0 0, .int .i64 0, .int .i64 0, .slice none 0 0] 35)
  obtain ⟨W, eW⟩ : ∃ W, W = ((w.alloc (.cells #[.int .i64 mo, .int .i64 ca, .int .i64 ad, s, .int .i64 kn, .int .i64 bl, q] 27)).alloc (.cells #[.int .i64 0, .int .i64 0, .int .i64 0, .slice none 0 0, .int .i64 0, .int .i64 0, .slice none 0 0] 35)).alloc (.cells #[.int .i64 0, .int .i64 0, .int .i64 0, .slice none 0 0, .int .i64 0, .int .i64 0, .slice none 0 0] 35) := ⟨_, rfl⟩
  have bW : Below w.heap.size w W := by rw [eW]; exact (((Below.refl _ _).alloc (Nat.le_refl _) _).alloc (by simp) _).alloc (by simp <;> omega) _
  have zW : W.heap.size = w.heap.size + 3 := by rw [eW]; simp
  rw [← eW] at k0 k1 k2
  have H : Hid _ := And.intro k0 (And.intro k1 (And.intro k2 (And.intro bW (And.intro zW (And.intro DT DR)))))
  rw [eW] at H
  clear k0 k1 k2 bW zW eW hs hq hn hm DT DR
  clear W
  obtain ⟨ao, cp, rfl⟩ := hform
  obtain ⟨qa, qc, rfl⟩ := hformq
  obtain ⟨n, en⟩ : ∃ n, n = es.length := ⟨_, rfl⟩
  obtain ⟨m, em⟩ : ∃ m, m = op.length := ⟨_, rfl⟩
  have FN : Hid (∀ (u : World) (b : Nat) (r : Value), GOwns 53 2 u b r (SField.L es) → ∃ ao cp, r = .slice ao n cp) := fun u b r ho => by rw [en]; exact frow_form ho.row
  have FM : Hid (∀ (u : World) (b : Nat) (r : Value), GOwns 43 3 u b r (SRef.L op) → ∃ ao cp, r = .slice ao m cp) := fun u b r ho => by rw [em]; exact rrow_form ho.row
  rw [← en, ← em] at H ⊢
  clear en em
  go_enter Try.func6, Try.ntmps6
  go_wp2_with fail
  go_at_call 13
  refine (H.out.2.2.2.2.2.1 _ H.out.2.2.2.1).mono ?_
  rintro x w1 ⟨r, rfl, o1, b1⟩
  obtain ⟨ra, rc, er⟩ := FN.out _ _ _ o1
  subst er
  have q0 := (b1.block w.heap.size (by have := H.out.2.2.2.2.1; omega)).trans H.out.1
  have q1 := (b1.block (w.heap.size + 1) (by have := H.out.2.2.2.2.1; omega)).trans H.out.2.1
  have q2 := (b1.block (w.heap.size + 2) (by have := H.out.2.2.2.2.1; omega)).trans H.out.2.2.1
  have lt2 : w.heap.size + 2 < w1.heap.size := (Array.getElem?_eq_some_iff.1 q2).1
  have s0 : w1.cell? ⟨w.heap.size + 2, 0, none⟩ = some (.int .i64 0) := by rw [bk_cell q2]; rfl
  have f0 : w1.frozen? ⟨w.heap.size + 2, 0, none⟩ = false := bk_free q2 0
  have s1 : w1.cell? ⟨w.heap.size + 2, 1, none⟩ = some (.int .i64 0) := by rw [bk_cell q2]; rfl
  have f1 : w1.frozen? ⟨w.heap.size + 2, 1, none⟩ = false := bk_free q2 1
  have s2 : w1.cell? ⟨w.heap.size + 2, 2, none⟩ = some (.int .i64 0) := by rw [bk_cell q2]; rfl
  have f2 : w1.frozen? ⟨w.heap.size + 2, 2, none⟩ = false := bk_free q2 2
  have s3 : w1.cell? ⟨w.heap.size + 2, 3, none⟩ = some (.slice none 0 0) := by rw [bk_cell q2]; rfl
  have f3 : w1.frozen? ⟨w.heap.size + 2, 3, none⟩ = false := bk_free q2 3
  have s4 : w1.cell? ⟨w.heap.size + 2, 4, none⟩ = some (.int .i64 0) := by rw [bk_cell q2]; rfl
  have f4 : w1.frozen? ⟨w.heap.size + 2, 4, none⟩ = false := bk_free q2 4
  have s5 : w1.cell? ⟨w.heap.size + 2, 5, none⟩ = some (.int .i64 0) := by rw [bk_cell q2]; rfl
  have f5 : w1.frozen? ⟨w.heap.size + 2, 5, none⟩ = false := bk_free q2 5
  have s6 : w1.cell? ⟨w.heap.size + 2, 6, none⟩ = some (.slice none 0 0) := by rw [bk_cell q2]; rfl
  have f6 : w1.frozen? ⟨w.heap.size + 2, 6, none⟩ = false := bk_free q2 6
  have p4 : w1.cell? ⟨w.heap.size, 4, none⟩ = some (.int .i64 kn) := by rw [bk_cell q0]; rfl
  have p5 : w1.cell? ⟨w.heap.size, 5, none⟩ = some (.int .i64 bl) := by rw [bk_cell q0]; rfl
  have p6 : w1.cell? ⟨w.heap.size, 6, none⟩ = some (.slice qa m qc) := by rw [bk_cell q0]; rfl
  have O1 : GOwns 53 2 w1 (w.heap.size + 3) (.slice ra n rc) (SField.L es) := o1.mono (by rw [H.out.2.2.2.2.1]; exact Nat.le_refl _)
  have B1 : Below w.heap.size w w1 := H.out.2.2.2.1.trans (b1.mono H.out.2.2.2.1.size)
  obtain ⟨W1, eW1⟩ : ∃ W1, W1 = ((((((w1.setCell ⟨w.heap.size + 2, 0, none⟩ (.int .i64 mo)).setCell ⟨w.heap.size + 2, 1, none⟩ (.int .i64 ca)).setCell ⟨w.heap.size + 2, 2, none⟩ (.int .i64 ad)).setCell ⟨w.heap.size + 2, 3, none⟩ (.slice ra n rc)).setCell ⟨w.heap.size + 2, 4, none⟩ (.int .i64 kn)).setCell ⟨w.heap.size + 2, 5, none⟩ (.int .i64 bl)) := ⟨_, rfl⟩
  have n2 : W1.heap[w.heap.size + 2]? = some (.cells #[.int .i64 mo, .int .i64 ca, .int .i64 ad, .slice ra n rc, .int .i64 kn, .int .i64 bl, .slice none 0 0] 35 (0, 0)) := by rw [eW1, (bk_set (bk_set (bk_set (bk_set (bk_set (bk_set q2 0 _) 1 _) 2 _) 3 _) 4 _) 5 _)]; rfl
  have n1 : W1.heap[w.heap.size + 1]? = some (.cells #[.int .i64 0, .int .i64 0, .int .i64 0, .slice none 0 0, .int .i64 0, .int .i64 0, .slice none 0 0] 35 (0, 0)) := by rw [eW1]; exact ((bk_other (by omega) 5 _).trans ((bk_other (by omega) 4 _).trans ((bk_other (by omega) 3 _).trans ((bk_other (by omega) 2 _).trans ((bk_other (by omega) 1 _).trans ((bk_other (by omega) 0 _).trans q1))))))
  have n3 : GOwns 53 2 W1 (w.heap.size + 3) (.slice ra n rc) (SField.L es) := by rw [eW1]; exact (gown_set (gown_set (gown_set (gown_set (gown_set (gown_set O1 (g := w.heap.size + 2) (by omega)) (g := w.heap.size + 2) (by omega)) (g := w.heap.size + 2) (by omega)) (g := w.heap.size + 2) (by omega)) (g := w.heap.size + 2) (by omega)) (g := w.heap.size + 2) (by omega))
  have n4 : Below w.heap.size w W1 := by rw [eW1]; exact ((((((B1.setCell (p := ⟨w.heap.size + 2, 0, none⟩) (by show w.heap.size ≤ w.heap.size + 2; omega) _).setCell (p := ⟨w.heap.size + 2, 1, none⟩) (by show w.heap.size ≤ w.heap.size + 2; omega) _).setCell (p := ⟨w.heap.size + 2, 2, none⟩) (by show w.heap.size ≤ w.heap.size + 2; omega) _).setCell (p := ⟨w.heap.size + 2, 3, none⟩) (by show w.heap.size ≤ w.heap.size + 2; omega) _).setCell (p := ⟨w.heap.size + 2, 4, none⟩) (by show w.heap.size ≤ w.heap.size + 2; omega) _).setCell (p := ⟨w.heap.size + 2, 5, none⟩) (by show w.heap.size ≤ w.heap.size + 2; omega) _)
  have n5 : w.heap.size + 3 ≤ W1.heap.size := by rw [eW1]; simp [World.setCell]; omega
  have H1 : Hid _ := And.intro n1 (And.intro n2 (And.intro n3 (And.intro n4 n5)))
  rw [eW1] at H1
  clear q0 q1 q2 o1 b1 O1 B1 n1 n2 n3 n4 n5 eW1
  clear W1
  go_wp2_with fail
  go_at_call 14
  refine (H.out.2.2.2.2.2.2 _ H1.out.2.2.2.1).mono ?_
  rintro x w2 ⟨r', rfl, o2, b2⟩
  obtain ⟨ra', rc', er'⟩ := FM.out _ _ _ o2
  subst er'
  have u1 := (b2.block (w.heap.size + 1) (by have := H1.out.2.2.2.2; omega)).trans H1.out.1
  have u2 := (b2.block (w.heap.size + 2) (by have := H1.out.2.2.2.2; omega)).trans H1.out.2.1
  have lt3 : w.heap.size + 2 < w2.heap.size := (Array.getElem?_eq_some_iff.1 u2).1
  clear s0 f0 s1 f1 s2 f2 s3 f3 s4 f4 s5 f5 s6 f6 p4 p5 p6
  have s0 : w2.cell? ⟨w.heap.size + 2, 0, none⟩ = some (.int .i64 mo) := by rw [bk_cell u2]; rfl
  have y0 : w2.cell? ⟨w.heap.size + 1, 0, none⟩ = some (.int .i64 0) := by rw [bk_cell u1]; rfl
  have g0 : w2.frozen? ⟨w.heap.size + 1, 0, none⟩ = false := bk_free u1 0
  have s1 : w2.cell? ⟨w.heap.size + 2, 1, none⟩ = some (.int .i64 ca) := by rw [bk_cell u2]; rfl
  have y1 : w2.cell? ⟨w.heap.size + 1, 1, none⟩ = some (.int .i64 0) := by rw [bk_cell u1]; rfl
  have g1 : w2.frozen? ⟨w.heap.size + 1, 1, none⟩ = false := bk_free u1 1
  have s2 : w2.cell? ⟨w.heap.size + 2, 2, none⟩ = some (.int .i64 ad) := by rw [bk_cell u2]; rfl
  have y2 : w2.cell? ⟨w.heap.size + 1, 2, none⟩ = some (.int .i64 0) := by rw [bk_cell u1]; rfl
  have g2 : w2.frozen? ⟨w.heap.size + 1, 2, none⟩ = false := bk_free u1 2
  have s3 : w2.cell? ⟨w.heap.size + 2, 3, none⟩ = some (.slice ra n rc) := by rw [bk_cell u2]; rfl
  have y3 : w2.cell? ⟨w.heap.size + 1, 3, none⟩ = some (.slice none 0 0) := by rw [bk_cell u1]; rfl
  have g3 : w2.frozen? ⟨w.heap.size + 1, 3, none⟩ = false := bk_free u1 3
  have s4 : w2.cell? ⟨w.heap.size + 2, 4, none⟩ = some (.int .i64 kn) := by rw [bk_cell u2]; rfl
  have y4 : w2.cell? ⟨w.heap.size + 1, 4, none⟩ = some (.int .i64 0) := by rw [bk_cell u1]; rfl
  have g4 : w2.frozen? ⟨w.heap.size + 1, 4, none⟩ = false := bk_free u1 4
  have s5 : w2.cell? ⟨w.heap.size + 2, 5, none⟩ = some (.int .i64 bl) := by rw [bk_cell u2]; rfl
  have y5 : w2.cell? ⟨w.heap.size + 1, 5, none⟩ = some (.int .i64 0) := by rw [bk_cell u1]; rfl
  have g5 : w2.frozen? ⟨w.heap.size + 1, 5, none⟩ = false := bk_free u1 5
  have s6 : w2.cell? ⟨w.heap.size + 2, 6, none⟩ = some (.slice none 0 0) := by rw [bk_cell u2]; rfl
  have y6 : w2.cell? ⟨w.heap.size + 1, 6, none⟩ = some (.slice none 0 0) := by rw [bk_cell u1]; rfl
  have g6 : w2.frozen? ⟨w.heap.size + 1, 6, none⟩ = false := bk_free u1 6
  have f6 : w2.frozen? ⟨w.heap.size + 2, 6, none⟩ = false := bk_free u2 6
  have H2 : Hid _ := And.intro u1 (And.intro (H1.out.2.2.1.below b2) (And.intro (o2.mono (base' := w.heap.size + 3) H1.out.2.2.2.2) (H1.out.2.2.2.1.trans (b2.mono H1.out.2.2.2.1.size))))
  clear u1 u2 o2 b2
  go_wp2
  try simp only [Exit.inBlock, Exit.then]
  refine bodyPost_ret (v := .agg #[.int .i64 mo, .int .i64 ca, .int .i64 ad, .slice ra n rc, .int .i64 kn, .int .i64 bl, .slice ra' m rc']) ?_ rfl ?_
  · refine results_cell_row (t := 35) rfl _ _ (w.heap.size + 1) _ (fr := (0, 0)) _ rfl ?_ Try.underlying35 rfl infoEnc
    rw [(bk_set (bk_set (bk_set (bk_set (bk_set (bk_set (bk_set ((bk_other (by omega) 6 _).trans H2.out.1) 0 _) 1 _) 2 _) 3 _) 4 _) 5 _) 6 _)]
    rfl
  · refine ⟨_, _, rfl, ?_, ?_, ?_⟩
    · exact ((gown_set (gown_set (gown_set (gown_set (gown_set (gown_set (gown_set (gown_set H2.out.2.1 (g := w.heap.size + 2) (by omega)) (g := w.heap.size + 1) (by omega)) (g := w.heap.size + 1) (by omega)) (g := w.heap.size + 1) (by omega)) (g := w.heap.size + 1) (by omega)) (g := w.heap.size + 1) (by omega)) (g := w.heap.size + 1) (by omega)) (g := w.heap.size + 1) (by omega))).mono (by omega)
    · exact ((gown_set (gown_set (gown_set (gown_set (gown_set (gown_set (gown_set (gown_set H2.out.2.2.1 (g := w.heap.size + 2) (by omega)) (g := w.heap.size + 1) (by omega)) (g := w.heap.size + 1) (by omega)) (g := w.heap.size + 1) (by omega)) (g := w.heap.size + 1) (by omega)) (g := w.heap.size + 1) (by omega)) (g := w.heap.size + 1) (by omega)) (g := w.heap.size + 1) (by omega))).mono (by omega)
    · exact ((((((((H2.out.2.2.2.setCell (p := ⟨w.heap.size + 2, 6, none⟩) (by show w.heap.size ≤ w.heap.size + 2; omega) _).setCell (p := ⟨w.heap.size + 1, 0, none⟩) (by show w.heap.size ≤ w.heap.size + 1; omega) _).setCell (p := ⟨w.heap.size + 1, 1, none⟩) (by show w.heap.size ≤ w.heap.size + 1; omega) _).setCell (p := ⟨w.heap.size + 1, 2, none⟩) (by show w.heap.size ≤ w.heap.size + 1; omega) _).setCell (p := ⟨w.heap.size + 1, 3, none⟩) (by show w.heap.size ≤ w.heap.size + 1; omega) _).setCell (p := ⟨w.heap.size + 1, 4, none⟩) (by show w.heap.size ≤ w.heap.size + 1; omega) _).setCell (p := ⟨w.heap.size + 1, 5, none⟩) (by show w.heap.size ≤ w.heap.size + 1; omega) _).setCell (p := ⟨w.heap.size + 1, 6, none⟩) (by show w.heap.size ≤ w.heap.size + 1; omega) _)
end Go.Proofs.Ytmaoajadcgoopaa
