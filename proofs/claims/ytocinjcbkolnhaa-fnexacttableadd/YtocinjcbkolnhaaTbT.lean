import Derived.Test.YtocinjcbkolnhaaTbZ
import Derived.Test.YtocinjcbkolnhaaBlocks
import Derived.Laws.Rows
namespace Go.Proofs.Ytocinjcbkolnhaa
open Go.RowKit
set_option linter.unusedVariables false

theorem infoTab : (Try.prog.info? 31).map (·.size) = some 4 := by kernel_rfl
theorem gown_set {T : TypeId} {K g i base : Nat} {wx : World} {u v : Value} {L : List (List Value)} (h : GOwns T K wx base v L) (hb : g < base) : GOwns T K (wx.setCell ⟨g, i, none⟩ u) base v L :=
  GOwns.only (Only.setCell (w := wx) ⟨g, i, none⟩ u) h (fun k hk e => by obtain ⟨zs, ho, _⟩ := h; have := (ho.lt k hk).1; have := Option.some.inj e; simp only at this; omega)
set_option maxHeartbeats 2000000 in
theorem toTab (t : TB) (s : Value) (w : World) (h : GRow 2 w s (SField.L t.es)) (hn : t.es.length ≤ 1048576) :
    Calls Try.prog 7 #[tV t s] w fun e w' => ∃ r, e = .returned (tV t r) ∧ GOwns 35 2 w' w.heap.size r (SField.L t.es) ∧ Below w.heap.size w w' := by
  have hform := frow_form h
  obtain ⟨mo, ca, ad, es⟩ := t
  unfold tV
  simp only at h hn hform ⊢
  obtain ⟨k0, k1, k2⟩ := bk_new3 w (.cells #[.int .i64 mo, .int .i64 ca, .int .i64 ad, s] 24) (.cells #[.int .i64 0, .int .i64 0, .int .i64 0, .slice none 0 0] 31) (.cells #[.int .i64 mo, .int .i64 ca, .int .i64 ad, .slice none 0 0] 31)
  obtain ⟨W, eW⟩ : ∃ W, W = ((w.alloc (.cells #[.int .i64 mo, .int .i64 ca, .int .i64 ad, s] 24)).alloc (.cells #[.int .i64 0, .int .i64 0, .int .i64 0, .slice none 0 0] 31)).alloc (.cells #[.int .i64 mo, .int .i64 ca, .int .i64 ad, .slice none 0 0] 31) := ⟨_, rfl⟩
  have bW : Below w.heap.size w W := by rw [eW]; exact (((Below.refl _ _).alloc (Nat.le_refl _) _).alloc (by simp) _).alloc (by simp <;> omega) _
  have zW : W.heap.size = w.heap.size + 3 := by rw [eW]; simp
  rw [← eW] at k0 k1 k2
  have C := toFieldS s es W (h.below bW) hn
  have H : Hid _ := And.intro k0 (And.intro k1 (And.intro k2 (And.intro bW (And.intro zW C))))
  rw [eW] at H
  obtain ⟨ao, cp, rfl⟩ := hform
  obtain ⟨n, en⟩ : ∃ n, n = es.length := ⟨_, rfl⟩
  rw [← en] at H ⊢
  clear k0 k1 k2 bW zW C eW h hn en
  clear W
  go_enter Try.func7, Try.ntmps7
  go_wp2_with fail
  go_at_call 18
  refine H.out.2.2.2.2.2.mono ?_
  rintro e w1 ⟨r, rfl, o1, b1⟩
  have q0 := (b1.block w.heap.size (by have := H.out.2.2.2.2.1; omega)).trans H.out.1
  have q1 := (b1.block (w.heap.size + 1) (by have := H.out.2.2.2.2.1; omega)).trans H.out.2.1
  have q2 := (b1.block (w.heap.size + 2) (by have := H.out.2.2.2.2.1; omega)).trans H.out.2.2.1
  obtain ⟨ra, rc, er⟩ := o1.row.form
  rw [List.length_map] at er
  obtain ⟨m, em⟩ : ∃ m, m = es.length := ⟨_, rfl⟩
  rw [← em] at er
  subst er
  have lt2 : w.heap.size + 2 < w1.heap.size := (Array.getElem?_eq_some_iff.1 q2).1
  have s0 : w1.cell? ⟨w.heap.size + 2, 0, none⟩ = some (.int .i64 mo) := by rw [bk_cell q2]; rfl
  have s1 : w1.cell? ⟨w.heap.size + 2, 1, none⟩ = some (.int .i64 ca) := by rw [bk_cell q2]; rfl
  have s2 : w1.cell? ⟨w.heap.size + 2, 2, none⟩ = some (.int .i64 ad) := by rw [bk_cell q2]; rfl
  have s3 : w1.cell? ⟨w.heap.size + 2, 3, none⟩ = some (.slice none 0 0) := by rw [bk_cell q2]; rfl
  have f3 : w1.frozen? ⟨w.heap.size + 2, 3, none⟩ = false := bk_free q2 3
  have y0 : w1.cell? ⟨w.heap.size + 1, 0, none⟩ = some (.int .i64 0) := by rw [bk_cell q1]; rfl
  have y1 : w1.cell? ⟨w.heap.size + 1, 1, none⟩ = some (.int .i64 0) := by rw [bk_cell q1]; rfl
  have y2 : w1.cell? ⟨w.heap.size + 1, 2, none⟩ = some (.int .i64 0) := by rw [bk_cell q1]; rfl
  have y3 : w1.cell? ⟨w.heap.size + 1, 3, none⟩ = some (.slice none 0 0) := by rw [bk_cell q1]; rfl
  have g0 : w1.frozen? ⟨w.heap.size + 1, 0, none⟩ = false := bk_free q1 0
  have g1 : w1.frozen? ⟨w.heap.size + 1, 1, none⟩ = false := bk_free q1 1
  have g2 : w1.frozen? ⟨w.heap.size + 1, 2, none⟩ = false := bk_free q1 2
  have g3 : w1.frozen? ⟨w.heap.size + 1, 3, none⟩ = false := bk_free q1 3
  have H1 : Hid _ := And.intro q1 (And.intro (o1.mono (base' := w.heap.size + 3) (by rw [H.out.2.2.2.2.1]; exact Nat.le_refl _)) (H.out.2.2.2.1.trans (b1.mono H.out.2.2.2.1.size)))
  clear q0 q1 q2 o1 b1 em
  go_wp2
  try simp only [Exit.inBlock, Exit.then]
  refine bodyPost_ret (v := .agg #[.int .i64 mo, .int .i64 ca, .int .i64 ad, .slice ra m rc]) ?_ rfl ?_
  · refine results_cell_row (t := 31) rfl _ _ (w.heap.size + 1) _ (fr := (0, 0)) _ rfl ?_ Try.underlying31 rfl infoTab
    rw [bk_set (bk_set (bk_set (bk_set ((bk_other (by omega) 3 _).trans H1.out.1) 0 _) 1 _) 2 _) 3 _]
    rfl
  · refine ⟨_, rfl, ?_, ?_⟩
    · exact (gown_set (gown_set (gown_set (gown_set (gown_set H1.out.2.1 (g := w.heap.size + 2) (by omega)) (g := w.heap.size + 1) (by omega)) (g := w.heap.size + 1) (by omega)) (g := w.heap.size + 1) (by omega)) (g := w.heap.size + 1) (by omega)).mono (by omega)
    · exact ((((H1.out.2.2.setCell (by simp <;> omega) _).setCell (by simp <;> omega) _).setCell (by simp <;> omega) _).setCell (by simp <;> omega) _).setCell (by simp <;> omega) _
theorem eqTab (t : TB) (s s' : Value) (w : World) (h : GRow 2 w s (SField.L t.es)) (h' : GRow 2 w s' (SField.L t.es)) (hn : t.es.length ≤ 1048576) :
    Calls Try.prog 10 #[tV t s, tV t s'] w fun e w' => e = .returned (.bool true) ∧ Below w.heap.size w w' := by
  have hform := frow_form h
  have hform' := frow_form h'
  obtain ⟨mo, ca, ad, es⟩ := t
  unfold tV
  simp only at h h' hn hform hform' ⊢
  have b0 : Below w.heap.size w ((w.alloc (.cells #[.int .i64 mo, .int .i64 ca, .int .i64 ad, s] 31)).alloc (.cells #[.int .i64 mo, .int .i64 ca, .int .i64 ad, s'] 31)) := ((Below.refl _ _).alloc (Nat.le_refl _) _).alloc (by simp) _
  have C := eqFieldS s s' es _ (h.below b0) (h'.below b0) hn
  have H : Hid _ := And.intro C b0
  obtain ⟨ao, cp, rfl⟩ := hform
  obtain ⟨ao', cp', rfl⟩ := hform'
  obtain ⟨n, en⟩ : ∃ n, n = es.length := ⟨_, rfl⟩
  rw [← en] at H ⊢
  clear C b0 h h' hn en
  have e0 : (mo != mo) = false := by simp
  have e1 : (ca != ca) = false := by simp
  have e2 : (ad != ad) = false := by simp
  go_enter Try.func10, Try.ntmps10
  go_wp2_with (go_at_call 22; refine H.out.1.mono ?_; rintro e w2 ⟨rfl, b2⟩; have H2 : Hid _ := And.intro (H.out.2.trans (b2.mono H.out.2.size)) True.intro; clear b2)
  go_ret
  exact ⟨rfl, H2.out.1⟩
end Go.Proofs.Ytocinjcbkolnhaa
