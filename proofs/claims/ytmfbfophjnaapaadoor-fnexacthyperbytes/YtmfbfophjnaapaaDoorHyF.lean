import Derived.Test.YtmfbfophjnaapaaDoorHyE
import Derived.Deep.RegionWith
namespace Go.Proofs.YtmfbfophjnaapaaDoor
open Go.RowKit
set_option linter.unusedVariables false

set_option maxHeartbeats 2000000 in
theorem toHF (f : HF) (d s : Value) (w : World) (hd : Row w .u8 d f.d) (h : GRow 2 w s (SSetting.L f.s)) (hn : f.d.length ≤ 1048576) (hm : f.s.length ≤ 1048576) :
    Calls Tryd.prog 6 #[hV f d s] w fun e w' => ∃ r q B, e = .returned (hV f r q) ∧ w'.ownsRow w.heap.size 5 1 r f.d.length (f.d.map (Value.int .u8)) ∧ w.heap.size ≤ B ∧ (∀ k, r.ownBlock = some k → k < B) ∧ GOwns 54 2 w' B q (SSetting.L f.s) ∧ Below w.heap.size w w' := by
  have hform := srow_form h
  have hdorm := hd.form
  obtain ⟨k, a, D, S⟩ := f
  unfold hV
  simp only at h hd hn hm hform hdorm ⊢
  obtain ⟨k0, k1, k2⟩ := bk_new3 w (.cells #[.int .i64 k, .int .i64 a, d, s] 25) (.cells #[.int .i64 0, .int .i64 0, .slice none 0 0, .slice none 0 0] 31) (.cells #[.int .i64 k, .int .i64 a, .slice none 0 0, .slice none 0 0] 31)
  obtain ⟨W, eW⟩ : ∃ W, W = ((w.alloc (.cells #[.int .i64 k, .int .i64 a, d, s] 25)).alloc (.cells #[.int .i64 0, .int .i64 0, .slice none 0 0, .slice none 0 0] 31)).alloc (.cells #[.int .i64 k, .int .i64 a, .slice none 0 0, .slice none 0 0] 31) := ⟨_, rfl⟩
  have bW : Below w.heap.size w W := by rw [eW]; exact (((Below.refl _ _).alloc (Nat.le_refl _) _).alloc (by simp) _).alloc (by simp <;> omega) _
  have zW : W.heap.size = w.heap.size + 3 := by rw [eW]; simp
  rw [← eW] at k0 k1 k2
  have C := toBytes d D W (hd.below bW) (by omega)
  have C2 : ∀ u, Below w.heap.size w u → _ := fun u hu => toSettingS s S u (h.below hu) hm
  have H : Hid _ := And.intro k0 (And.intro k1 (And.intro k2 (And.intro bW (And.intro zW (And.intro C C2)))))
  rw [eW] at H
  obtain ⟨ao, cp, rfl⟩ := hform
  obtain ⟨bo, cd, rfl⟩ := hdorm
  obtain ⟨n, en⟩ : ∃ n, n = D.length := ⟨_, rfl⟩
  obtain ⟨m, em⟩ : ∃ m, m = S.length := ⟨_, rfl⟩
  rw [← en, ← em] at H ⊢
  have EN : Hid _ := And.intro en em
  clear k0 k1 k2 bW zW C C2 eW h hd hn hm en em
  clear W
  go_enter Tryd.func6, Tryd.ntmps6
  go_wp2_with fail
  go_at_call 19
  refine H.out.2.2.2.2.2.1.mono ?_
  rintro e w1 ⟨r, rfl, o1, b1⟩
  have q0 := (b1.block w.heap.size (by have := H.out.2.2.2.2.1; omega)).trans H.out.1
  have q1 := (b1.block (w.heap.size + 1) (by have := H.out.2.2.2.2.1; omega)).trans H.out.2.1
  have q2 := (b1.block (w.heap.size + 2) (by have := H.out.2.2.2.2.1; omega)).trans H.out.2.2.1
  obtain ⟨ra, rc, er⟩ : ∃ ra rc, r = .slice ra n rc := by obtain ⟨x, y, e⟩ := (row_of_owns o1).form; rw [← EN.out.1] at e; exact ⟨x, y, e⟩
  subst er
  have lt2 : w.heap.size + 2 < w1.heap.size := (Array.getElem?_eq_some_iff.1 q2).1
  have bb := H.out.2.2.2.1.trans (b1.mono H.out.2.2.2.1.size)
  have s2 : w1.cell? ⟨w.heap.size + 2, 2, none⟩ = some (.slice none 0 0) := by rw [bk_cell q2]; rfl
  have f2 : w1.frozen? ⟨w.heap.size + 2, 2, none⟩ = false := bk_free q2 2
  have x3 : w1.cell? ⟨w.heap.size, 3, none⟩ = some (.slice ao m cp) := by rw [bk_cell q0]; rfl
  have o1' := own_setH (g := w.heap.size + 2) (i := 2) (u := .slice ra n rc) (owns_mono (base' := w.heap.size + 3) o1 (by rw [H.out.2.2.2.2.1]; exact Nat.le_refl _)) (by omega)
  have q0' : (w1.setCell ⟨w.heap.size + 2, 2, none⟩ (.slice ra n rc)).heap[w.heap.size]? = _ := (bk_other (by omega) 2 (.slice ra n rc)).trans q0
  have q1' : (w1.setCell ⟨w.heap.size + 2, 2, none⟩ (.slice ra n rc)).heap[w.heap.size + 1]? = _ := (bk_other (by omega) 2 (.slice ra n rc)).trans q1
  have q2' : (w1.setCell ⟨w.heap.size + 2, 2, none⟩ (.slice ra n rc)).heap[w.heap.size + 2]? = some (.cells #[.int .i64 k, .int .i64 a, .slice ra n rc, .slice none 0 0] 31 (0, 0)) := (bk_set q2 2 _).trans rfl
  have bb' : Below w.heap.size w (w1.setCell ⟨w.heap.size + 2, 2, none⟩ (.slice ra n rc)) := bb.setCell (by simp <;> omega) _
  have x3' : (w1.setCell ⟨w.heap.size + 2, 2, none⟩ (.slice ra n rc)).cell? ⟨w.heap.size, 3, none⟩ = some (.slice ao m cp) := by rw [bk_cell q0']; rfl
  have hlow : ∀ j, (Value.slice ra n rc).ownBlock = some j → j < (w1.setCell ⟨w.heap.size + 2, 2, none⟩ (.slice ra n rc)).heap.size := fun j hj => (o1'.lt j hj).2
  have lt3 : w.heap.size + 2 < (w1.setCell ⟨w.heap.size + 2, 2, none⟩ (.slice ra n rc)).heap.size := (Array.getElem?_eq_some_iff.1 q2').1
  have H1 : Hid _ := And.intro o1' (And.intro q1' (And.intro q2' (And.intro bb' (And.intro hlow lt3))))
  clear q0 q1 q2 o1 b1 bb o1' q0' q1' q2' bb' hlow lt3
  go_wp2_with fail
  go_at_call 20
  refine (H.out.2.2.2.2.2.2 _ H1.out.2.2.2.1).mono ?_
  rintro e w2 ⟨q, rfl, o2, b2⟩
  obtain ⟨qa, qc, eq⟩ : ∃ qa qc, q = .slice qa m qc := by obtain ⟨x, y, e⟩ := srow_form o2.row; rw [← EN.out.2] at e; exact ⟨x, y, e⟩
  subst eq
  have p1 := (b2.block (w.heap.size + 1) (by have := H1.out.2.2.2.2.2; omega)).trans H1.out.2.1
  have p2 := (b2.block (w.heap.size + 2) H1.out.2.2.2.2.2).trans H1.out.2.2.1
  have s0 : w2.cell? ⟨w.heap.size + 2, 0, none⟩ = some (.int .i64 k) := by rw [bk_cell p2]; rfl
  have s1 : w2.cell? ⟨w.heap.size + 2, 1, none⟩ = some (.int .i64 a) := by rw [bk_cell p2]; rfl
  have s2' : w2.cell? ⟨w.heap.size + 2, 2, none⟩ = some (.slice ra n rc) := by rw [bk_cell p2]; rfl
  have s3 : w2.cell? ⟨w.heap.size + 2, 3, none⟩ = some (.slice none 0 0) := by rw [bk_cell p2]; rfl
  have f3 : w2.frozen? ⟨w.heap.size + 2, 3, none⟩ = false := bk_free p2 3
  have y0 : w2.cell? ⟨w.heap.size + 1, 0, none⟩ = some (.int .i64 0) := by rw [bk_cell p1]; rfl
  have y1 : w2.cell? ⟨w.heap.size + 1, 1, none⟩ = some (.int .i64 0) := by rw [bk_cell p1]; rfl
  have y2 : w2.cell? ⟨w.heap.size + 1, 2, none⟩ = some (.slice none 0 0) := by rw [bk_cell p1]; rfl
  have y3 : w2.cell? ⟨w.heap.size + 1, 3, none⟩ = some (.slice none 0 0) := by rw [bk_cell p1]; rfl
  have g0 : w2.frozen? ⟨w.heap.size + 1, 0, none⟩ = false := bk_free p1 0
  have g1 : w2.frozen? ⟨w.heap.size + 1, 1, none⟩ = false := bk_free p1 1
  have g2 : w2.frozen? ⟨w.heap.size + 1, 2, none⟩ = false := bk_free p1 2
  have g3 : w2.frozen? ⟨w.heap.size + 1, 3, none⟩ = false := bk_free p1 3
  have H2 : Hid _ := And.intro p1 (And.intro o2 (And.intro (owns_below H1.out.1 b2) (H1.out.2.2.2.1.trans (b2.mono H1.out.2.2.2.1.size))))
  clear p1 p2 o2 b2 s2 f2 x3 x3' lt2
  go_wp2
  try simp only [Exit.inBlock, Exit.then]
  refine bodyPost_ret (v := .agg #[.int .i64 k, .int .i64 a, .slice ra n rc, .slice qa m qc]) ?_ rfl ?_
  · refine results_cell_row (t := 31) rfl _ _ (w.heap.size + 1) _ (fr := (0, 0)) _ rfl ?_ Tryd.underlying31 rfl infoHF
    rw [bk_set (bk_set (bk_set (bk_set ((bk_other (by omega) 3 _).trans H2.out.1) 0 _) 1 _) 2 _) 3 _]
    rfl
  · have hl := H1.out.2.2.2.2.2
    refine ⟨_, _, (w1.setCell ⟨w.heap.size + 2, 2, none⟩ (.slice ra n rc)).heap.size, rfl, ?_, by omega, H1.out.2.2.2.2.1, ?_, ?_⟩
    · exact owns_mono (own_setH (own_setH (own_setH (own_setH (own_setH H2.out.2.2.1 (g := w.heap.size + 2) (by omega)) (g := w.heap.size + 1) (by omega)) (g := w.heap.size + 1) (by omega)) (g := w.heap.size + 1) (by omega)) (g := w.heap.size + 1) (by omega)) (by omega)
    · exact gown_setH (gown_setH (gown_setH (gown_setH (gown_setH H2.out.2.1 (g := w.heap.size + 2) (by omega)) (g := w.heap.size + 1) (by omega)) (g := w.heap.size + 1) (by omega)) (g := w.heap.size + 1) (by omega)) (g := w.heap.size + 1) (by omega)
    · exact ((((H2.out.2.2.2.setCell (by simp <;> omega) _).setCell (by simp <;> omega) _).setCell (by simp <;> omega) _).setCell (by simp <;> omega) _).setCell (by simp <;> omega) _
end Go.Proofs.YtmfbfophjnaapaaDoor
