import Derived.Test.YteggfkekgdlecaaGreatDoorParP
import Derived.Test.YteggfkekgdlecaaGreatDoorToBytes
import Derived.Test.YteggfkekgdlecaaGreatDoorBlocks
import Derived.Laws.Rows
namespace Go.Proofs.YteggfkekgdlecaaGreatDoor
open Go.RowKit
set_option linter.unusedVariables false

/-- Parameters that is being copied: where it was laid, the answer's room, what there is of the copy. -/
structure TpAt (w wx : World) (ins outs : Array Value) : Prop where
  b0 : wx.heap[w.heap.size]? = some (.cells ins 26 (0, 0))
  b1 : wx.heap[w.heap.size + 1]? = some (.cells #[.int .i64 0, .int .i64 0, .int .i64 0, .int .i64 0, .int .i64 0, .int .i64 0, .int .i64 0, .int .i64 0, .int .i64 0, .bool false, .slice none 0 0, .slice none 0 0, .slice none 0 0] 35 (0, 0))
  b2 : wx.heap[w.heap.size + 2]? = some (.cells outs 35 (0, 0))
  bel : Below w.heap.size w wx
theorem TpAt.lt {w wx : World} {ins outs : Array Value} (h : TpAt w wx ins outs) : w.heap.size + 2 < wx.heap.size := (Array.getElem?_eq_some_iff.1 h.b2).1
theorem TpAt.called {w wx w' : World} {ins outs : Array Value} (h : TpAt w wx ins outs) (hb : Below wx.heap.size wx w') : TpAt w w' ins outs :=
  ⟨(hb.block _ (by have := h.lt; omega)).trans h.b0, (hb.block _ (by have := h.lt; omega)).trans h.b1, (hb.block _ h.lt).trans h.b2, h.bel.trans (hb.mono h.bel.size)⟩
theorem TpAt.stored {w wx : World} {ins outs : Array Value} (h : TpAt w wx ins outs) (i : Nat) (r : Value) : TpAt w (wx.setCell ⟨w.heap.size + 2, i, none⟩ r) ins (outs.setIfInBounds i r) :=
  ⟨(bk_other (by omega) i r).trans h.b0, (bk_other (by omega) i r).trans h.b1, bk_set h.b2 i r, h.bel.setCell (by show w.heap.size ≤ w.heap.size + 2; omega) _⟩
theorem tp_new (w : World) (ins outs : Array Value) : TpAt w (((w.alloc (.cells ins 26)).alloc (.cells #[.int .i64 0, .int .i64 0, .int .i64 0, .int .i64 0, .int .i64 0, .int .i64 0, .int .i64 0, .int .i64 0, .int .i64 0, .bool false, .slice none 0 0, .slice none 0 0, .slice none 0 0] 35)).alloc (.cells outs 35)) ins outs := by
  obtain ⟨h0, h1, h2⟩ := bk_new3 w (.cells ins 26) (.cells #[.int .i64 0, .int .i64 0, .int .i64 0, .int .i64 0, .int .i64 0, .int .i64 0, .int .i64 0, .int .i64 0, .int .i64 0, .bool false, .slice none 0 0, .slice none 0 0, .slice none 0 0] 35) (.cells outs 35)
  exact ⟨h0, h1, h2, (((Below.refl _ _).alloc (Nat.le_refl _) _).alloc (by simp) _).alloc (by simp <;> omega) _⟩
theorem infoPar : (Tryz.prog.info? 35).map (·.size) = some 13 := by kernel_rfl

theorem owns_cellP {wx : World} {base g n i : Nat} {u v : Value} {xs : List Value} (ho : wx.ownsRow base 5 1 v n xs) (hb : g < base) : (wx.setCell ⟨g, i, none⟩ u).ownsRow base 5 1 v n xs :=
  (Only.setCell (w := wx) ⟨g, i, none⟩ u).owns ho (fun k hk e => by have := (ho.lt k hk).1; have := Option.some.inj e; simp only at this; omega)
theorem chg_cells {w w' : World} {S : Nat → Prop} (h : Chg S w w') {B : Nat} (hB : B ≤ w.heap.size) (hs : ∀ k, S k → B ≤ k) : Below B w w' := h.below hB hs
set_option maxRecDepth 20000 in
set_option maxHeartbeats 4000000 in
theorem toPar (v : Value) (h : PP) (w : World) (hr : PPRow w v h) (hs : h.small 140737488355328) :
    Calls Tryz.prog 28 #[v] w fun e w' => ∃ r, e = .returned r ∧ PPOwns w' w.heap.size r h ∧ Below w.heap.size w w' := by
  obtain ⟨xa0, xa1, xa2, xa3, xa4, xa5, xa6, xa7, xa8, xm, xd, xs, xt⟩ := h
  obtain ⟨u0, u1, u2, rfl, p0, p1, p2⟩ := hr
  dsimp only at p0 p1 p2 ⊢
  have T0 := tp_new w #[.int .i64 xa0, .int .i64 xa1, .int .i64 xa2, .int .i64 xa3, .int .i64 xa4, .int .i64 xa5, .int .i64 xa6, .int .i64 xa7, .int .i64 xa8, .bool xm, u0, u1, u2] #[.int .i64 xa0, .int .i64 xa1, .int .i64 xa2, .int .i64 xa3, .int .i64 xa4, .int .i64 xa5, .int .i64 xa6, .int .i64 xa7, .int .i64 xa8, .bool xm, .slice none 0 0, .slice none 0 0, .slice none 0 0]
  have HP : Hid _ := And.intro p0 (And.intro p1 (And.intro p2 hs))
  have H0 : Hid _ := T0
  have Q0 : w.heap.size + 3 ≤ (((w.alloc (.cells #[.int .i64 xa0, .int .i64 xa1, .int .i64 xa2, .int .i64 xa3, .int .i64 xa4, .int .i64 xa5, .int .i64 xa6, .int .i64 xa7, .int .i64 xa8, .bool xm, u0, u1, u2] 26)).alloc (.cells #[.int .i64 0, .int .i64 0, .int .i64 0, .int .i64 0, .int .i64 0, .int .i64 0, .int .i64 0, .int .i64 0, .int .i64 0, .bool false, .slice none 0 0, .slice none 0 0, .slice none 0 0] 35)).alloc (.cells #[.int .i64 xa0, .int .i64 xa1, .int .i64 xa2, .int .i64 xa3, .int .i64 xa4, .int .i64 xa5, .int .i64 xa6, .int .i64 xa7, .int .i64 xa8, .bool xm, .slice none 0 0, .slice none 0 0, .slice none 0 0] 35)).heap.size := by simp
  clear p0 p1 p2 hs T0
  go_enter Tryz.func28, Tryz.ntmps28
  go_wp2_with fail
  go_at_call 6
  refine (toBytes u0 xd _ (HP.out.1.below (H0.out).bel) HP.out.2.2.2.1).mono ?_
  rintro e w1 ⟨r0, rfl, o0, b0⟩
  obtain ⟨ao0, cp0, hr0⟩ := (row_of_owns o0).form
  subst hr0
  have T1 := (H0.out).called b0
  have h1 : w.heap.size + 2 < w1.heap.size := T1.lt
  have s1 : w1.cell? ⟨w.heap.size + 2, 10, none⟩ = some (.slice none 0 0) := by rw [bk_cell T1.b2]; rfl
  have f1 : w1.frozen? ⟨w.heap.size + 2, 10, none⟩ = false := bk_free T1.b2 10
  have n1 : w1.cell? ⟨w.heap.size, 11, none⟩ = some u1 := by rw [bk_cell T1.b0]; rfl
  have H1 : Hid _ := And.intro (T1.stored 10 (.slice ao0 xd.length cp0)) (And.intro o0 b0)
  clear T1 o0 b0
  go_wp2_with fail
  go_at_call 6
  refine (toBytes u1 xs _ (HP.out.2.1.below (H1.out.1).bel) HP.out.2.2.2.2.1).mono ?_
  rintro e w2 ⟨r1, rfl, o1, b1⟩
  obtain ⟨ao1, cp1, hr1⟩ := (row_of_owns o1).form
  subst hr1
  have T2 := (H1.out.1).called b1
  have h2 : w.heap.size + 2 < w2.heap.size := T2.lt
  have s2 : w2.cell? ⟨w.heap.size + 2, 11, none⟩ = some (.slice none 0 0) := by rw [bk_cell T2.b2]; rfl
  have f2 : w2.frozen? ⟨w.heap.size + 2, 11, none⟩ = false := bk_free T2.b2 11
  have n2 : w2.cell? ⟨w.heap.size, 12, none⟩ = some u2 := by rw [bk_cell T2.b0]; rfl
  have H2 : Hid _ := And.intro (T2.stored 11 (.slice ao1 xs.length cp1)) (And.intro o1 b1)
  clear T2 o1 b1
  clear s1 f1 n1
  go_wp2_with fail
  go_at_call 6
  refine (toBytes u2 xt _ (HP.out.2.2.1.below (H2.out.1).bel) HP.out.2.2.2.2.2).mono ?_
  rintro e w3 ⟨r2, rfl, o2, b2⟩
  obtain ⟨ao2, cp2, hr2⟩ := (row_of_owns o2).form
  subst hr2
  have T3 := (H2.out.1).called b2
  have h3 : w.heap.size + 2 < w3.heap.size := T3.lt
  have s3 : w3.cell? ⟨w.heap.size + 2, 12, none⟩ = some (.slice none 0 0) := by rw [bk_cell T3.b2]; rfl
  have f3 : w3.frozen? ⟨w.heap.size + 2, 12, none⟩ = false := bk_free T3.b2 12
  have y0 : w3.cell? ⟨w.heap.size + 2, 0, none⟩ = some (.int .i64 xa0) := by rw [bk_cell T3.b2]; rfl
  have y1 : w3.cell? ⟨w.heap.size + 2, 1, none⟩ = some (.int .i64 xa1) := by rw [bk_cell T3.b2]; rfl
  have y2 : w3.cell? ⟨w.heap.size + 2, 2, none⟩ = some (.int .i64 xa2) := by rw [bk_cell T3.b2]; rfl
  have y3 : w3.cell? ⟨w.heap.size + 2, 3, none⟩ = some (.int .i64 xa3) := by rw [bk_cell T3.b2]; rfl
  have y4 : w3.cell? ⟨w.heap.size + 2, 4, none⟩ = some (.int .i64 xa4) := by rw [bk_cell T3.b2]; rfl
  have y5 : w3.cell? ⟨w.heap.size + 2, 5, none⟩ = some (.int .i64 xa5) := by rw [bk_cell T3.b2]; rfl
  have y6 : w3.cell? ⟨w.heap.size + 2, 6, none⟩ = some (.int .i64 xa6) := by rw [bk_cell T3.b2]; rfl
  have y7 : w3.cell? ⟨w.heap.size + 2, 7, none⟩ = some (.int .i64 xa7) := by rw [bk_cell T3.b2]; rfl
  have y8 : w3.cell? ⟨w.heap.size + 2, 8, none⟩ = some (.int .i64 xa8) := by rw [bk_cell T3.b2]; rfl
  have y9 : w3.cell? ⟨w.heap.size + 2, 9, none⟩ = some (.bool xm) := by rw [bk_cell T3.b2]; rfl
  have y10 : w3.cell? ⟨w.heap.size + 2, 10, none⟩ = some (.slice ao0 xd.length cp0) := by rw [bk_cell T3.b2]; rfl
  have y11 : w3.cell? ⟨w.heap.size + 2, 11, none⟩ = some (.slice ao1 xs.length cp1) := by rw [bk_cell T3.b2]; rfl
  have z0 : w3.cell? ⟨w.heap.size + 1, 0, none⟩ = some (.int .i64 0) := by rw [bk_cell T3.b1]; rfl
  have g0 : w3.frozen? ⟨w.heap.size + 1, 0, none⟩ = false := bk_free T3.b1 0
  have z1 : w3.cell? ⟨w.heap.size + 1, 1, none⟩ = some (.int .i64 0) := by rw [bk_cell T3.b1]; rfl
  have g1 : w3.frozen? ⟨w.heap.size + 1, 1, none⟩ = false := bk_free T3.b1 1
  have z2 : w3.cell? ⟨w.heap.size + 1, 2, none⟩ = some (.int .i64 0) := by rw [bk_cell T3.b1]; rfl
  have g2 : w3.frozen? ⟨w.heap.size + 1, 2, none⟩ = false := bk_free T3.b1 2
  have z3 : w3.cell? ⟨w.heap.size + 1, 3, none⟩ = some (.int .i64 0) := by rw [bk_cell T3.b1]; rfl
  have g3 : w3.frozen? ⟨w.heap.size + 1, 3, none⟩ = false := bk_free T3.b1 3
  have z4 : w3.cell? ⟨w.heap.size + 1, 4, none⟩ = some (.int .i64 0) := by rw [bk_cell T3.b1]; rfl
  have g4 : w3.frozen? ⟨w.heap.size + 1, 4, none⟩ = false := bk_free T3.b1 4
  have z5 : w3.cell? ⟨w.heap.size + 1, 5, none⟩ = some (.int .i64 0) := by rw [bk_cell T3.b1]; rfl
  have g5 : w3.frozen? ⟨w.heap.size + 1, 5, none⟩ = false := bk_free T3.b1 5
  have z6 : w3.cell? ⟨w.heap.size + 1, 6, none⟩ = some (.int .i64 0) := by rw [bk_cell T3.b1]; rfl
  have g6 : w3.frozen? ⟨w.heap.size + 1, 6, none⟩ = false := bk_free T3.b1 6
  have z7 : w3.cell? ⟨w.heap.size + 1, 7, none⟩ = some (.int .i64 0) := by rw [bk_cell T3.b1]; rfl
  have g7 : w3.frozen? ⟨w.heap.size + 1, 7, none⟩ = false := bk_free T3.b1 7
  have z8 : w3.cell? ⟨w.heap.size + 1, 8, none⟩ = some (.int .i64 0) := by rw [bk_cell T3.b1]; rfl
  have g8 : w3.frozen? ⟨w.heap.size + 1, 8, none⟩ = false := bk_free T3.b1 8
  have z9 : w3.cell? ⟨w.heap.size + 1, 9, none⟩ = some (.bool false) := by rw [bk_cell T3.b1]; rfl
  have g9 : w3.frozen? ⟨w.heap.size + 1, 9, none⟩ = false := bk_free T3.b1 9
  have z10 : w3.cell? ⟨w.heap.size + 1, 10, none⟩ = some (.slice none 0 0) := by rw [bk_cell T3.b1]; rfl
  have g10 : w3.frozen? ⟨w.heap.size + 1, 10, none⟩ = false := bk_free T3.b1 10
  have z11 : w3.cell? ⟨w.heap.size + 1, 11, none⟩ = some (.slice none 0 0) := by rw [bk_cell T3.b1]; rfl
  have g11 : w3.frozen? ⟨w.heap.size + 1, 11, none⟩ = false := bk_free T3.b1 11
  have z12 : w3.cell? ⟨w.heap.size + 1, 12, none⟩ = some (.slice none 0 0) := by rw [bk_cell T3.b1]; rfl
  have g12 : w3.frozen? ⟨w.heap.size + 1, 12, none⟩ = false := bk_free T3.b1 12
  have H3 : Hid _ := And.intro (T3.stored 12 (.slice ao2 xt.length cp2)) (And.intro o2 b2)
  clear T3 o2 b2
  clear s2 f2 n2
  go_wp2
  try simp only [Exit.inBlock, Exit.then]
  refine bodyPost_ret (v := .agg #[.int .i64 xa0, .int .i64 xa1, .int .i64 xa2, .int .i64 xa3, .int .i64 xa4, .int .i64 xa5, .int .i64 xa6, .int .i64 xa7, .int .i64 xa8, .bool xm, .slice ao0 xd.length cp0, .slice ao1 xs.length cp1, .slice ao2 xt.length cp2]) ?_ rfl ?_
  · refine results_cell_row (t := 35) rfl _ _ (w.heap.size + 1) _ (fr := (0, 0)) _ rfl ?_ Tryz.underlying35 rfl infoPar
    exact (bk_set (bk_set (bk_set (bk_set (bk_set (bk_set (bk_set (bk_set (bk_set (bk_set (bk_set (bk_set (bk_set H3.out.1.b1 0 _) 1 _) 2 _) 3 _) 4 _) 5 _) 6 _) 7 _) 8 _) 9 _) 10 _) 11 _) 12 _).trans (congrArg (fun x => some (Obj.cells x 35 (0, 0))) (by simp))
  · have e1 : ∀ (x : World) (a : Addr) (u : Value), (x.setCell a u).heap.size = x.heap.size := fun x a u => by simp [World.setCell]
    have m0 := owns_mono H1.out.2.1 (base' := w.heap.size + 3) Q0
    have m1 := owns_mono H2.out.2.1 (base' := w.heap.size + 3) (by rw [e1]; exact h1)
    have m2 := owns_mono H3.out.2.1 (base' := w.heap.size + 3) (by rw [e1]; exact h2)
    have n01 := owns_below (owns_cellP (i := 10) (u := .slice ao0 xd.length cp0) m0 (g := w.heap.size + 2) (by omega)) H2.out.2.2
    have n02 := owns_below (owns_cellP (i := 11) (u := .slice ao1 xs.length cp1) n01 (g := w.heap.size + 2) (by omega)) H3.out.2.2
    have n12 := owns_below (owns_cellP (i := 11) (u := .slice ao1 xs.length cp1) m1 (g := w.heap.size + 2) (by omega)) H3.out.2.2
    have fin : ∀ {n : Nat} {v : Value} {xs : List Value}, w3.ownsRow (w.heap.size + 3) 5 1 v n xs → _ := fun h => owns_mono (owns_cellP (i := 12) (u := .slice ao2 xt.length cp2) (owns_cellP (i := 11) (u := .slice ao1 xs.length cp1) (owns_cellP (i := 10) (u := .slice ao0 xd.length cp0) (owns_cellP (i := 9) (u := .bool xm) (owns_cellP (i := 8) (u := .int .i64 xa8) (owns_cellP (i := 7) (u := .int .i64 xa7) (owns_cellP (i := 6) (u := .int .i64 xa6) (owns_cellP (i := 5) (u := .int .i64 xa5) (owns_cellP (i := 4) (u := .int .i64 xa4) (owns_cellP (i := 3) (u := .int .i64 xa3) (owns_cellP (i := 2) (u := .int .i64 xa2) (owns_cellP (i := 1) (u := .int .i64 xa1) (owns_cellP (i := 0) (u := .int .i64 xa0) (owns_cellP (i := 12) (u := .slice ao2 xt.length cp2) h (g := w.heap.size + 2) (by omega)) (g := w.heap.size + 1) (by omega)) (g := w.heap.size + 1) (by omega)) (g := w.heap.size + 1) (by omega)) (g := w.heap.size + 1) (by omega)) (g := w.heap.size + 1) (by omega)) (g := w.heap.size + 1) (by omega)) (g := w.heap.size + 1) (by omega)) (g := w.heap.size + 1) (by omega)) (g := w.heap.size + 1) (by omega)) (g := w.heap.size + 1) (by omega)) (g := w.heap.size + 1) (by omega)) (g := w.heap.size + 1) (by omega)) (g := w.heap.size + 1) (by omega)) (base' := w.heap.size) (by omega)
    have s12 : w1.heap.size ≤ w2.heap.size := by have := H2.out.2.2.size; simpa [World.setCell] using this
    refine ⟨_, rfl, ⟨_, _, _, rfl, fin n02, fin n12, fin m2, ?_, ?_, ?_⟩, ?_⟩
    · exact apart_later H1.out.2.1 H2.out.2.1 (by rw [e1]; exact Nat.le_refl _)
    · exact apart_later H1.out.2.1 H3.out.2.1 (by rw [e1]; exact s12)
    · exact apart_later H2.out.2.1 H3.out.2.1 (by rw [e1]; exact Nat.le_refl _)
    · exact (((((((((((((H3.out.1.bel.setCell (by simp) _).setCell (by simp) _).setCell (by simp) _).setCell (by simp) _).setCell (by simp) _).setCell (by simp) _).setCell (by simp) _).setCell (by simp) _).setCell (by simp) _).setCell (by simp) _).setCell (by simp) _).setCell (by simp) _).setCell (by simp) _)
end Go.Proofs.YteggfkekgdlecaaGreatDoor
