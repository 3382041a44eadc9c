import Derived.Test.YtiiefhpkkjocbakDoorHead8
import Derived.Test.YtiiefhpkkjocbakDoorToBytes
import Derived.Test.YtiiefhpkkjocbakDoorBlocks
import Derived.Laws.Rows
namespace Go.Proofs.YtiiefhpkkjocbakDoor
open Go.RowKit
set_option linter.unusedVariables false

/-- A header that is being copied: where it was laid, the answer's room, what there is of the copy. -/
structure ThAt (w wx : World) (ins outs : Array Value) : Prop where
  b0 : wx.heap[w.heap.size]? = some (.cells ins 32 (0, 0))
  b1 : wx.heap[w.heap.size + 1]? = some (.cells #[.int .i64 0, .int .i64 0, .slice none 0 0, .slice none 0 0, .slice none 0 0, .int .i64 0, .int .i64 0, .int .i64 0] 36 (0, 0))
  b2 : wx.heap[w.heap.size + 2]? = some (.cells outs 36 (0, 0))
  bel : Below w.heap.size w wx
theorem ThAt.lt {w wx : World} {ins outs : Array Value} (h : ThAt w wx ins outs) : w.heap.size + 2 < wx.heap.size := (Array.getElem?_eq_some_iff.1 h.b2).1
theorem ThAt.called {w wx w' : World} {ins outs : Array Value} (h : ThAt w wx ins outs) (hb : Below wx.heap.size wx w') : ThAt w w' ins outs :=
  ⟨(hb.block _ (by have := h.lt; omega)).trans h.b0, (hb.block _ (by have := h.lt; omega)).trans h.b1, (hb.block _ h.lt).trans h.b2, h.bel.trans (hb.mono h.bel.size)⟩
theorem ThAt.stored {w wx : World} {ins outs : Array Value} (h : ThAt w wx ins outs) (i : Nat) (r : Value) : ThAt w (wx.setCell ⟨w.heap.size + 2, i, none⟩ r) ins (outs.setIfInBounds i r) :=
  ⟨(bk_other (by omega) i r).trans h.b0, (bk_other (by omega) i r).trans h.b1, bk_set h.b2 i r, h.bel.setCell (by show w.heap.size ≤ w.heap.size + 2; omega) _⟩
theorem th_new (w : World) (ins outs : Array Value) : ThAt w (((w.alloc (.cells ins 32)).alloc (.cells #[.int .i64 0, .int .i64 0, .slice none 0 0, .slice none 0 0, .slice none 0 0, .int .i64 0, .int .i64 0, .int .i64 0] 36)).alloc (.cells outs 36)) ins outs := by
  obtain ⟨h0, h1, h2⟩ := bk_new3 w (.cells ins 32) (.cells #[.int .i64 0, .int .i64 0, .slice none 0 0, .slice none 0 0, .slice none 0 0, .int .i64 0, .int .i64 0, .int .i64 0] 36) (.cells outs 36)
  exact ⟨h0, h1, h2, (((Below.refl _ _).alloc (Nat.le_refl _) _).alloc (by simp) _).alloc (by simp <;> omega) _⟩
theorem infoHead : (Tryd.prog.info? 36).map (·.size) = some 8 := by kernel_rfl

theorem owns_cell8 {wx : World} {base g n i : Nat} {u v : Value} {xs : List Value} (ho : wx.ownsRow base 5 1 v n xs) (hb : g < base) : (wx.setCell ⟨g, i, none⟩ u).ownsRow base 5 1 v n xs :=
  (Only.setCell (w := wx) ⟨g, i, none⟩ u).owns ho (fun k hk e => by have := (ho.lt k hk).1; have := Option.some.inj e; simp only at this; omega)
set_option maxRecDepth 20000 in
set_option maxHeartbeats 4000000 in
theorem toHead (v : Value) (h : H8) (w : World) (hr : HRow w v h) (hs : h.small 140737488355328) :
    Calls Tryd.prog 17 #[v] w fun e w' => ∃ r, e = .returned r ∧ HOwns w' w.heap.size r h ∧ Below w.heap.size w w' := by
  obtain ⟨xf, xv, xd, xs, xt, xn, xl, xp⟩ := h
  obtain ⟨u0, u1, u2, rfl, p0, p1, p2⟩ := hr
  dsimp only at p0 p1 p2 ⊢
  have T0 := th_new w #[.int .i64 xf, .int .i64 xv, u0, u1, u2, .int .i64 xn, .int .i64 xl, .int .i64 xp] #[.int .i64 xf, .int .i64 xv, .slice none 0 0, .slice none 0 0, .slice none 0 0, .int .i64 0, .int .i64 0, .int .i64 0]
  have HP : Hid _ := And.intro p0 (And.intro p1 (And.intro p2 hs))
  have H0 : Hid _ := T0
  clear p0 p1 p2 hs T0
  go_enter Tryd.func17, Tryd.ntmps17
  go_wp2_with fail
  go_at_call 8
  refine (toBytes u0 xd _ (HP.out.1.below (H0.out).bel) HP.out.2.2.2.1).mono ?_
  rintro e w1 ⟨r0, rfl, o0, b0⟩
  obtain ⟨ao0, cp0, hr0⟩ := (row_of_owns o0).form
  subst hr0
  have T1 := (H0.out).called b0
  have h1 : w.heap.size + 2 < w1.heap.size := T1.lt
  have s1_2 : w1.cell? ⟨w.heap.size + 2, 2, none⟩ = some (.slice none 0 0) := by rw [bk_cell T1.b2]; rfl
  have f1_2 : w1.frozen? ⟨w.heap.size + 2, 2, none⟩ = false := bk_free T1.b2 2
  have a1_3 : w1.cell? ⟨w.heap.size, 3, none⟩ = some (u1) := by rw [bk_cell T1.b0]; rfl
  have l1 : w.heap.size + 3 ≤ (((w.alloc (.cells #[.int .i64 xf, .int .i64 xv, u0, u1, u2, .int .i64 xn, .int .i64 xl, .int .i64 xp] 32)).alloc (.cells #[.int .i64 0, .int .i64 0, .slice none 0 0, .slice none 0 0, .slice none 0 0, .int .i64 0, .int .i64 0, .int .i64 0] 36)).alloc (.cells #[.int .i64 xf, .int .i64 xv, .slice none 0 0, .slice none 0 0, .slice none 0 0, .int .i64 0, .int .i64 0, .int .i64 0] 36)).heap.size := by simp
  have H1 : Hid _ := And.intro (T1.stored 2 (.slice ao0 xd.length cp0)) (And.intro o0 b0)
  clear T1 o0 b0
  go_wp2_with fail
  go_at_call 8
  refine (toBytes u1 xs _ (HP.out.2.1.below (H1.out.1).bel) HP.out.2.2.2.2.1).mono ?_
  rintro e w2 ⟨r1, rfl, o1, b1⟩
  obtain ⟨ao1, cp1, hr1⟩ := (row_of_owns o1).form
  subst hr1
  have T2 := (H1.out.1).called b1
  have h2 : w.heap.size + 2 < w2.heap.size := T2.lt
  have s2_3 : w2.cell? ⟨w.heap.size + 2, 3, none⟩ = some (.slice none 0 0) := by rw [bk_cell T2.b2]; rfl
  have f2_3 : w2.frozen? ⟨w.heap.size + 2, 3, none⟩ = false := bk_free T2.b2 3
  have a2_4 : w2.cell? ⟨w.heap.size, 4, none⟩ = some (u2) := by rw [bk_cell T2.b0]; rfl
  have l2 : w.heap.size + 3 ≤ w1.heap.size := h1
  have H2 : Hid _ := And.intro (T2.stored 3 (.slice ao1 xs.length cp1)) (And.intro o1 b1)
  clear T2 o1 b1
  clear s1_2 f1_2 a1_3
  go_wp2_with fail
  go_at_call 8
  refine (toBytes u2 xt _ (HP.out.2.2.1.below (H2.out.1).bel) HP.out.2.2.2.2.2).mono ?_
  rintro e w3 ⟨r2, rfl, o2, b2⟩
  obtain ⟨ao2, cp2, hr2⟩ := (row_of_owns o2).form
  subst hr2
  have T3 := (H2.out.1).called b2
  have h3 : w.heap.size + 2 < w3.heap.size := T3.lt
  have s3_4 : w3.cell? ⟨w.heap.size + 2, 4, none⟩ = some (.slice none 0 0) := by rw [bk_cell T3.b2]; rfl
  have f3_4 : w3.frozen? ⟨w.heap.size + 2, 4, none⟩ = false := bk_free T3.b2 4
  have s3_5 : w3.cell? ⟨w.heap.size + 2, 5, none⟩ = some (.int .i64 0) := by rw [bk_cell T3.b2]; rfl
  have f3_5 : w3.frozen? ⟨w.heap.size + 2, 5, none⟩ = false := bk_free T3.b2 5
  have s3_6 : w3.cell? ⟨w.heap.size + 2, 6, none⟩ = some (.int .i64 0) := by rw [bk_cell T3.b2]; rfl
  have f3_6 : w3.frozen? ⟨w.heap.size + 2, 6, none⟩ = false := bk_free T3.b2 6
  have s3_7 : w3.cell? ⟨w.heap.size + 2, 7, none⟩ = some (.int .i64 0) := by rw [bk_cell T3.b2]; rfl
  have f3_7 : w3.frozen? ⟨w.heap.size + 2, 7, none⟩ = false := bk_free T3.b2 7
  have a3_5 : w3.cell? ⟨w.heap.size, 5, none⟩ = some (.int .i64 xn) := by rw [bk_cell T3.b0]; rfl
  have a3_6 : w3.cell? ⟨w.heap.size, 6, none⟩ = some (.int .i64 xl) := by rw [bk_cell T3.b0]; rfl
  have a3_7 : w3.cell? ⟨w.heap.size, 7, none⟩ = some (.int .i64 xp) := by rw [bk_cell T3.b0]; rfl
  have l3 : w.heap.size + 3 ≤ w2.heap.size := h2
  have y0 : w3.cell? ⟨w.heap.size + 2, 0, none⟩ = some (.int .i64 xf) := by rw [bk_cell T3.b2]; rfl
  have y1 : w3.cell? ⟨w.heap.size + 2, 1, none⟩ = some (.int .i64 xv) := by rw [bk_cell T3.b2]; rfl
  have y2 : w3.cell? ⟨w.heap.size + 2, 2, none⟩ = some (.slice ao0 xd.length cp0) := by rw [bk_cell T3.b2]; rfl
  have y3 : w3.cell? ⟨w.heap.size + 2, 3, none⟩ = some (.slice ao1 xs.length cp1) := by rw [bk_cell T3.b2]; rfl
  have z0 : w3.cell? ⟨w.heap.size + 1, 0, none⟩ = some (.int .i64 0) := by rw [bk_cell T3.b1]; rfl
  have g0 : w3.frozen? ⟨w.heap.size + 1, 0, none⟩ = false := bk_free T3.b1 0
  have z1 : w3.cell? ⟨w.heap.size + 1, 1, none⟩ = some (.int .i64 0) := by rw [bk_cell T3.b1]; rfl
  have g1 : w3.frozen? ⟨w.heap.size + 1, 1, none⟩ = false := bk_free T3.b1 1
  have z2 : w3.cell? ⟨w.heap.size + 1, 2, none⟩ = some (.slice none 0 0) := by rw [bk_cell T3.b1]; rfl
  have g2 : w3.frozen? ⟨w.heap.size + 1, 2, none⟩ = false := bk_free T3.b1 2
  have z3 : w3.cell? ⟨w.heap.size + 1, 3, none⟩ = some (.slice none 0 0) := by rw [bk_cell T3.b1]; rfl
  have g3 : w3.frozen? ⟨w.heap.size + 1, 3, none⟩ = false := bk_free T3.b1 3
  have z4 : w3.cell? ⟨w.heap.size + 1, 4, none⟩ = some (.slice none 0 0) := by rw [bk_cell T3.b1]; rfl
  have g4 : w3.frozen? ⟨w.heap.size + 1, 4, none⟩ = false := bk_free T3.b1 4
  have z5 : w3.cell? ⟨w.heap.size + 1, 5, none⟩ = some (.int .i64 0) := by rw [bk_cell T3.b1]; rfl
  have g5 : w3.frozen? ⟨w.heap.size + 1, 5, none⟩ = false := bk_free T3.b1 5
  have z6 : w3.cell? ⟨w.heap.size + 1, 6, none⟩ = some (.int .i64 0) := by rw [bk_cell T3.b1]; rfl
  have g6 : w3.frozen? ⟨w.heap.size + 1, 6, none⟩ = false := bk_free T3.b1 6
  have z7 : w3.cell? ⟨w.heap.size + 1, 7, none⟩ = some (.int .i64 0) := by rw [bk_cell T3.b1]; rfl
  have g7 : w3.frozen? ⟨w.heap.size + 1, 7, none⟩ = false := bk_free T3.b1 7
  have H3 : Hid _ := And.intro ((((T3.stored 4 (.slice ao2 xt.length cp2)).stored 5 (.int .i64 xn)).stored 6 (.int .i64 xl)).stored 7 (.int .i64 xp)) (And.intro o2 b2)
  clear T3 o2 b2
  clear s2_3 f2_3 a2_4
  go_wp2
  try simp only [Exit.inBlock, Exit.then]
  refine bodyPost_ret (v := .agg #[.int .i64 xf, .int .i64 xv, .slice ao0 xd.length cp0, .slice ao1 xs.length cp1, .slice ao2 xt.length cp2, .int .i64 xn, .int .i64 xl, .int .i64 xp]) ?_ rfl ?_
  · refine results_cell_row (t := 36) rfl _ _ (w.heap.size + 1) _ (fr := (0, 0)) _ rfl ?_ Tryd.underlying36 rfl infoHead
    rw [bk_set (bk_set (bk_set (bk_set (bk_set (bk_set (bk_set (bk_set (H3.out.1.b1) 0 _) 1 _) 2 _) 3 _) 4 _) 5 _) 6 _) 7 _]
    rfl
  · have e1 : ∀ (x : World) (a : Addr) (u : Value), (x.setCell a u).heap.size = x.heap.size := fun x a u => by simp [World.setCell]
    have m0 := owns_mono H1.out.2.1 (base' := w.heap.size + 3) l1
    have m1 := owns_mono H2.out.2.1 (base' := w.heap.size + 3) (by rw [e1]; exact l2)
    have m2 := owns_mono H3.out.2.1 (base' := w.heap.size + 3) (by rw [e1]; exact l3)
    have n01 := owns_below (owns_cell8 (i := 2) (u := .slice ao0 xd.length cp0) m0 (g := w.heap.size + 2) (by omega)) H2.out.2.2
    have n02 := owns_below (owns_cell8 (i := 3) (u := .slice ao1 xs.length cp1) n01 (g := w.heap.size + 2) (by omega)) H3.out.2.2
    have n12 := owns_below (owns_cell8 (i := 3) (u := .slice ao1 xs.length cp1) m1 (g := w.heap.size + 2) (by omega)) H3.out.2.2
    have fin : ∀ {n : Nat} {v : Value} {xs : List Value}, w3.ownsRow (w.heap.size + 3) 5 1 v n xs → _ := fun h => owns_mono (owns_cell8 (i := 7) (u := .int .i64 xp) (owns_cell8 (i := 6) (u := .int .i64 xl) (owns_cell8 (i := 5) (u := .int .i64 xn) (owns_cell8 (i := 4) (u := .slice ao2 xt.length cp2) (owns_cell8 (i := 3) (u := .slice ao1 xs.length cp1) (owns_cell8 (i := 2) (u := .slice ao0 xd.length cp0) (owns_cell8 (i := 1) (u := .int .i64 xv) (owns_cell8 (i := 0) (u := .int .i64 xf) (owns_cell8 (i := 7) (u := .int .i64 xp) (owns_cell8 (i := 6) (u := .int .i64 xl) (owns_cell8 (i := 5) (u := .int .i64 xn) (owns_cell8 (i := 4) (u := .slice ao2 xt.length cp2) h (g := w.heap.size + 2) (by omega)) (g := w.heap.size + 2) (by omega)) (g := w.heap.size + 2) (by omega)) (g := w.heap.size + 2) (by omega)) (g := w.heap.size + 1) (by omega)) (g := w.heap.size + 1) (by omega)) (g := w.heap.size + 1) (by omega)) (g := w.heap.size + 1) (by omega)) (g := w.heap.size + 1) (by omega)) (g := w.heap.size + 1) (by omega)) (g := w.heap.size + 1) (by omega)) (g := w.heap.size + 1) (by omega)) (base' := w.heap.size) (by omega)
    have s12 : w1.heap.size ≤ w2.heap.size := by have := H2.out.2.2.size; simpa [World.setCell] using this
    refine ⟨_, rfl, ⟨_, _, _, rfl, fin n02, fin n12, fin m2, ?_, ?_, ?_⟩, ?_⟩
    · exact apart_later H1.out.2.1 H2.out.2.1 (by rw [e1]; exact Nat.le_refl _)
    · exact apart_later H1.out.2.1 H3.out.2.1 (by rw [e1]; exact s12)
    · exact apart_later H2.out.2.1 H3.out.2.1 (by rw [e1]; exact Nat.le_refl _)
    · exact ((((((((H3.out.1.bel.setCell (by simp) _).setCell (by simp) _).setCell (by simp) _).setCell (by simp) _).setCell (by simp) _).setCell (by simp) _).setCell (by simp) _).setCell (by simp) _)
end Go.Proofs.YtiiefhpkkjocbakDoor
