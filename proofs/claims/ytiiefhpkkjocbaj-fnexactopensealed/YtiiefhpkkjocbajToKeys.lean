import Derived.Test.YtiiefhpkkjocbajKeys
import Derived.Test.YtiiefhpkkjocbajToBytes
import Derived.Test.YtiiefhpkkjocbajBlocks
import Derived.Laws.Rows
namespace Go.Proofs.Ytiiefhpkkjocbaj
open Go.RowKit
set_option linter.unusedVariables false

/-- Keys that are being copied: where they were laid, the answer's room, what there is of the copy. -/
structure TkAt (w wx : World) (ins outs : Array Value) : Prop where
  b0 : wx.heap[w.heap.size]? = some (.cells ins 24 (0, 0))
  b1 : wx.heap[w.heap.size + 1]? = some (.cells #[.slice none 0 0, .slice none 0 0, .slice none 0 0, .slice none 0 0] 28 (0, 0))
  b2 : wx.heap[w.heap.size + 2]? = some (.cells outs 28 (0, 0))
  bel : Below w.heap.size w wx
theorem TkAt.lt {w wx : World} {ins outs : Array Value} (h : TkAt w wx ins outs) : w.heap.size + 2 < wx.heap.size := (Array.getElem?_eq_some_iff.1 h.b2).1
theorem TkAt.called {w wx w' : World} {ins outs : Array Value} (h : TkAt w wx ins outs) (hb : Below wx.heap.size wx w') : TkAt w w' ins outs :=
  ⟨(hb.block _ (by have := h.lt; omega)).trans h.b0, (hb.block _ (by have := h.lt; omega)).trans h.b1, (hb.block _ h.lt).trans h.b2, h.bel.trans (hb.mono h.bel.size)⟩
theorem TkAt.stored {w wx : World} {ins outs : Array Value} (h : TkAt w wx ins outs) (i : Nat) (r : Value) : TkAt w (wx.setCell ⟨w.heap.size + 2, i, none⟩ r) ins (outs.setIfInBounds i r) :=
  ⟨(bk_other (by omega) i r).trans h.b0, (bk_other (by omega) i r).trans h.b1, bk_set h.b2 i r, h.bel.setCell (by show w.heap.size ≤ w.heap.size + 2; omega) _⟩
theorem tk_new (w : World) (ins : Array Value) : TkAt w (((w.alloc (.cells ins 24)).alloc (.cells #[.slice none 0 0, .slice none 0 0, .slice none 0 0, .slice none 0 0] 28)).alloc (.cells #[.slice none 0 0, .slice none 0 0, .slice none 0 0, .slice none 0 0] 28)) ins #[.slice none 0 0, .slice none 0 0, .slice none 0 0, .slice none 0 0] := by
  obtain ⟨h0, h1, h2⟩ := bk_new3 w (.cells ins 24) (.cells #[.slice none 0 0, .slice none 0 0, .slice none 0 0, .slice none 0 0] 28) (.cells #[.slice none 0 0, .slice none 0 0, .slice none 0 0, .slice none 0 0] 28)
  exact ⟨h0, h1, h2, (((Below.refl _ _).alloc (Nat.le_refl _) _).alloc (by simp) _).alloc (by simp <;> omega) _⟩
theorem infoKeys : (Try.prog.info? 28).map (·.size) = some 4 := by kernel_rfl
theorem owns_cell2 {wx : World} {base g n i : Nat} {u v : Value} {xs : List Value} (ho : wx.ownsRow base 5 1 v n xs) (hb : g < base) : (wx.setCell ⟨g, i, none⟩ u).ownsRow base 5 1 v n xs :=
  (Only.setCell (w := wx) ⟨g, i, none⟩ u).owns ho (fun k hk e => by have := (ho.lt k hk).1; have := Option.some.inj e; simp only at this; omega)

set_option maxHeartbeats 2000000 in
theorem toKeys (v : Value) (k : K4) (w : World) (h : KRow w v k) (hs : k.small 140737488355328) :
    Calls Try.prog 10 #[v] w fun e w' => ∃ r, e = .returned r ∧ KOwns w' w.heap.size r k ∧ Below w.heap.size w w' := by
  obtain ⟨u0, u1, u2, u3, rfl, p0, p1, p2, p3⟩ := h
  have T0 := tk_new w #[u0, u1, u2, u3]
  have HP : Hid _ := And.intro p0 (And.intro p1 (And.intro p2 (And.intro p3 hs)))
  have H0 : Hid _ := T0
  clear p0 p1 p2 p3 hs T0
  go_enter Try.func10, Try.ntmps10
  go_wp2_with fail
  go_at_call 11
  refine (toBytes u0 k.a _ (HP.out.1.below (H0.out).bel) HP.out.2.2.2.2.1).mono ?_
  rintro e w1 ⟨r0, rfl, o0, b0⟩
  obtain ⟨ao0, cp0, hr0⟩ := (row_of_owns o0).form
  subst hr0
  have T1 := (H0.out).called b0
  have a1 : w1.cell? ⟨w.heap.size, 1, none⟩ = some u1 := by rw [bk_cell T1.b0]; rfl
  have s1 : w1.cell? ⟨w.heap.size + 2, 0, none⟩ = some (.slice none 0 0) := by rw [bk_cell T1.b2]; rfl
  have f1 : w1.frozen? ⟨w.heap.size + 2, 0, none⟩ = false := bk_free T1.b2 0
  have h1 : w.heap.size + 2 < w1.heap.size := T1.lt
  have l1 : w.heap.size + 3 ≤ (((w.alloc (.cells #[u0, u1, u2, u3] 24)).alloc (.cells #[.slice none 0 0, .slice none 0 0, .slice none 0 0, .slice none 0 0] 28)).alloc (.cells #[.slice none 0 0, .slice none 0 0, .slice none 0 0, .slice none 0 0] 28)).heap.size := by simp
  have H1 : Hid _ := And.intro (T1.stored 0 (.slice ao0 k.a.length cp0)) (And.intro o0 b0)
  clear T1 o0 b0
  go_wp2_with fail
  go_at_call 11
  refine (toBytes u1 k.b _ (HP.out.2.1.below (H1.out.1).bel) HP.out.2.2.2.2.2.1).mono ?_
  rintro e w2 ⟨r1, rfl, o1, b1⟩
  obtain ⟨ao1, cp1, hr1⟩ := (row_of_owns o1).form
  subst hr1
  have T2 := (H1.out.1).called b1
  have a2 : w2.cell? ⟨w.heap.size, 2, none⟩ = some u2 := by rw [bk_cell T2.b0]; rfl
  have s2 : w2.cell? ⟨w.heap.size + 2, 1, none⟩ = some (.slice none 0 0) := by rw [bk_cell T2.b2]; rfl
  have f2 : w2.frozen? ⟨w.heap.size + 2, 1, none⟩ = false := bk_free T2.b2 1
  have h2 : w.heap.size + 2 < w2.heap.size := T2.lt
  have l2 : w.heap.size + 3 ≤ w1.heap.size := h1
  have H2 : Hid _ := And.intro (T2.stored 1 (.slice ao1 k.b.length cp1)) (And.intro o1 b1)
  clear T2 o1 b1
  clear s1 f1 a1
  go_wp2_with fail
  go_at_call 11
  refine (toBytes u2 k.c _ (HP.out.2.2.1.below (H2.out.1).bel) HP.out.2.2.2.2.2.2.1).mono ?_
  rintro e w3 ⟨r2, rfl, o2, b2⟩
  obtain ⟨ao2, cp2, hr2⟩ := (row_of_owns o2).form
  subst hr2
  have T3 := (H2.out.1).called b2
  have a3 : w3.cell? ⟨w.heap.size, 3, none⟩ = some u3 := by rw [bk_cell T3.b0]; rfl
  have s3 : w3.cell? ⟨w.heap.size + 2, 2, none⟩ = some (.slice none 0 0) := by rw [bk_cell T3.b2]; rfl
  have f3 : w3.frozen? ⟨w.heap.size + 2, 2, none⟩ = false := bk_free T3.b2 2
  have h3 : w.heap.size + 2 < w3.heap.size := T3.lt
  have l3 : w.heap.size + 3 ≤ w2.heap.size := h2
  have H3 : Hid _ := And.intro (T3.stored 2 (.slice ao2 k.c.length cp2)) (And.intro o2 b2)
  clear T3 o2 b2
  clear s2 f2 a2
  go_wp2_with fail
  go_at_call 11
  refine (toBytes u3 k.d _ (HP.out.2.2.2.1.below (H3.out.1).bel) HP.out.2.2.2.2.2.2.2).mono ?_
  rintro e w4 ⟨r3, rfl, o3, b3⟩
  obtain ⟨ao3, cp3, hr3⟩ := (row_of_owns o3).form
  subst hr3
  have T4 := (H3.out.1).called b3
  have s4 : w4.cell? ⟨w.heap.size + 2, 3, none⟩ = some (.slice none 0 0) := by rw [bk_cell T4.b2]; rfl
  have f4 : w4.frozen? ⟨w.heap.size + 2, 3, none⟩ = false := bk_free T4.b2 3
  have h4 : w.heap.size + 2 < w4.heap.size := T4.lt
  have l4 : w.heap.size + 3 ≤ w3.heap.size := h3
  have y0 : w4.cell? ⟨w.heap.size + 2, 0, none⟩ = some (.slice ao0 k.a.length cp0) := by rw [bk_cell T4.b2]; rfl
  have y1 : w4.cell? ⟨w.heap.size + 2, 1, none⟩ = some (.slice ao1 k.b.length cp1) := by rw [bk_cell T4.b2]; rfl
  have y2 : w4.cell? ⟨w.heap.size + 2, 2, none⟩ = some (.slice ao2 k.c.length cp2) := by rw [bk_cell T4.b2]; rfl
  have z0 : w4.cell? ⟨w.heap.size + 1, 0, none⟩ = some (.slice none 0 0) := by rw [bk_cell T4.b1]; rfl
  have g0 : w4.frozen? ⟨w.heap.size + 1, 0, none⟩ = false := bk_free T4.b1 0
  have z1 : w4.cell? ⟨w.heap.size + 1, 1, none⟩ = some (.slice none 0 0) := by rw [bk_cell T4.b1]; rfl
  have g1 : w4.frozen? ⟨w.heap.size + 1, 1, none⟩ = false := bk_free T4.b1 1
  have z2 : w4.cell? ⟨w.heap.size + 1, 2, none⟩ = some (.slice none 0 0) := by rw [bk_cell T4.b1]; rfl
  have g2 : w4.frozen? ⟨w.heap.size + 1, 2, none⟩ = false := bk_free T4.b1 2
  have z3 : w4.cell? ⟨w.heap.size + 1, 3, none⟩ = some (.slice none 0 0) := by rw [bk_cell T4.b1]; rfl
  have g3 : w4.frozen? ⟨w.heap.size + 1, 3, none⟩ = false := bk_free T4.b1 3
  have H4 : Hid _ := And.intro (T4.stored 3 (.slice ao3 k.d.length cp3)) (And.intro o3 b3)
  clear T4 o3 b3 s3 f3 a3
  go_wp2
  try simp only [Exit.inBlock, Exit.then]
  refine bodyPost_ret (v := .agg #[.slice ao0 k.a.length cp0, .slice ao1 k.b.length cp1, .slice ao2 k.c.length cp2, .slice ao3 k.d.length cp3]) ?_ rfl ?_
  · refine results_cell_row (t := 28) rfl _ _ (w.heap.size + 1) _ (fr := (0, 0)) _ rfl ?_ Try.underlying28 rfl infoKeys
    rw [bk_set (bk_set (bk_set (bk_set H4.out.1.b1 0 _) 1 _) 2 _) 3 _]
    rfl
  · have e1 : ∀ (x : World) (a : Addr) (u : Value), (x.setCell a u).heap.size = x.heap.size := fun x a u => by simp [World.setCell]
    have m0 := owns_mono H1.out.2.1 l1
    have m1 := owns_mono H2.out.2.1 (base' := w.heap.size + 3) (by rw [e1]; exact l2)
    have m2 := owns_mono H3.out.2.1 (base' := w.heap.size + 3) (by rw [e1]; exact l3)
    have m3 := owns_mono H4.out.2.1 (base' := w.heap.size + 3) (by rw [e1]; exact l4)
    have n01 := owns_below (owns_cell2 (i := 0) (u := .slice ao0 k.a.length cp0) m0 (g := w.heap.size + 2) (by omega)) H2.out.2.2
    have n02 := owns_below (owns_cell2 (i := 1) (u := .slice ao1 k.b.length cp1) n01 (g := w.heap.size + 2) (by omega)) H3.out.2.2
    have n03 := owns_below (owns_cell2 (i := 2) (u := .slice ao2 k.c.length cp2) n02 (g := w.heap.size + 2) (by omega)) H4.out.2.2
    have n12 := owns_below (owns_cell2 (i := 1) (u := .slice ao1 k.b.length cp1) m1 (g := w.heap.size + 2) (by omega)) H3.out.2.2
    have n13 := owns_below (owns_cell2 (i := 2) (u := .slice ao2 k.c.length cp2) n12 (g := w.heap.size + 2) (by omega)) H4.out.2.2
    have n23 := owns_below (owns_cell2 (i := 2) (u := .slice ao2 k.c.length cp2) m2 (g := w.heap.size + 2) (by omega)) H4.out.2.2
    have fin : ∀ {n : Nat} {v : Value} {xs : List Value}, w4.ownsRow (w.heap.size + 3) 5 1 v n xs → _ := fun h => owns_mono (owns_cell2 (i := 3) (u := .slice ao3 k.d.length cp3) (owns_cell2 (i := 2) (u := .slice ao2 k.c.length cp2) (owns_cell2 (i := 1) (u := .slice ao1 k.b.length cp1) (owns_cell2 (i := 0) (u := .slice ao0 k.a.length cp0) (owns_cell2 (i := 3) (u := .slice ao3 k.d.length cp3) h (g := w.heap.size + 2) (by omega)) (g := w.heap.size + 1) (by omega)) (g := w.heap.size + 1) (by omega)) (g := w.heap.size + 1) (by omega)) (g := w.heap.size + 1) (by omega)) (base' := w.heap.size) (by omega)
    have s12 : w1.heap.size ≤ w2.heap.size := by have := H2.out.2.2.size; simpa [World.setCell] using this
    have s23 : w2.heap.size ≤ w3.heap.size := by have := H3.out.2.2.size; simpa [World.setCell] using this
    refine ⟨_, rfl, ⟨_, _, _, _, rfl, fin n03, fin n13, fin n23, fin m3, ?_, ?_, ?_, ?_, ?_, ?_⟩, ?_⟩
    · exact apart_later H1.out.2.1 H2.out.2.1 (by rw [e1]; exact Nat.le_refl _)
    · exact apart_later H1.out.2.1 H3.out.2.1 (by rw [e1]; exact s12)
    · exact apart_later H1.out.2.1 H4.out.2.1 (by rw [e1]; omega)
    · exact apart_later H2.out.2.1 H3.out.2.1 (by rw [e1]; exact Nat.le_refl _)
    · exact apart_later H2.out.2.1 H4.out.2.1 (by rw [e1]; exact s23)
    · exact apart_later H3.out.2.1 H4.out.2.1 (by rw [e1]; exact Nat.le_refl _)
    · exact (((H4.out.1.bel.setCell (by simp) _).setCell (by simp) _).setCell (by simp) _).setCell (by simp) _
end Go.Proofs.Ytiiefhpkkjocbaj
